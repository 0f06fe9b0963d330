import PyProof.Rows.All
import Wide.All
import OpenK.AllK
import Wide.FinOn
import Lean
import PyProof.EqAt
import PyProof.EqKinds
import PyProof.TupleCall
import PyProof.NeKinds
import KE.RegKIsAll
import PyProof.ExcClass3
import PySem.SetTable
import PySem.Value
import PyProof.Rows.SortShellK
import OpenK.KOwn
import KE.KNestM
import PyProof.Rows.StrWeight2
import PyProof.CollectIter
import PyProof.SetKind
import PyProof.Walks
import PyProof.ForAny
import PyProof.FactsAll.set_1
import PyProof.FactsAll.set_2
import PyProof.ZipIter
import KE.KRevIter
import PyProof.ListNew
import PyProof.ConsumeS
import KE.KIsAll
import PyProof.DictWalks
import KE.KDictList
import PySem.Challenge.RW_stakebodies_k41_rooms_by_faces
set_option Elab.async false
set_option linter.all false
set_option backward.eqns.nonrecursive false
set_option maxRecDepth 100000
set_option maxHeartbeats 4000000
theorem jk{c:Prop}{h:Decidable c}(k:c){α:Sort _}{t e:α}:ite c t e=t:=if_pos k
theorem ka{c:Prop}{h:Decidable c}(k:¬c){α:Sort _}{t e:α}:ite c t e=e:=if_neg k
theorem kb{α:Sort _}{β:Sort _}{a b:α}(f:α->β)(h:a=b):f a=f b:=congrArg f h
abbrev kc:=PySem.W.Frag
abbrev kd:PySem.Str:="__debug__"
abbrev km:PySem.Str:="__classdict__"
open PySem renaming Value → ao, wpAny → av, starEach → az, Shared → aA, Addr → a5, model → a9, Program → ba, mainGlobals → bb, Around → bc, World → be, Heap → bt, Stmt → bM, Expr → cf, backTo → cp, cLine → cq, bootBuiltins → cu, eval → cv, rawInt → dm, FuncData → dq, cellsFrom → dz, swapsWith → dA, foldedSetIterable → dC, assignEach → d3, binaryOp → d7, NameKind → ee, compareOp → ek, argBest → eu, SetTable → eQ, codeAmong → eR, attributeBase → eY, pyNext → ff, codeAny → fg, IsPair → fh, sysModules → fo, sliceBounds → gn, DictEntry → gq, numAt → gA, assign → gB, updateSeq → gW, holding → hV, swapsWithSole → h9, swappedStores → ia, behindInMarks → ik, Scope → iu, pickOrder → jb, wpAny_bind → aAa, wpAny_pure → aAb, wpAny_holding → aAN, wpAny_newObj_type → aAY, wpAny_Call_Name_kw → aAZ, wpAny_call_entry → aBn, wpAny_specialOf → aBD, codeAny_builtin → aBE, wpAny_seqItems → aBT, plainId_quiet → aBW, wpAny_truthy_bool → aCb, wpAny_callSpecial?_slot → aCe, wpAny_setField_rec → aCg, wpAny_updateSeq → aCi, wpAny_setState_of → aCq, builtinLookup_eq_fast → aCx, wpAny_forIn_list → aCC, wpAny_mono → aCI, wpAny_field → aCV, wpAny_passesOwn → aCY, wpAny_isInstance → aDi, wpAny_typeNameOfWhole_keyiter → aDk, wpAny_nextOf_list_item → aDo, wpAny_callSpecialIfBoundUnlessNone?_slot → aDt, typeLookup_type → aDz, wpAny_rule → aDC, wpAny_pyIter_list → aDE, codeAny_mono → aDS, wpAny_typeOf → aDT, wpAny_comprehension_free → aDU, wpAny_attempt → aDZ, wpAny_Assign_Name → aEi, wpAny_pyIter_slot → aEk, wpAny_letGo → aEm, wpAny_execs_cons → aEv, wpAny_standAt → aEC, wpAny_execs_nil → aEG, wpAny_loadPart' → aEH, pushCells_keeps → aEI, wpAny_setEntries_of → aEK, slot_dict_contains → aFf, isSubtype_type → aFi, wpAny_tryCatch → aFj, sizeLine_eq → aFr, noFill_tuple_add → aFx, beq_builtin_none → aFz, wpAny_askSetting → aFA, concat_meets → aFL, wpAny_newTuple → aFY, wpAny_runValue → aGb, wpAny_fieldsOf → aGc, wpAny_setField → aGd, isSubtype_stop → aGe, wpAny_of_eq → aGl
open PySem.Heap renaming get?_push_of_some → aAc, lt_size → aAf, get?_push_size → aAp, get?_update_other → aAF, get?_update_self → aBr, size_push → aBG, get?_none_of_le → aEB
open List renaming mem_cons → aAd, mem_cons_of_mem → aAe, getElem?_eq_getElem → aAg, length_map → aAi, mem_map → aAk, map_cons → aAn, getD_eq_getElem?_getD → aAo, size_toArray → aAq, length_cons → aAr, mem_of_getElem? → aAu, getElem?_eq_some_iff → aAw, pairwise_cons → aAz, getElem?_append_right → aAA, length_append → aAC, cons_append → aAD, getElem?_map → aAE, mem_append_right → aAH, nodup_cons → aAI, reverse_cons → aAJ, mem_append → aAL, not_mem_nil → aAP, range → aAQ, length_nil → aAR, getElem?_append_left → aAS, map_map → aAV, mem_singleton → aAX, set_cons_succ → aBa, set_cons_zero → aBb, mem_flatMap → aBf, lookup_cons → aBh, getElem_of_mem → aBi, append_nil → aBk, replicate_zero → aBl, pairwise_map → aBm, getLast?_cons_cons → aBo, mem_cons_self → aBp, nil_append → aBq, dropLast_concat → aBt, mem_append_left → aBu, map_append → aBw, mem_range → aBA, getElem?_replicate → aBC, getElem?_zip_eq_some → aBF, map_nil → aBH, getElem?_set_self → aBI, lookup_cons_self → aBL, all_eq_true → aBN, perm_ext_iff_of_nodup → aBO, mem_filter → aBS, length_take → aBV, replicate_succ → aBZ, mem_iff_getElem? → aCa, zip_cons_cons → aCc, mem_filterMap → aCd, getElem_mem → aCl, nodup_iff_pairwise_ne → aCm, nodup_append → aCo, mem_map_of_mem → aCp, pairwise_iff_getElem → aCr, getElem?_eq_none_iff → aCt, length_replicate → aCv, mem_reverse → aCB, getElem?_set_ne → aCD, sum_cons → aCE, getElem?_cons_zero → aCF, map_congr_left → aCK, filterMap_cons → aCL, length_reverse → aCN, getElem?_toArray → aCS, replicate → aCT, mem_of_getLast? → aCX, forIn_cons → aDb, length_range → aDd, eq_nil_of_length_eq_zero → aDj, nodup_nil → aDl, take_of_length_le → aDn, filterMap_map → aDp, map → aDr, foldl_cons → aDw, length_filter_le → aDA, flatMap_cons → aDB, set → aDF, exists_cons_of_ne_nil → aDG, mem_of_mem_drop → aDI, drop_eq_getElem_cons → aDL, length_drop → aDO, length_pos_iff → aDQ, pairwise_singleton → aDW, of_mem_zip → aDX, getElem?_cons_succ → aEc, length_pos_of_mem → aEf, range_succ_eq_map → aEg, ext_getElem? → aEh, append_assoc → aEj, forIn_nil → aEn, pairwise_reverse → aEo, dropLast_eq_take → aEt, any_eq_true → aEu, zipIdx_cons → aEx, getElem_map → aEy, mem_of_mem_take → aEA, zipIdx_nil → aEJ, range' → aEO, head?_reverse → aEU, getLast?_cons → aEV, exists_mem_of_ne_nil → aFg, mem_of_find?_eq_some → aFh, length_erase_of_mem → aFl, range'_eq_map_range → aFq, eraseIdx_cons_succ → aFs, map_fst_zip → aFw, map_reverse → aFy, filter_eq_nil_iff → aFF, take_append_drop → aFG, mem_erase_of_ne → aFQ, length_dropLast → aFS, range_eq_range' → aFX, drop_zero → aGa, all_cons → aGo
open False renaming elim → aAh
open Nat renaming le_refl → aAj, ne_of_lt → aAl, le_trans → aAs, lt_of_lt_of_le → aAv, zero_le → aAM, lt_irrefl → aBv, lt_succ_of_lt → aBz, reduceAdd → aCj, reduceSub → aCk, le_of_succ_le → aCJ, lt_of_le_of_lt → aCQ, ne_of_gt → aCR, mul_le_mul → aCW, lt_succ_self → aDh, lt_or_eq_of_le → aDq, le_of_lt → aDx, le_add_right → aDP, zero_add → aDR, le_of_eq → aEs, le_of_not_lt → aEw, mod_lt → aED, lt_or_gt_of_ne → aEZ, le_of_lt_succ → aFn, gcd_dvd_left → aFv, min_eq_right → aFC, not_lt_zero → aFI, min_eq_left → aFJ, gcd_comm → aFO, gcd → aGg, succ_mul → aGC, add_comm → aGD, lt_trans → aGE, succ_pos → aGF
open Option.some renaming inj → aAm, injEq → aGv
open Bool renaming false_eq_true → aAt, and_eq_true → aAO, false_ne_true → aBg, not_true → aDf, eq_iff_iff → aEa, and_eq_true_iff → aFW, and_false → aFZ, not_false → aGf
open Array renaming getElem?_eq_getElem → aAx, getElem?_toList → aAB, length_toList → aBj, getElem?_eq_none → aBJ, getElem?_eq_some_iff → aCn, forIn_toList → aCz, replicate → aEF, perm_iff_toList_perm → aER, getD → aFm, toList → aFK, getElem_toList → aFV, toList_append → aGk
open Int renaming mul_eq_zero → aAy, mul_pos → aAG, le_of_lt → aAT, mul_le_mul_of_nonneg_right → aAU, mul_le_mul_of_nonneg_left → aBc, mul_neg_of_pos_of_neg → aBs, toNat_natCast → aBx, mul_nonneg → aBR, le_refl → aBX, neg_mul_neg → aDu, lt_or_le → aDv, eq_of_mul_eq_mul_left → aDJ, mul_nonpos_of_nonneg_of_nonpos → aDV, mul_zero → aEp, mul_ediv_cancel' → aEz, toNat → aEL, mul_lt_mul_of_pos_left → aEP, le_of_mul_le_mul_right → aEQ, fmod_eq_emod_of_nonneg → aET, natAbs_eq_zero → aEW, ofNat_dvd_left → aEX, neg_nonneg_of_nonpos → aFk, gcd → aGy, le_total → aGA, mul_comm → aGB
open PySem.Builtin.Tuple renaming tupleHashOf → aAK, tupleExact → aCZ, tupleItemsOf → aDH
open PySem.PassesOwn renaming never → aAW
open PySem.Builtin.Int renaming intBits → aBd
open PySem.Around renaming under_plainId → aBe, frames_deeper → aFR
open PyProof.Rows renaming callWith_type1 → aBy, wpS_bind → aBB, envOfC → aBM, callWith_builtin1 → aBP, wpS_pure → aCs, slot_tuple_getitem → aCH, wpS_forRange → aEq, listItems_at → aEr, pairsOf_size → aFa, assignInOrder_cons → aFb, KK_mirror_equal → aFH, mirror_perm → aGh, wpS_reverse → aGi
open Or renaming inr → aBK, inl → aCw
open PySem.Obj renaming mapSeq → aBQ, putSet → aEE
open PySem.Builtin.SmallTypes renaming nextOf → aBU, ownedTupleIsFree → aBY, ownedTupleHandOut → aDN
open PySem.NameKind renaming cell → aCf
open PySem.Builtin.List renaming listExtendWith → aCh, listLengthHint → aCM, listItems → aCO, listTooLong → aDa, listSameRef → aDc, listTouch → aFE
open ForInStep renaming yield → aCu
open PySem.Value renaming type → aCy, ref → aDy, bool → aDD, builtin → aGp, int → aGJ
open Ne renaming symm → aCA
open PySem.Builtin.Range renaming rangeSize → aCG, small → aGj
open PySem.F renaming plain_min_loop → aCP, plain_extend_loop → aDg, slot_dict_keyiterator_next → aDs, slot_zip_next → aEe, entry_min_loop → aFB
open PySem.Builtin.Slice renaming slicePlaces → aCU, sliceAdjust → aDK, sliceApplied → aES
open PySem.Str renaming ofString → aDe
open Option renaming map_eq_some_iff → aDm, isSome_iff_exists → aFp
open PySem.SetTable renaming below → aDM, bits → aDY, fits → aGq, insertAt → aGz, tooFull → aGH
open PySem.SeqAt.EqAt renaming same → aEb, int_int → aFd, of_refs → aFe, int_tuple → aFT, tuple_int → aFU, int_str → aGm, str_int → aGn
open Classical renaming propDecidable → aEd
open PySem.Heap.SameBut renaming update → aEM, refl → aGx
open PySem.Builtin.Builtins renaming bindParams → aEN
open Prod renaming ext → aEY
open PySem.Calls renaming spliced_cons → aFc, spliced_nil → aFo, callWith_builtin → aFD
open PySem.Moved renaming trans → aFt
open PySem.Builtin.Frozenset renaming slot0 → aFu
open List.cons renaming injEq → aFM
open PySem.Builtin.Dict renaming showsAll → aFN
open List.Pairwise renaming filter → aFP, nil → aGs
open Function renaming comp → aGr
open Sum renaming inl → aGt, inr → aGu
open True renaming intro → aGw
open PySem.pickOrder renaming go → aGG
open Array.Perm renaming refl → aGI
abbrev E8:=PySem.Value->PySem.Shared->Prop
abbrev R0:=List (PySem.Addr×PySem.Obj)
abbrev cV:=PySem.Str->Option PySem.Value
abbrev zW:=Bool->PySem.Shared->Prop
noncomputable section
namespace G
structure V where
 x:Int
 y:Int
 z:Int
deriving DecidableEq
instance:Add V:=⟨λu v=>⟨u.x+v.x,u.y+v.y,u.z+v.z⟩⟩
instance:Sub V:=⟨λu v=>⟨u.x-v.x,u.y-v.y,u.z-v.z⟩⟩
instance:Neg V:=⟨λu=>⟨-u.x,-u.y,-u.z⟩⟩
instance:HMul Int V V:=⟨λk u=>⟨k*u.x,k*u.y,k*u.z⟩⟩
instance:OfNat V 0:=⟨⟨0,0,0⟩⟩
@[simp]def a5d (u v:V):(u+v).x=u.x+v.x:=rfl
@[simp]def a4t (u v:V):(u+v).y=u.y+v.y:=rfl
@[simp]def a4r (u v:V):(u+v).z=u.z+v.z:=rfl
@[simp]def MO (u v:V):(u-v).x=u.x-v.x:=rfl
@[simp]def SK (u v:V):(u-v).y=u.y-v.y:=rfl
@[simp]def QT (u v:V):(u-v).z=u.z-v.z:=rfl
@[simp]def ZD (u:V):(-u).x=-u.x:=rfl
@[simp]def ZA (u:V):(-u).y=-u.y:=rfl
@[simp]def ZE (u:V):(-u).z=-u.z:=rfl
@[simp]def TD (k:Int)(u:V):(k*u).x=k*u.x:=rfl
@[simp]def TF (k:Int)(u:V):(k*u).y=k*u.y:=rfl
@[simp]def NG (k:Int)(u:V):(k*u).z=k*u.z:=rfl
@[simp]def aH:(0:V).x=0:=rfl
@[simp]def aI:(0:V).y=0:=rfl
@[simp]def aG:(0:V).z=0:=rfl
def ext {u v:V}(a:u.x=v.x)(b:u.y=v.y)(d:u.z=v.z):u=v:=by cases u;cases v;simp_all
def qO {u v:V}:u=v↔u.x=v.x/\u.y=v.y/\u.z=v.z:=⟨λh=>by subst h;exact⟨rfl,rfl,rfl⟩,λ⟨a,b,c⟩=>ext a b c⟩
def d5 (u v:V):Int:=u.x*v.x+u.y*v.y+u.z*v.z
def cr (u v:V):V:=⟨u.y*v.z-u.z*v.y,u.z*v.x-u.x*v.z,u.x*v.y-u.y*v.x⟩
def i9 (a u v:V):Int:=d5 a (cr u v)
@[simp]def QX (u v:V):(cr u v).x=u.y*v.z-u.z*v.y:=rfl
@[simp]def OP (u v:V):(cr u v).y=u.z*v.x-u.x*v.z:=rfl
@[simp]def NZ (u v:V):(cr u v).z=u.x*v.y-u.y*v.x:=rfl
def DC (a u v w:V):i9 a u v*w+i9 a v w*u+i9 a w u*v=i9 u v w*a:=by apply ext<;>simp[i9,d5]<;>grind
def NC (f a u v w:V):i9 a u v*d5 f w+i9 a v w*d5 f u+i9 a w u*d5 f v=i9 u v w*d5 f a:=by simp[i9,d5];grind
def l3 (a u v:V):i9 a v u=-i9 a u v:=by simp[i9,d5];grind
def D2 (a u:V):i9 a u u=0:=by simp[i9,d5];grind
def bA (a u v w:V):i9 a (u+v) w=i9 a u w+i9 a v w:=by simp[i9,d5];grind
def aQ (a u v w:V):i9 a u (v+w)=i9 a u v+i9 a u w:=by simp[i9,d5];grind
def QB (a u v w:V):i9 a u (v-w)=i9 a u v-i9 a u w:=by simp[i9,d5];grind
def BV (a:V)(k:Int)(u v:V):i9 a u (k*v)=k*i9 a u v:=by simp[i9,d5];grind
def dS (u v:V):d5 u v=d5 v u:=by simp[d5];grind
def cF (f u v:V):d5 f (u+v)=d5 f u+d5 f v:=by simp[d5];grind
def e9 (f u v:V):d5 f (u-v)=d5 f u-d5 f v:=by simp[d5];grind
def v7 (f:V)(k:Int)(v:V):d5 f (k*v)=k*d5 f v:=by simp[d5];grind
def K4 (f:V)(k:Int)(v:V):d5 (k*f) v=k*d5 f v:=by simp[d5];grind
def N7 (f:V):d5 f 0=0:=by simp[d5]
def U7 (a u v:V):d5 (cr a u) v=i9 a u v:=by simp[i9,d5];grind
def x8 {u:V}(h:u≠0):0<d5 u u:=by
 have f:u.x≠0\/u.y≠0\/u.z≠0:=by
  by_cases a:u.x=0
  .by_cases b:u.y=0
   .by_cases c:u.z=0
    .exact absurd (ext a b c) h
    .exact .inr (.inr c)
   .exact .inr (.inl b)
  .exact .inl a
 have e:∀t:Int,0<=t*t:=λt=>by
  rcases aGA 0 t with q|q
  .exact aBR q q
  .have:=aBR (aFk q) (aFk q);rwa [aDu]at this
 have d:∀t:Int,t≠0->0<t*t:=λt g=>by
  have:=e t;have:t*t≠0:=λz=>by rcases aAy.mp z with q|q<;>exact g q
  omega
 have a:=e u.x;have b:=e u.y;have c:=e u.z;unfold d5;rcases f with q|q|q
 .have:=d _ q;omega
 .have:=d _ q;omega
 .have:=d _ q;omega
def A2 (h:n≠0)(a:d5 n u=0)(b:d5 n v=0)(d:d5 n w=0):i9 u v w=0:=by
 have e:i9 u v w*d5 n n=0:=by have:=NC n n u v w;rw[a,b,d]at this;simp at this;omega
 rcases aAy.mp e with q|q
 .exact q
 .have:=x8 h;omega
def x6 (v:V):(0:Int)*v=0:=ext (by simp) (by simp) (by simp)
def qI (v:V):v+0=v:=ext (by simp) (by simp) (by simp)
def gR (v:V):0+v=v:=ext (by simp) (by simp) (by simp)
structure Cone (Pos:V->Prop):Prop where
 add:∀{u v},Pos u->Pos v->Pos (u+v)
 mul:∀{k:Int} {u},0<k->Pos u->Pos (k*u)
 irr:¬Pos 0
section
variable{Pos:V->Prop} (C:Cone Pos)
include C
theorem Cone.comb {p q:Int}{u w:V}(a:0<p)(e:0<=q)(b:Pos w)(d:Pos u):Pos (p*w+q*u):=by
 by_cases h:q=0
 .subst h;rw[x6,qI];exact C.mul a b
 .exact C.add (C.mul a b) (C.mul (by lia) d)
theorem Cone.sgn {k:Int}{v:V}(b:Pos v)(h:Pos (k*v)):0<k:=by
 by_cases d:0<k
 .exact d
 .exfalso;by_cases f:k=0
  .subst f;rw[x6]at h;exact C.irr h
  .have a:=C.add h (C.mul (k:=-k) (by lia) b);have e:k*v+-k*v=0:=ext (by simp;grind) (by simp;grind) (by simp;grind);rw[e]at a;exact C.irr a
theorem Cone.tr {a u v w:V}(b:Pos u)(d:Pos v)(f:Pos w)(g:i9 u v w=0)(i:0<i9 a u v)(j:0<=i9 a v w):0<i9 a u w:=by
 refine C.sgn d (k:=i9 a u w) ?_;have e:i9 a u w*v=i9 a u v*w+i9 a v w*u:=by have h:=DC a u v w;rw[g,x6,l3 a u w]at h;have l:=kb V.x h;have m:=kb V.y h;have n:=kb V.z h;simp at l m n;exact ext (by simp;grind) (by simp;grind) (by simp;grind)
 rw[e];exact C.comb i j f b
theorem Cone.tr' {a u v w:V}(b:Pos u)(d:Pos v)(f:Pos w)(g:i9 u v w=0)(i:0<=i9 a u v)(j:0<i9 a v w):0<i9 a u w:=by
 refine C.sgn d (k:=i9 a u w) ?_;have e:i9 a u w*v=i9 a v w*u+i9 a u v*w:=by have h:=DC a u v w;rw[g,x6,l3 a u w]at h;have l:=kb V.x h;have m:=kb V.y h;have n:=kb V.z h;simp at l m n;exact ext (by simp;grind) (by simp;grind) (by simp;grind)
 rw[e];exact C.comb j i b f
end
structure ConeM (a:V)(Pos:V->Prop):Prop extends Cone Pos where
 inv:∀{u} (k:Int),Pos u->Pos (u+k*a)
def ConeM.tr {a:V}{Pos:V->Prop}(C:ConeM a Pos){u v w:V}(b:Pos u)(d:Pos v)(f:Pos w)(g:0<i9 a u v)(i:0<=i9 a v w):0<i9 a u w:=by
 refine C.sgn d (k:=i9 a u w) ?_;have e:i9 a u w*v=(i9 a u v*w+i9 a v w*u)+(-i9 u v w)*a:=by have h:=DC a u v w;rw[l3 a u w]at h;have j:=kb V.x h;have l:=kb V.y h;have m:=kb V.z h;simp at j l m;exact ext (by simp;grind) (by simp;grind) (by simp;grind)
 rw[e];exact C.inv _ (C.comb g i f b)
def i3 (w:V):Prop:=0<w.x\/(w.x=0/\(0<w.y\/(w.y=0/\0<w.z)))
instance(w:V):Decidable (i3 w):=inferInstanceAs (Decidable<|_\/_)
def A4:Cone i3 where
 add:=λ{u v} e f=>by unfold i3 at*;simp;lia
 mul:=λ{k u} a h=>by
  unfold i3 at*
  simp;rcases h with h|⟨h,b|⟨b,d⟩⟩
  .exact .inl (aAG a h)
  .exact .inr ⟨by rw[h];simp,.inl (aAG a b)⟩
  .exact .inr ⟨by rw[h];simp,.inr ⟨by rw[b];simp,aAG a d⟩⟩
 irr:=by unfold i3;simp
def O5 (w:V):Prop:=i3 (-w)
def ED:-(0:V)=0:=rfl
def aV:Cone O5 where
 add:=λ{u v} a b=>by have e:-(u+v)=-u+-v:=ext (by simp;lia) (by simp;lia) (by simp;lia);unfold O5 at*;rw[e];exact A4.add a b
 mul:=λ{k u} d h=>by have e:-(k*u)=k*(-u):=ext (by simp;grind) (by simp;grind) (by simp;grind);unfold O5 at*;rw[e];exact A4.mul d h
 irr:=by unfold O5;rw[ED];exact A4.irr
def VM (w:V):i3 w\/w=0\/O5 w:=by
 unfold O5 i3;rw[qO];simp
 lia
def A1 (v:V):v-v=0:=ext (by simp) (by simp) (by simp)
def fN (a u:V):i9 a u 0=0:=by simp[i9,d5]
def L5 (a u v:V):i9 a u (-v)=-i9 a u v:=by simp[i9,d5];grind
def aR (a u v:V):i9 a (-u) v=-i9 a u v:=by simp[i9,d5];grind
structure Row (n:V)(Pos:V->Prop)(T:V->Prop):Prop where
 cone:Cone Pos
 nz:n≠0
 pl:∀X Y,T X->T Y->d5 n (X-Y)=0
 tot:∀X Y,T X->T Y->X=Y\/Pos (X-Y)\/Pos (Y-X)
def Lft (n:V)(Pos:V->Prop)(a b X:V):Prop:=0<=i9 n (b-a) (X-a)/\(i9 n (b-a) (X-a)=0->(X=a\/Pos (X-a))/\(X=b\/Pos (b-X)))
def turn (n P Q R:V):Int:=i9 n (Q-P) (R-Q)
def Y3 (n P:V):List V->List V
 |b::a::r=>if turn n a b P<=0 then Y3 n P (a::r)else b::a::r
 |r=>r
def y3 (n:V)(ps:List V):List V:=ps.foldl (λc P=>P::Y3 n P c) []
def F6:List V->List (V×V)
 |b::a::r=>(a,b)::F6 (a::r)
 |_=>[]
def tT (n:V):List V->Prop
 |b::a::d::r=>0<i9 n (a-d) (b-a)/\tT n (a::d::r)
 |_=>True
def tT.tail (h:tT n (b::r)):tT n r:=by
 match r,h with
 |[],_=>trivial
 |[_],_=>trivial
 |_::_::_,h=>exact h.2
def Q4 (h:e∈F6 r):e∈F6 (b::r):=by
 match r,h with
 |a::r,h=>exact aAe _ h
section
variable{n:V} {Pos:V->Prop} {T:V->Prop} (F:Row n Pos T)
include F
structure ChOk (n:V)(Pos:V->Prop)(done:V->Prop)(c:List V):Prop where
 mem:∀X∈c,done X
 ed:∀e∈F6 c,Pos (e.2-e.1)/\∀X,done X->Lft n Pos e.1 e.2 X
 bend:tT n c
 last:∀X,done X->∀z,c.getLast?=some z->X=z\/Pos (X-z)
theorem Row.ad0 {done:V->Prop}(f:∀X,done X->T X)(m:Pos x)(o:d5 n x=0):∀(c:List V),(∀X∈c,done X)->(∀e∈F6 c,Pos (e.2-e.1))->tT n c->(∀b a r,c=b::a::r->0<i9 n (b-a) x)->∀e∈F6 c,0<i9 n (e.2-e.1) x
 |[],_,_,_,_,e,d=>by cases d
 |[_],_,_,_,_,e,d=>by cases d
 |[b,a],_,_,_,h,e,d=>by simp[F6]at d;subst d;exact h b a [] rfl
 |b::a::p::r,g,j,s,h,e,d=>by
  have i:=h b a _ rfl;rcases aAd.mp d with q|q
  .subst q;exact i
  .refine Row.ad0 f m o (a::p::r) (λX t=>g X (aAe _ t)) (λe d=>j e (Q4 d)) s.tail ?_ e q;intro w y z k;injection k with k l;injection l with l A;subst k l;have u:=j (p,a) (Q4 (by simp[F6]));have v:=j (a,b) (by simp[F6]);exact F.cone.tr u v m (A2 F.nz (F.pl _ _ (f _ (g _ (by simp))) (f _ (g _ (by simp)))) (F.pl _ _ (f _ (g _ (by simp))) (f _ (g _ (by simp)))) o) s.1 (aAT i)
theorem Row.weak (d:Pos u)(a:Pos v)(f:Pos w)(k:d5 n u=0)(l:d5 n v=0)(m:d5 n w=0)(o:0<=i9 n u v)(p:0<=i9 n v w):0<=i9 n u w:=by
 have b:=A2 F.nz k l m;by_cases q:0<i9 n u v
 .exact aAT (F.cone.tr d a f b q p)
 .by_cases r:0<i9 n v w
  .exact aAT (F.cone.tr' d a f b o r)
  .have s:i9 n u v=0:=by lia
   have t:i9 n v w=0:=by lia
   have h:=DC n u v w;rw[s,t,b,x6,x6,x6,gR,gR]at h;by_cases z:i9 n w u=0
   .rw[l3];lia
   .exfalso;have e:v=0:=by have g:=kb V.x h;have i:=kb V.y h;have j:=kb V.z h;simp at g i j;exact ext ((aAy.mp g).resolve_left z) ((aAy.mp i).resolve_left z) ((aAy.mp j).resolve_left z)
    rw[e]at a;exact F.cone.irr a
theorem Row.ad3 {done:V->Prop}(hd:∀X,done X->T X)(v:T P)(m:∀X,done X->Pos (P-X)):∀(c:List V),ChOk n Pos done c->c≠[]->
  (∀X q,c.head?=some q->done X->(X=q\/Pos (X-q))->0<=i9 n (P-q) (X-q))->
  ∃q r,Y3 n P c=q::r/\ChOk n Pos done (q::r)/\(∀X,done X->(X=q\/Pos (X-q))->0<=i9 n (P-q) (X-q))/\∀a w,r=a::w->0<turn n a q P
 |[],_,h,_=>absurd rfl h
 |[b],ok,_,o=>⟨b,[],rfl,ok,λX d h=>o X b rfl d h,λa w e=>by cases e⟩
 |b::a::r,ok,_,o=>by
  by_cases A:turn n a b P<=0
  .have e:Y3 n P (b::a::r)=Y3 n P (a::r):=by rw[Y3,jk A]
   rw[e];have i:=ok.mem b (by simp);have s:=ok.mem a (by simp);have O:=ok.ed (a,b) (by simp[F6]);refine Row.ad3 hd v m (a::r) ⟨λX d=>ok.mem X (aAe _ d),λe he=>ok.ed e (Q4 he),ok.bend.tail,λX d z t=>ok.last X d z (by rw[aBo];exact t)⟩ (by simp) ?_;intro X q hq d B;have C:a=q:=aAm hq;subst C;have hu:Pos (b-a):=O.1;have hp:Pos (P-b):=m b i;have Q:Pos (P-a):=m a s;have U:d5 n (b-a)=0:=F.pl _ _ (hd _ i) (hd _ s);have pp:d5 n (P-b)=0:=F.pl _ _ v (hd _ i);have E:d5 n (P-a)=0:=F.pl _ _ v (hd _ s);unfold turn at A;have H:0<=i9 n (P-b) (b-a):=by rw[l3];lia
   rcases F.tot X b (hd X d) (hd b i)with z|z|z
   .
    subst z;have f:P-a=(P-X)+(X-a):=ext (by simp;lia) (by simp;lia) (by simp;lia);rw[f,bA,D2];lia
   .
    have I:=o X b rfl d (.inr z);have px:d5 n (X-b)=0:=F.pl _ _ (hd _ d) (hd _ i);have j:Pos (P-X):=m X d;have J:i9 n (P-a) (X-a)*(P-b)=i9 n (P-b) (X-b)*(P-a)+i9 n (P-b) (b-a)*(P-X):=by
     have k:=DC n (b-a) (X-b) (P-b);rw[A2 F.nz U px pp,x6]at k;have f:P-a=(b-a)+(P-b):=ext (by simp;lia) (by simp;lia) (by simp;lia);have e2:X-a=(b-a)+(X-b):=ext (by simp;lia) (by simp;lia) (by simp;lia);have e3:P-X=(P-b)-(X-b):=ext (by simp;lia) (by simp;lia) (by simp;lia);rw[f,e2,e3];generalize b-a=u at*
     generalize X-b=x at*
     generalize P-b=p at*
     rw[bA,aQ,aQ,D2];have I:=kb V.x k;have Y:=kb V.y k;have t:=kb V.z k;rw[l3 n p x]at k I Y t;simp at I Y t;have s1:=l3 n p x;have s2:=l3 n p u;have s3:=l3 n u x;apply ext<;>simp<;>grind
    by_cases zz:0<=i9 n (P-a) (X-a)
    .exact zz
    .exfalso;have L:Pos ((-i9 n (P-a) (X-a))*(P-b)):=F.cone.mul (by lia) hp;have N:Pos (-i9 n (P-a) (X-a)*(P-b)+(i9 n (P-b) (X-b)*(P-a)+i9 n (P-b) (b-a)*(P-X))):=by
      by_cases y1:i9 n (P-b) (X-b)=0
      .rw[y1,x6,gR];by_cases y2:i9 n (P-b) (b-a)=0
       .rw[y2,x6,qI];exact L
       .exact F.cone.add L (F.cone.mul (by lia) j)
      .exact F.cone.add L (F.cone.comb (by lia) H Q j)
     rw[<-J]at N;have e0:-i9 n (P-a) (X-a)*(P-b)+i9 n (P-a) (X-a)*(P-b)=0:=by apply ext<;>simp<;>grind
     rw[e0]at N;exact F.cone.irr N
   .
    rcases B with g|g
    .subst g;rw[A1,fN];exact aBX _
    .have hl:=(O.2 X d).1;have l:0<=i9 n (P-a) (b-a):=by have f:P-a=(P-b)+(b-a):=ext (by simp;lia) (by simp;lia) (by simp;lia);rw[f,bA,D2];lia
     exact F.weak Q hu g E U (F.pl _ _ (hd _ d)<|hd _ s) l hl
  .have e:Y3 n P (b::a::r)=b::a::r:=by rw[Y3,ka A]
   refine⟨b,a::r,e,ok,λX d h=>o X b rfl d h,λa' w e'=>?_⟩;injection e' with f _;subst f
   lia
theorem Row.push {done:V->Prop}(hd:∀X,done X->T X)(C:T P)(s:∀X,done X->Pos (P-X))(ok:ChOk n Pos done c)(I:c≠[])(J:∀X q,c.head?=some q->done X->X=q\/Pos (q-X)):
  ChOk n Pos (λX=>done X\/X=P) (P::Y3 n P c):=by
 obtain⟨q,r,e,f,u,j⟩:=F.ad3 hd C s c ok I (λX q u d h=>by
  rcases h with h|h
  .subst h;rw[A1,fN];exact aBX _
  .exfalso;rcases J X q u d with z|z
   .subst z;rw[A1]at h;exact F.cone.irr h
   .have:=F.cone.add h z;have v:X-q+(q-X)=0:=ext (by simp;lia) (by simp;lia) (by simp;lia);rw[v]at this;exact F.cone.irr this)
 rw[e];have l:=f.mem q (by simp);have i:Pos (P-q):=s q l;have m:d5 n (P-q)=0:=F.pl _ _ C (hd _ l);refine⟨λX d=>?_,λg w=>?_,?_,λX d z t=>?_⟩
 .rcases aAd.mp d with h|h
  .exact .inr h
  .exact .inl (f.mem X h)
 .rcases aAd.mp w with h|h
  .subst h;refine⟨i,λX d=>?_⟩;rcases d with d|d
   .rcases F.tot X q (hd _ d) (hd _ l)with z|z|z
    .subst z;exact⟨by rw[A1,fN];exact aBX _,λ_=>⟨.inl rfl,.inr i⟩⟩
    .exact⟨u X d (.inr z),λ_=>⟨.inr z,.inr (s X d)⟩⟩
    .
     have:0<i9 n (P-q) (X-q):=by
      match r,j,f with
      |[],_,f=>
       rcases f.last X d q rfl with y|y
       .subst y;rw[A1]at z;exact absurd z F.cone.irr
       .exfalso;have:=F.cone.add y z;have v:X-q+(q-X)=0:=ext (by simp;lia) (by simp;lia) (by simp;lia);rw[v]at this;exact F.cone.irr this
      |a::o,j,f=>
       have x:=j a o rfl;unfold turn at x;have L:=f.mem a (by simp);have E:=f.ed (a,q) (by simp[F6]);have H:=(E.2 X d).1;have p:X-a=(q-a)-(q-X):=ext (by simp;lia) (by simp;lia) (by simp;lia);dsimp only at H;rw[p,QB,D2]at H;have N:0<=i9 n (q-X) (q-a):=by rw[l3];lia
       have:=F.cone.tr' (a:=n) z E.1 i (A2 F.nz (F.pl _ _ (hd _ l)<|hd _ d) (F.pl _ _ (hd _ l)<|hd _ L) m) N x;have A:X-q=-(q-X):=ext (by simp;lia) (by simp;lia) (by simp;lia);rw[A,L5,l3];lia
     exact⟨aAT this,λz=>by dsimp only at z;lia⟩
   .subst d;exact⟨by rw[D2];exact aBX _,λ_=>⟨.inr i,.inl rfl⟩⟩
  .
   have k:=f.ed g h;refine⟨k.1,λX d=>?_⟩;rcases d with d|d
   .exact k.2 X d
   .subst d;have x:=F.ad0 hd i m (q::r) f.mem (λe w=>(f.ed e w).1) f.bend (λb a o O=>by injection O with p A;subst p;exact j a o A) g h
    have Q:=(k.2 q l).1;have:0<i9 n (g.2-g.1) (X-g.1):=by have p:X-g.1=(q-g.1)+(X-q):=ext (by simp;lia) (by simp;lia) (by simp;lia);rw[p,aQ];lia
    exact⟨aAT this,λz=>by lia⟩
 .match r,j,f with
  |[],_,_=>trivial
  |a::o,j,f=>exact⟨j a o rfl,f.bend⟩
 .rcases d with d|d
  .exact f.last X d z (by rw[aBo]at t;exact t)
  .subst d;have B:(q::r).getLast?=some z:=by rw[aBo]at t;exact t
   exact .inr (s z<|f.mem z<|aCX B)
end
section
variable{n:V} {Pos:V->Prop} {T:V->Prop} (F:Row n Pos T)
include F
theorem ChOk.congr {done a:V->Prop}(ok:ChOk n Pos done c)(h:∀X,done X↔a X):ChOk n Pos a c:=
 ⟨λX b=>(h X).mp (ok.mem X b),λe d=>⟨(ok.ed e d).1,λX b=>(ok.ed e d).2 X ((h X).mpr b)⟩,ok.bend,λX b=>ok.last X ((h X).mpr b)⟩
theorem Row.fold:∀(rest:List V) (done:V->Prop) (c:List V),ChOk n Pos done c->c≠[]->(∀X q,c.head?=some q->done X->X=q\/Pos (q-X))->(∀X,done X->T X)->(∀X∈rest,T X)->
  (∀X Y,done X->Y∈rest->Pos (Y-X))->rest.Pairwise (λa b=>Pos (b-a))->
  ChOk n Pos (λX=>done X\/X∈rest) (rest.foldl (λc P=>P::Y3 n P c) c)/\rest.foldl (λc P=>P::Y3 n P c) c≠[]/\(∀X q,(rest.foldl (λc P=>P::Y3 n P c) c).head?=some q->(done X\/X∈rest)->X=q\/Pos (q-X))
 |[],done,c,ok,h,i,j,k,g,m=>⟨ChOk.congr F ok λX=>by simp,h,λX q f d=>by
   rcases d with d|d
   .exact i X q f d
   .cases d⟩
 |P::rest,done,c,ok,h,i,j,k,g,m=>by
  have o:=k P (by simp);have s:=F.push j o (λX d=>g X P d (by simp)) ok h i;have p:=aAz.mp m;obtain⟨t,u,v⟩:=Row.fold rest (λX=>done X\/X=P) (P::Y3 n P c) s (by simp) (λX q f d=>by
    have l:P=q:=aAm f;subst l;rcases d with d|d
    .exact .inr (g X P d (by simp))
    .exact .inl d) (λX d=>by
    rcases d with d|d
    .exact j X d
    .subst d;exact o) (λX d=>k X (aAe _ d)) (λX Y d r=>by
    rcases d with d|d
    .exact g X Y d (aAe _ r)
    .subst d;exact p.1 Y r) p.2
  have e:∀X,((done X\/X=P)\/X∈rest)↔(done X\/X∈P::rest):=λX=>by simp[or_assoc]
  exact⟨ChOk.congr F t e,u,λX q f d=>v X q f ((e X).mpr d)⟩
theorem Row.ac7 (k:ps≠[])(h:∀X∈ps,T X)(l:ps.Pairwise (λa b=>Pos (b-a))):
  ChOk n Pos (λX=>X∈ps) (y3 n ps)/\y3 n ps≠[]/\(∀X q,(y3 n ps).head?=some q->X∈ps->X=q\/Pos (q-X)):=by
 match ps,k with
 |p::rest,_=>
  have i:=aAz.mp l;have ok:ChOk n Pos (λX=>X=p) [p]:=⟨λX d=>by simpa using d,λe m=>by simp[F6]at m,trivial,λX d z j=>by simp at j;subst j;exact .inl d⟩
  obtain⟨o,r,s⟩:=F.fold rest (λX=>X=p) [p] ok (by simp) (λX q f d=>by have g:p=q:=aAm f;subst g;exact .inl d) (λX d=>by subst d;exact h _ (by simp)) (λX d=>h X (aAe _ d)) (λX Y d t=>by subst d;exact i.1 Y t) i.2
  have e:∀X,(X=p\/X∈rest)↔X∈p::rest:=λX=>by simp
  refine⟨ChOk.congr F o e,r,λX q f d=>s X q f ((e X).mpr d)⟩
end
def l6 (n:V)(a:List V):List V:=(y3 n a).reverse.dropLast++(y3 n a.reverse).reverse.dropLast
def k9:List V->List (V×V)
 |a::b::r=>(a,b)::k9 (b::r)
 |_=>[]
theorem nM:∀(l:List V) (a b:V),k9 (l++[a]++[b])=k9 (l++[a])++[(a,b)]
 |[],a,b=>rfl
 |[x],a,b=>rfl
 |x::y::l,a,b=>by have:=nM (y::l) a b;simp only[aAD,k9]at this⊢;rw[this]
theorem iF:∀c:List V,k9 c.reverse=(F6 c).reverse
 |[]=>rfl
 |[_]=>rfl
 |b::a::r=>by
  have d:=iF (a::r);rw[aAJ,aAJ]at*
  rw[nM,d,F6,aAJ]
theorem nP:∀(l:List V) (a:V) (m:List V),k9 (l++a::m)=k9 (l++[a])++k9 (a::m)
 |[],a,m=>by cases m<;>rfl
 |[x],a,m=>rfl
 |x::y::l,a,m=>by have:=nP (y::l) a m;simp only[aAD,k9]at this⊢;rw[this]
def B8 (l:List V):List (V×V):=l.zip (l.tail++l.take 1)
theorem bU:∀(l:List V) (z:V),l.zip (l.tail++[z])=k9 (l++[z])
 |[],z=>rfl
 |[a],z=>rfl
 |a::b::r,z=>by have:=bU (b::r) z;simp only[List.tail_cons,aAD,k9,aCc]at this⊢;rw[this]
def W4:B8 (a::l)=k9 (a::l++[a]):=bU (a::l) a
def RF (i:y3 n a=M::c)(j:y3 n a.reverse=m::d)(g:(M::c).getLast?=some m)(k:(m::d).getLast?=some M)(l:c≠[]):
  B8 (l6 n a)=(F6 (y3 n a)).reverse++(F6 (y3 n a.reverse)).reverse:=by
 rw[<-iF,<-iF];unfold l6;rw[i,j,aAJ,aAJ,aBt,aBt];have b:∃e,c.reverse=m::e:=by
  have:c.getLast?=some m:=by
   match c,l with
   |x::c,_=>rw[aBo]at g;exact g
  rw[<-aEU]at this;match o:c.reverse,this with
  |x::r,this=>exact⟨r,by rw[show x=m from aAm this]⟩
 obtain⟨e,b⟩:=b;have f:∃h,d.reverse++[m]=M::h:=by
  have:(m::d).reverse.head?=some M:=by rw[aEU];exact k
  rw[aAJ]at this;match o:d.reverse++[m],this with
  |x::r,this=>exact⟨r,by rw[show x=M from aAm this]⟩
 obtain⟨h,f⟩:=f;have p:c.reverse++d.reverse=m::(e++d.reverse):=by rw[b];rfl
 rw[p,W4];have q:m::(e++d.reverse)++[m]=c.reverse++(d.reverse++[m]):=by rw[b];simp
 rw[q,f,nP]
def u6 (a b:V):-(a-b)=b-a:=ext (by simp;lia) (by simp;lia) (by simp;lia)
def t8:O5 (a-b)↔i3 (b-a):=by unfold O5;rw[u6]
def K1 (h:i3 (a-a)):False:=by rw[A1]at h;exact A4.irr h
def y7 (h:i3 (a-b))(h':i3 (b-a)):False:=by have:=A4.add h h';have d:a-b+(b-a)=0:=ext (by simp;lia) (by simp;lia) (by simp;lia);rw[d]at this;exact A4.irr this
def R5 (a b:V):a=b\/i3 (a-b)\/i3 (b-a):=by
 rcases VM (a-b)with h|h|h
 .exact .inr (.inl h)
 .refine .inl (ext ?_ ?_ ?_)
  .have:=kb V.x h;simp at this;lia
  .have:=kb V.y h;simp at this;lia
  .have:=kb V.z h;simp at this;lia
 .exact .inr (.inr (t8.mp h))
def wj (P Q X:V):Prop:=(i3 (Q-P)->(X=P\/i3 (X-P))/\(X=Q\/i3 (Q-X)))/\(i3 (P-Q)->(X=P\/i3 (P-X))/\(X=Q\/i3 (X-Q)))
structure EdgeOf (n:V)(T:V->Prop)(P Q:V):Prop where
 p:T P
 q:T Q
 ne:P≠Q
 left:∀X,T X->0<=i9 n (Q-P) (X-P)
 btw:∀X,T X->i9 n (Q-P) (X-P)=0->wj P Q X
section
variable{n:V} {T:V->Prop}
def EdgeOf.next (h:EdgeOf n T P Q)(h':EdgeOf n T P R):Q=R:=by
 have l:=h.left R h'.q;have i:=h'.left Q h.q;rw[l3]at i;have j:i9 n (Q-P) (R-P)=0:=by lia
 have k:i9 n (R-P) (Q-P)=0:=by rw[l3];lia
 have f:=h.btw R h'.q j;have g:=h'.btw Q h.q k;rcases R5 Q P with e|e|e
 .exact absurd e.symm h.ne
 .have b:=f.1 e;have d:i3 (R-P):=b.1.resolve_left (aCA h'.ne);rcases b.2 with q|q
  .exact q.symm
  .rcases(g.1 d).2 with a|a
   .exact a
   .exact(y7 q a).elim
 .have b:=f.2 e;have d:i3 (P-R):=b.1.resolve_left (aCA h'.ne);rcases b.2 with q|q
  .exact q.symm
  .rcases(g.2 d).2 with a|a
   .exact a
   .exact(y7 q a).elim
def pI (n P Q X:V):i9 n (Q-P) (X-P)=i9 n (Q-P) (X-Q):=by have e:X-P=(X-Q)+(Q-P):=ext (by simp;lia) (by simp;lia) (by simp;lia);rw[e,aQ,D2];lia
end
theorem pH {Pos:V->Prop}(X:V):∀(c:List V),(∀Y∈c,X=Y\/Pos (X-Y)\/Pos (Y-X))->(∀q,c.head?=some q->X=q\/Pos (q-X))->(∀z,c.getLast?=some z->X=z\/Pos (X-z))->c≠[]->
  (∀u,Pos u->Pos (-u)->False)->X∈c\/∃a b,(a,b)∈F6 c/\Pos (X-a)/\Pos (b-X)
 |[],_,_,_,h,_=>absurd rfl h
 |[q],_,d,f,_,g=>by
  rcases d q rfl with e|e
  .exact .inl (by simp[e])
  .rcases f q rfl with i|i
   .exact .inl (by simp[i])
   .exact(g _ e (by rw[u6];exact i)).elim
 |b::a::r,j,d,f,_,g=>by
  rcases d b rfl with e|e
  .exact .inl (by simp[e])
  .rcases j a (by simp)with y|y|y
   .exact .inl (by simp[y])
   .exact .inr ⟨a,b,by simp[F6],y,e⟩
   .rcases pH X (a::r) (λY k=>j Y (aAe _ k)) (λq l=>by have:a=q:=aAm l;subst this;exact .inr y) (λz m=>f z (by rw[aBo];exact m)) (by simp) g with h|⟨n,o,h,p⟩
    .exact .inl (aAe _ h)
    .exact .inr ⟨n,o,Q4 h,p⟩
def Row.ad6 {Pos:V->Prop}{T:V->Prop}(F:Row n Pos T)(g:T a)(h:T b)(d:T P)(i:T Q)(j:Pos (P-a))(k:Pos (b-P))(l:Pos (Q-P))(m:0<=i9 n (b-a) (P-a))(f:0<i9 n (Q-P) (a-P))(o:0<=i9 n (Q-P) (b-P)):False:=by
 have p:i9 n (Q-P) (a-P)=i9 n (P-a) (Q-P):=by have e:a-P=-(P-a):=(u6 _ _).symm;rw[e,L5,l3];lia
 rw[p]at f;have:=F.cone.tr j l k (A2 F.nz (F.pl _ _ d g) (F.pl _ _ i d)<|F.pl _ _ h d) f o;have q:b-a=(b-P)+(P-a):=ext (by simp;lia) (by simp;lia) (by simp;lia);rw[q,bA,D2,l3]at m
 lia
structure Sheet (n:V)(ts:List V):Prop where
 nz:n≠0
 pl:∀X∈ts,∀Y∈ts,d5 n (X-Y)=0
 ord:ts.Pairwise (λa b=>i3 (b-a))
 two:∃X∈ts,∃Y∈ts,X≠Y
section
variable{n:V} {ts:List V} (S:Sheet n ts)
include S
theorem Sheet.row:Row n i3 (λX=>X∈ts):=⟨A4,S.nz,λX Y a b=>S.pl X a Y b,λX Y _ _=>R5 X Y⟩
theorem Sheet.ae6:Row n O5 (λX=>X∈ts):=⟨aV,S.nz,λX Y a b=>S.pl X a Y b,λX Y _ _=>by
 rcases R5 X Y with h|h|h
 .exact .inl h
 .exact .inr (.inr (t8.mpr h))
 .exact .inr (.inl (t8.mpr h))⟩
theorem Sheet.ne:ts≠[]:=by obtain⟨X,a,_⟩:=S.two;intro e;rw[e]at a;cases a
theorem Sheet.ab0:ChOk n i3 (λX=>X∈ts) (y3 n ts)/\y3 n ts≠[]/\(∀X q,(y3 n ts).head?=some q->X∈ts->X=q\/i3 (q-X)):=
 S.row.ac7 S.ne (λ_ h=>h) S.ord
theorem Sheet.ab1:ChOk n O5 (λX=>X∈ts) (y3 n ts.reverse)/\y3 n ts.reverse≠[]/\(∀X q,(y3 n ts.reverse).head?=some q->X∈ts->X=q\/O5 (q-X)):=by
 have h:=S.ae6.ac7 (ps:=ts.reverse) (by simpa using S.ne) (λX h=>by simpa using h) (by rw[aEo];exact S.ord.imp λh=>t8.mpr h)
 obtain⟨a,b,d⟩:=h;exact⟨ChOk.congr S.ae6 a λX=>by simp,b,λX q e f=>d X q e (by simpa using f)⟩
theorem Sheet.ae0 (h:(a,b)∈F6 (y3 n ts))(i:a∈ts)(j:b∈ts):EdgeOf n (λX=>X∈ts) a b/\i3 (b-a):=by obtain⟨d,f⟩:=S.ab0.1.ed _ h;dsimp only at d f;refine⟨⟨i,j,λe=>by subst e;exact K1 d,λX g=>(f X g).1,λX g z=>⟨λ_=>(f X g).2 z,λy=>(y7 d y).elim⟩⟩,d⟩
theorem Sheet.ad8 (h:(a,b)∈F6 (y3 n ts.reverse))(j:a∈ts)(k:b∈ts):EdgeOf n (λX=>X∈ts) a b/\i3 (a-b):=by obtain⟨i,f⟩:=S.ab1.1.ed _ h;dsimp only at i f;have d:=t8.mp i;refine⟨⟨j,k,λe=>by subst e;exact K1 d,λX g=>(f X g).1,λX g z=>⟨λy=>(y7 d y).elim,λ_=>?_⟩⟩,d⟩;obtain⟨l,m⟩:=(f X g).2 z;exact⟨l.imp id t8.mp,m.imp id t8.mp⟩
theorem M6 (h:(a,b)∈F6 c):a∈c/\b∈c:=by
 induction c with
 |nil=>cases h
 |cons x c d=>
  match c,h,d with
  |[],h,_=>cases h
  |y::r,h,d=>
   rcases aAd.mp h with e|e
   .cases e;simp
   .have:=d e;exact⟨aAe _ this.1,aAe _ this.2⟩
theorem Sheet.ends:∃m M c d,m∈ts/\M∈ts/\i3 (M-m)/\(∀X∈ts,X=m\/i3 (X-m))/\(∀X∈ts,X=M\/i3 (M-X))/\y3 n ts=M::c/\y3 n ts.reverse=m::d/\(M::c).getLast?=some m/\(m::d).getLast?=some M/\c≠[]/\d≠[]:=by
 obtain⟨l,u,v⟩:=S.ab0;obtain⟨o,w,x⟩:=S.ab1;obtain⟨M,c,b⟩:=aDG u;obtain⟨m,d,f⟩:=aDG w;have p:M∈ts:=l.mem M (by rw[b];simp);have s:m∈ts:=o.mem m (by rw[f];simp);have q:∀X∈ts,X=M\/i3 (M-X):=λX g=>v X M (by rw[b];rfl) g;have h:∀X∈ts,X=m\/i3 (X-m):=λX g=>(x X m (by rw[f];rfl) g).imp id t8.mp;obtain⟨z,i⟩:∃z,(M::c).getLast?=some z:=by simp[aEV]
 obtain⟨y,j⟩:∃z,(m::d).getLast?=some z:=by simp[aEV]
 have A:z=m:=by
  have B:z∈ts:=l.mem z (by rw[b];exact aCX i);rcases l.last m s z (by rw[b];exact i)with e|e
  .exact e.symm
  .rcases h z B with a|a
   .exact a
   .exact(y7 e a).elim
 have C:y=M:=by
  have E:y∈ts:=o.mem y (by rw[f];exact aCX j);rcases o.last M p y (by rw[f];exact j)with e|e
  .exact e.symm
  .rcases q y E with a|a
   .exact a
   .exact(y7 (t8.mp e) a).elim
 subst A C;have r:i3 (y-z):=by
  obtain⟨X,g,Y,H,ne⟩:=S.two;rcases h y p with e|e
  .exfalso;subst e;have k:∀W∈ts,W=y:=λW t=>by
    rcases h W t with e|e
    .exact e
    .rcases q W t with a|a
     .exact a
     .exact(y7 e a).elim
   exact ne ((k X g).trans (k Y H).symm)
  .exact e
 refine⟨z,y,c,d,s,p,r,h,q,b,f,i,j,λe=>?_,λe=>?_⟩
 .subst e;have:y=z:=by simpa using i
  subst this;exact K1 r
 .subst e;have:z=y:=by simpa using j
  subst this;exact K1 r
theorem Sheet.pair (h:(P,Q)∈B8 (l6 n ts)):EdgeOf n (λX=>X∈ts) P Q:=by
 obtain⟨m,M,c,d,i,j,k,l,o,a,b,e,f,g,p⟩:=S.ends;rw[RF a b e f g,aAL,aCB,aCB]at h;rcases h with h|h
 .have:=M6 S h;exact(S.ae0 h (S.ab0.1.mem _ this.1)<|S.ab0.1.mem _ this.2).1
 .have:=M6 S h;exact(S.ad8 h (S.ab1.1.mem _ this.1)<|S.ab1.1.mem _ this.2).1
theorem bW (h:P∈l):∃Q,(P,Q)∈B8 l:=by
 obtain⟨i,b,e⟩:=aBi h;have d:l.length=(l.tail++l.take 1).length:=by
  match l,b with
  |a::l,_=>simp
 refine⟨(l.tail++l.take 1)[i]'(by lia),?_⟩;unfold B8;refine List.mem_of_getElem (i:=i) (h:=by rw[List.length_zip];lia) ?_;rw[List.getElem_zip,e]
theorem Sheet.ac4 (h:EdgeOf n (λX=>X∈ts) P Q):P∈l6 n ts:=by
 obtain⟨m,M,c,d,T,U,mM,C,E,A,B,h3,h4,hc,hd⟩:=S.ends;obtain⟨o,H,I⟩:=S.ab0;obtain⟨i,J,L⟩:=S.ab1;unfold l6;rw[aAL,A,B,aAJ,aAJ,aBt,aBt,aCB,aCB];rcases R5 Q P with e|e|e
 .exact absurd e.symm h.ne
 .
  left;rcases pH (Pos:=i3) P (y3 n ts) (λY _=>R5 P Y) (λq s=>I P q s h.p) (λz t=>o.last P h.p z t) H (λu a b=>by have:=A4.add a b;have v:u+-u=0:=ext (by simp;lia) (by simp;lia) (by simp;lia);rw[v]at this;exact A4.irr this)with r|⟨a,b,r,g,w⟩
  .rw[A]at r;rcases aAd.mp r with q|q
   .subst q;rcases E Q h.q with y|y
    .exact absurd y.symm h.ne
    .exact(y7 e y).elim
   .exact q
  .exfalso;have j:=M6 S r;have f:=o.mem _ j.1;have k:=o.mem _ j.2;have N:=h.left a f;have x:i9 n (Q-P) (a-P)≠0:=λz=>by
    rcases((h.btw a f z).1 e).1 with y|y
    .subst y;exact K1 g
    .exact y7 g y
   exact S.row.ad6 f k h.p h.q g w e ((o.ed _ r).2 P h.p).1 (by lia) (h.left b k)
 .right;rcases pH (Pos:=O5) P (y3 n ts.reverse) (λY _=>S.ae6.tot P Y h.p (by rename_i O;exact i.mem Y O)) (λq s=>L P q s h.p) (λz t=>i.last P h.p z t) J (λu a b=>by have:=aV.add a b;have v:u+-u=0:=ext (by simp;lia) (by simp;lia) (by simp;lia);rw[v]at this;exact aV.irr this)with r|⟨a,b,r,g,w⟩
  .rw[B]at r;rcases aAd.mp r with q|q
   .subst q;rcases C Q h.q with y|y
    .exact absurd y.symm h.ne
    .exact(y7 e y).elim
   .exact q
  .exfalso;have j:=M6 S r;have f:=i.mem _ j.1;have k:=i.mem _ j.2;have N:=h.left a f;have l:=t8.mp g;have x:i9 n (Q-P) (a-P)≠0:=λz=>by
    rcases((h.btw a f z).2 e).1 with y|y
    .subst y;exact K1 l
    .exact y7 l y
   exact S.ae6.ad6 f k h.p h.q g w (t8.mpr e) ((i.ed _ r).2 P h.p).1 (by lia) (h.left b k)
theorem Sheet.aa1:(P,Q)∈B8 (l6 n ts)↔EdgeOf n (λX=>X∈ts) P Q:=by
 refine⟨S.pair,λh=>?_⟩;obtain⟨R,a⟩:=bW S (S.ac4 h);have:=(S.pair a).next h
 subst this;exact a
end
theorem N2 {Pos:V->Prop}(C:Cone Pos):∀(c:List V),(∀e∈F6 c,Pos (e.2-e.1))->c.Pairwise (λb a=>Pos (b-a))
 |[],_=>aGs
 |[x],_=>aDW _ _
 |b::a::r,h=>by
  have d:=N2 C (a::r) (λe g=>h e (Q4 g));have f:=h (a,b) (by simp[F6]);refine aAz.mpr ⟨λy i=>?_,d⟩;rcases aAd.mp i with e|e
  .subst e;exact f
  .have:=(aAz.mp d).1 y e;have s:=C.add f this;have j:b-a+(a-y)=b-y:=ext (by simp;lia) (by simp;lia) (by simp;lia);dsimp only at s
   rwa [j]at s
theorem mI:∀{h:V} {c:List V} {X:V},X∈c->∃b,(X,b)∈F6 (h::c)
 |h,[],X,d=>by cases d
 |h,a::r,X,d=>by
  rcases aAd.mp d with e|e
  .subst e;exact⟨h,by simp[F6]⟩
  .obtain⟨b,f⟩:=mI (h:=a) e;exact⟨b,Q4 f⟩
section
variable{n:V} {ts:List V} (S:Sheet n ts)
include S
theorem Sheet.aa4 (h:X∈l6 n ts):X∈ts:=by obtain⟨Q,a⟩:=bW S h;exact(S.pair a).p
theorem Sheet.aa3:(l6 n ts).Nodup:=by
 obtain⟨m,M,c,d,C,E,H,I,J,f,g,L,N,O,Q⟩:=S.ends;obtain⟨i,T,U⟩:=S.ab0;obtain⟨j,Y,t2⟩:=S.ab1;unfold l6;rw[f,g,aAJ,aAJ,aBt,aBt];have p:=N2 A4 (y3 n ts) λe k=>(i.ed e k).1;have q:=N2 aV (y3 n ts.reverse) λe k=>(j.ed e k).1;rw[f]at p;rw[g]at q;have v:=(aAz.mp p).2;have w:=(aAz.mp q).2;rw[aCo];refine⟨?_,?_,?_⟩
 .rw[aCm,aEo];exact v.imp λ{a b} h e=>by subst e;exact K1 h
 .rw[aCm,aEo];exact w.imp λ{a b} h e=>by subst e;exact K1 (t8.mp h)
 .intro x r y s e;subst e;rw[aCB]at r s;obtain⟨b,l⟩:=mI (h:=M) r;obtain⟨b',o⟩:=mI (h:=m) s;rw[<-f]at l;rw[<-g]at o;have t:=M6 S l;have u:=M6 S o;obtain⟨z,A⟩:=S.ae0 l (i.mem _ t.1) (i.mem _ t.2);obtain⟨B,l2⟩:=S.ad8 o (j.mem _ u.1) (j.mem _ u.2);have:=z.next B;subst this;exact y7 A l2
theorem Sheet.ab5:∃m r,l6 n ts=m::r/\m∈ts/\∀X∈ts,X=m\/i3 (X-m):=by
 obtain⟨m,M,c,d,f,k,l,g,o,h,i,e,p,j,q⟩:=S.ends;have a:∃b,c.reverse=m::b:=by
  have:c.getLast?=some m:=by
   match c,j with
   |x::c,_=>rw[aBo]at e;exact e
  rw[<-aEU]at this;match s:c.reverse,this with
  |x::r,this=>exact⟨r,by rw[show x=m from aAm this]⟩
 obtain⟨b,a⟩:=a;refine⟨m,b++d.reverse,?_,f,g⟩;unfold l6;rw[h,i,aAJ,aAJ,aBt,aBt,a];rfl
theorem OU (h:Q∈l):∃P,(P,Q)∈B8 l:=by
 match l,h with
 |a::r,h=>
  have b:Q∈r++[a]:=by simpa[or_comm]using h
  obtain⟨i,d,e⟩:=aBi b;have f:i<(a::r).length:=by simpa using d
  refine⟨(a::r)[i],?_⟩;show _∈(a::r).zip (r++[a]);refine List.mem_of_getElem (i:=i) (h:=by rw[List.length_zip];simp;omega) ?_;rw[List.getElem_zip,e]
theorem xK (h:(P,Q)∈B8 l):P∈l/\Q∈l:=by
 have b:=aDX h;refine⟨b.1,?_⟩;match l,b.2 with
 |a::r,z=>simpa[or_comm]using z
theorem Sheet.strict (h:EdgeOf n (λX=>X∈ts) P Q)(x:X∈l6 n ts)(s:X≠P)(t:X≠Q):0<i9 n (Q-P) (X-P):=by
 have d:=S.aa4 x;have E:=h.left X d;by_cases z:i9 n (Q-P) (X-P)=0
 .exfalso;have b:=h.btw X d z;obtain⟨Y,B⟩:=bW S x;have g:=S.pair B;have u:=g.left P h.p;have l2:=g.left Q h.q;rcases R5 Q P with e|e|e
  .exact h.ne e.symm
  .have m:=b.1 e;have f:=m.1.resolve_left s;have i:=m.2.resolve_left t;have C:i9 n (X-P) (Q-X)=0:=by have a:Q-P=(Q-X)+(X-P):=ext (by simp;lia) (by simp;lia) (by simp;lia);rw[a,bA,D2,l3]at z;lia
   have o:0<=i9 n (X-P) (Y-X):=by have a:P-X=-(X-P):=(u6 _ _).symm;rw[a,L5]at u;rw[l3];lia
   rcases R5 Y X with y|y|y
   .exact g.ne y.symm
   .have H:=S.row.weak f y i (S.pl _ d _ h.p) (S.pl _ g.q _ d) (S.pl _ h.q _ d) o l2;by_cases j:0<i9 n (X-P) (Y-X)
    .have:=A4.tr f y i (A2 S.nz (S.pl _ d _ h.p) (S.pl _ g.q _ d)<|S.pl _ h.q _ d) j l2
     lia
    .have l:i9 n (Y-X) (P-X)=0:=by have a:P-X=-(X-P):=(u6 _ _).symm;rw[a,L5,l3];lia
     rcases((g.btw P h.p l).1 y).1 with k|k
     .exact s k.symm
     .exact y7 k f
   .have r:i3 (X-Y):=y;have A:0<=i9 n (X-Y) (X-P):=by have a:Y-X=-(X-Y):=(u6 _ _).symm;rw[a,L5,l3]at o;lia
    have v:0<=i9 n (Q-X) (X-Y):=by have a:Y-X=-(X-Y):=(u6 _ _).symm;rw[a,aR,l3]at l2;lia
    by_cases j:0<i9 n (Q-X) (X-Y)
    .have:=A4.tr i r f (A2 S.nz (S.pl _ h.q _ d) (S.pl _ d _ g.q)<|S.pl _ d _ h.p) j A;rw[l3]at this;lia
    .have l:i9 n (Y-X) (Q-X)=0:=by have a:Y-X=-(X-Y):=(u6 _ _).symm;rw[a,aR,l3];lia
     rcases((g.btw Q h.q l).2 r).1 with k|k
     .exact t k.symm
     .exact y7 k i
  .have m:=b.2 e;have f:=m.1.resolve_left s;have i:=m.2.resolve_left t;have C:i9 n (P-X) (X-Q)=0:=by have a:Q-P=-((P-X)+(X-Q)):=ext (by simp;lia) (by simp;lia) (by simp;lia);have w:X-P=-(P-X):=(u6 _ _).symm;rw[a,w,aR,L5,bA,D2,l3]at z;lia
   rcases R5 Y X with y|y|y
   .exact g.ne y.symm
   .
    have v:0<=i9 n (X-Q) (Y-X):=by have a:Q-X=-(X-Q):=(u6 _ _).symm;rw[a,L5,l3]at l2;lia
    by_cases j:0<i9 n (X-Q) (Y-X)
    .have:=A4.tr i y f (A2 S.nz (S.pl _ d _ h.q) (S.pl _ g.q _ d)<|S.pl _ h.p _ d) j u;rw[l3]at this;lia
    .have l:i9 n (Y-X) (Q-X)=0:=by have a:Q-X=-(X-Q):=(u6 _ _).symm;rw[a,L5,l3];lia
     rcases((g.btw Q h.q l).1 y).1 with k|k
     .exact t k.symm
     .exact y7 k i
   .have r:i3 (X-Y):=y;have A:0<=i9 n (P-X) (X-Y):=by have a:Y-X=-(X-Y):=(u6 _ _).symm;rw[a,aR,l3]at u;lia
    have v:0<=i9 n (X-Y) (X-Q):=by have a:Y-X=-(X-Y):=(u6 _ _).symm;have w:Q-X=-(X-Q):=(u6 _ _).symm;rw[a,w,aR,L5]at l2;lia
    by_cases j:0<i9 n (P-X) (X-Y)
    .have:=A4.tr f r i (A2 S.nz (S.pl _ h.p _ d) (S.pl _ d _ g.q)<|S.pl _ d _ h.q) j v
     lia
    .have l:i9 n (Y-X) (P-X)=0:=by have a:Y-X=-(X-Y):=(u6 _ _).symm;rw[a,aR,l3];lia
     rcases((g.btw P h.p l).2 r).1 with k|k
     .exact s k.symm
     .exact y7 k f
 .lia
end
def jD {a:V}(h:a≠0):a.x≠0\/a.y≠0\/a.z≠0:=by
 by_cases p:a.x=0
 .by_cases q:a.y=0
  .by_cases r:a.z=0
   .exact absurd (ext p q r) h
   .exact .inr (.inr r)
  .exact .inr (.inl q)
 .exact .inl p
def B7 {a w:V}(d:a≠0)(h:cr a w=0):∃k m:Int,0<k/\k*w=m*a:=by
 have f:=kb V.x h;have g:=kb V.y h;have i:=kb V.z h;simp at f g i;have b:∀k m:Int,k≠0->k*w=m*a->∃k m:Int,0<k/\k*w=m*a:=λk m o e=>by
  by_cases p:0<k
  .exact⟨k,m,p,e⟩
  .refine⟨-k,-m,by lia,?_⟩;have j:=kb V.x e;have l:=kb V.y e;have n:=kb V.z e;simp at j l n;apply ext<;>simp<;>grind
 rcases jD d with p|p|p
 .exact b a.x w.x p (by apply ext<;>simp<;>grind)
 .exact b a.y w.y p (by apply ext<;>simp<;>grind)
 .exact b a.z w.z p (by apply ext<;>simp<;>grind)
def ConeM.ad1 {Pos:V->Prop}(C:ConeM a Pos)(d:a≠0)(f:Pos w):cr a w≠0:=λh=>by
 obtain⟨k,m,g,e⟩:=B7 d h;have b:=C.inv (-m) (C.mul g f);rw[e]at b;have i:m*a+-m*a=0:=by apply ext<;>simp<;>grind
 rw[i]at b;exact C.irr b
def G8 (a A:V):List V->V->V->V×V
 |[],d,b=>(d,b)
 |P::e,d,b=>if d=0\/0<d5 d (P-A)then G8 a A e (cr a (P-A)) P else G8 a A e d b
def WR (a A:V)(Pos:V->Prop)(seen:V->Prop)(d b:V):Prop:=
 (d=0/\∀P,seen P->cr a (P-A)=0)\/(seen b/\Pos (b-A)/\d=cr a (b-A)/\∀P,seen P->i9 a (b-A) (P-A)<=0)
def jI (h:cr a w=0)(u:V):i9 a u w=0:=by
 have e:i9 a u w=-d5 (cr a w) u:=by simp[i9,d5];grind
 rw[e,h];simp[d5]
theorem uM {Pos:V->Prop}(C:ConeM a Pos)(o:a≠0):∀(J:List V) (seen:V->Prop) (f d:V),WR a A Pos seen f d->(∀P,seen P->Pos (P-A)\/cr a (P-A)=0)->(∀P∈J,Pos (P-A)\/cr a (P-A)=0)->
  WR a A Pos (λP=>seen P\/P∈J) (G8 a A J f d).1 (G8 a A J f d).2
 |[],seen,f,d,h,_,_=>by
  show WR a A Pos _ f d;rcases h with⟨i,g⟩|⟨i,g,j,k⟩
  .exact .inl ⟨i,λP b=>g P (by simpa using b)⟩
  .exact .inr ⟨.inl i,g,j,λP b=>k P (by simpa using b)⟩
 |Q::J,seen,f,d,h,p,s=>by
  have l:=s Q (by simp);have m:WR a A Pos (λP=>seen P\/P=Q) (if f=0\/0<d5 f (Q-A)then(cr a<|Q-A)else f) (if f=0\/0<d5 f (Q-A)then Q else d):=by
   rcases h with⟨i,g⟩|⟨i,g,j,k⟩
   .rw[jk (.inl i),jk (.inl i)];by_cases z:cr a (Q-A)=0
    .exact .inl ⟨z,λP b=>by
      rcases b with b|b
      .exact g P b
      .subst b;exact z⟩
    .refine .inr ⟨.inr rfl,l.resolve_right z,rfl,λP b=>?_⟩;rcases b with b|b
     .rw[jI (g P b)];exact aBX _
     .subst b;rw[D2];exact aBX _
   .have t:f≠0:=by rw[j];exact C.ad1 o g
    have n:d5 f (Q-A)=i9 a (d-A) (Q-A):=by rw[j,U7]
    by_cases z:0<d5 f (Q-A)
    .rw[jk (.inr z),jk (.inr z)];have u:Pos (Q-A):=by
      rcases l with q|q
      .exact q
      .rw[n,jI q]at z;lia
     refine .inr ⟨.inr rfl,u,rfl,λP b=>?_⟩;rcases b with b|b
     .by_cases v:i9 a (Q-A) (P-A)<=0
      .exact v
      .exfalso;have w:Pos (P-A):=by
        rcases p P b with q|q
        .exact q
        .rw[jI q]at v;lia
       have:=C.tr g u w (by rw[<-n];exact z) (by lia);have:=k P b
       lia
     .subst b;rw[D2];exact aBX _
    .rw[ka (by rintro(q|q);exact t q;exact z q),ka (by rintro(q|q);exact t q;exact z q)];refine .inr ⟨.inl i,g,j,λP b=>?_⟩;rcases b with b|b
     .exact k P b
     .subst b;rw[<-n];lia
  have r:=uM C o J (λP=>seen P\/P=Q) _ _ m (λP b=>by
   rcases b with b|b
   .exact p P b
   .subst b;exact l) (λP b=>s P (aAe _ b))
  have e:G8 a A (Q::J) f d=G8 a A J (if f=0\/0<d5 f (Q-A)then(cr a<|Q-A)else f) (if f=0\/0<d5 f (Q-A)then Q else d):=by rw[G8];split<;>rfl
  rw[e];have x:(λP=>(seen P\/P=Q)\/P∈J)=(λP=>seen P\/P∈Q::J):=by funext P;simp[or_assoc]
  rw[<-x];exact r
def OF {Pos:V->Prop}(C:ConeM a Pos)(e:a≠0)(g:∀P∈J,Pos (P-A)\/cr a (P-A)=0)(i:∃P∈J,Pos (P-A)):
  (G8 a A J 0 A).2∈J/\Pos ((G8 a A J 0 A).2-A)/\∀P∈J,i9 a ((G8 a A J 0 A).2-A) (P-A)<=0:=by
 have h:=uM C e J (λ_=>False) 0 A (.inl ⟨rfl,λ_ h=>h.elim⟩) (λ_ h=>h.elim) g;rcases h with⟨f,b⟩|⟨f,b,l,j⟩
 .obtain⟨P,d,k⟩:=i;exact absurd (b P<|.inr d) (C.ad1 e k)
 .exact⟨by simpa using f,b,λP d=>j P (.inr d)⟩
def u0 (v:V):Nat:=aGg (aGg v.x.natAbs v.y.natAbs) v.z.natAbs
def cZ (v:V)(g:Int):V:=⟨v.x/g,v.y/g,v.z/g⟩
def dR (n:V):Prop:=u0 n=1
def pZ (k:Int)(v:V):u0 (k*v)=k.natAbs*u0 v:=by unfold u0;simp[Int.natAbs_mul,Nat.gcd_mul_left]
def KU (h:u0 v=0):v=0:=by unfold u0 at h;have a:=Nat.gcd_eq_zero_iff.mp h;have b:=Nat.gcd_eq_zero_iff.mp a.1;exact ext (aEW.mp b.1) (aEW.mp b.2) (aEW.mp a.2)
def PZ (v:V):(u0 v:Int)∣v.x/\(u0 v:Int)∣v.y/\(u0 v:Int)∣v.z:=by
 unfold u0;refine⟨?_,?_,?_⟩
 .exact aEX.mpr (Nat.dvd_trans (aFv _ _)<|aFv _ _)
 .exact aEX.mpr (Nat.dvd_trans (aFv _ _)<|Nat.gcd_dvd_right _ _)
 .exact aEX.mpr (Nat.gcd_dvd_right _ _)
def fG (h:c≠0):0<(u0 c:Int)/\c=(u0 c:Int)*cZ c (u0 c)/\dR (cZ c (u0 c)):=by
 have i:u0 c≠0:=λz=>h (KU z);have a:0<(u0 c:Int):=by lia
 obtain⟨b,d,f⟩:=PZ c;have e:c=(u0 c:Int)*cZ c (u0 c):=by
  apply ext
  .show _=_*(c.x/_);rw[aEz b]
  .show _=_*(c.y/_);rw[aEz d]
  .show _=_*(c.z/_);rw[aEz f]
 refine⟨a,e,?_⟩;have:=kb u0 e;rw[pZ]at this;simp only[Int.natAbs_natCast]at this;unfold dR;have g:u0 c*1=u0 c*u0 (cZ c<|u0 c):=by lia
 exact(Nat.eq_of_mul_eq_mul_left (by lia) g).symm
def dR.ne (h:dR n):n≠0:=λe=>by subst e;unfold dR at h;exact absurd h (by decide)
def oP {n m:V}{k l:Int}(g:dR n)(h:dR m)(i:0<k)(j:0<l)(e:k*n=l*m):n=m:=by
 have:=kb u0 e;rw[pZ,pZ,g,h]at this;have a:k=l:=by lia
 subst a;have b:=kb V.x e;have d:=kb V.y e;have f:=kb V.z e;simp at b d f;exact ext (aDJ (by lia) b) (aDJ (by lia) d) (aDJ (by lia) f)
def d9 (P Q R:V):V×Int:=let n:=cZ (cr (Q-P)<|R-P) (u0<|cr (Q-P)<|R-P);(n,d5 n P)
structure IsFace (J:List V)(n:V)(d:Int):Prop where
 prim:dR n
 sup:∀X∈J,d5 n X<=d
 three:∃A∈J,∃B∈J,∃C∈J,d5 n A=d/\d5 n B=d/\d5 n C=d/\cr (B-A) (C-A)≠0
def K6 (a:d5 n u=0)(b:d5 n v=0):cr n (cr u v)=0:=by simp[d5]at a b;apply ext<;>simp<;>grind
def pE (f:c≠0)(b:cr n c=0)(d:cr m c=0):cr n m=0:=by
 have h:cr c n=0:=by have:=kb V.x b;have:=kb V.y b;have:=kb V.z b;simp at*;apply ext<;>simp<;>grind
 have i:cr c m=0:=by have:=kb V.x d;have:=kb V.y d;have:=kb V.z d;simp at*;apply ext<;>simp<;>grind
 obtain⟨k,p,r,j⟩:=B7 f h;obtain⟨l,q,s,o⟩:=B7 f i;have e:(k*l)*cr n m=0:=by
  have:(k*l)*cr n m=cr (k*n) (l*m):=by apply ext<;>simp<;>grind
  rw[this,j,o];apply ext<;>simp<;>grind
 have a:k*l≠0:=λz=>by rcases aAy.mp z with q|q<;>lia
 have b:=kb V.x e;have d:=kb V.y e;have g:=kb V.z e;simp only[TD,TF,NG,aH,aI,aG]at b d g;exact ext ((aAy.mp b).resolve_left a) ((aAy.mp d).resolve_left a) ((aAy.mp g).resolve_left a)
def jG {J:List V}{n m:V}{d e:Int}(g:dR n)(a:dR m)(E:∀X∈J,d5 n X<=d)(h:∀X∈J,d5 m X<=e){A B C Z:V}(H:d5 n A=d)(I:d5 n B=d)(L:d5 n C=d)(i:d5 m A=e)(j:d5 m B=e)(o:d5 m C=e)
  (r:cr (B-A) (C-A)≠0) (s:Z∈J) (hz:d5 n Z<d):n=m/\d=e:=by
 have t:cr n (cr (B-A)<|C-A)=0:=K6 (by rw[e9];lia) (by rw[e9];lia);have u:cr m (cr (B-A)<|C-A)=0:=K6 (by rw[e9];lia) (by rw[e9];lia);have p:=pE r u t;obtain⟨k,l,b,f⟩:=B7 a.ne p;have w:0<l:=by
  have q:=kb (λv=>d5 v (Z-A)) f;rw[K4,K4]at q;have x:d5 n (Z-A)<0:=by rw[e9];lia
  have N:d5 m (Z-A)<=0:=by rw[e9];have:=h Z s;lia
  have O:k*d5 n (Z-A)<0:=aBs b x;by_cases z:0<l
  .exact z
  .exfalso;have:0<=l*d5 m (Z-A):=by
    have:=aBR (show 0<=-l by lia) (show 0<=-d5 m (Z-A)by lia)
    rwa [aDu]at this
   lia
 have y:=oP g a b w f;subst y;exact⟨rfl,by lia⟩
def b7 (A B:V)(J:List V):V×Int:=d9 A B (G8 (B-A) A J 0 A).2
def o8 (n:V)(d:Int)(J:List V):List V:=J.filter λX=>decide (d5 n X=d)
def d8:X∈o8 n d J↔X∈J/\d5 n X=d:=by simp[o8]
def W7 (h:cr (Q-P) (R-P)≠0):∃g:Int,0<g/\cr (Q-P) (R-P)=g*(d9 P Q R).1/\dR (d9 P Q R).1/\(d9 P Q R).2=d5 (d9 P Q R).1 P:=by obtain⟨a,b,d⟩:=fG h;exact⟨_,a,b,d,rfl⟩
def X7 {Pos:V->Prop}(C:ConeM (B-A) Pos)(d:B-A≠0)(n:∀P∈J,Pos (P-A)\/cr (B-A) (P-A)=0)(o:∃P∈J,Pos (P-A)):
  ∃(a:V) (g:Int),a∈J/\Pos (a-A)/\0<g/\cr (B-A) (a-A)=g*(b7 A B J).1/\dR (b7 A B J).1/\(b7 A B J).2=d5 (b7 A B J).1 A/\
   (∀P∈J,d5 (b7 A B J).1 P<=(b7 A B J).2)/\d5 (b7 A B J).1 B=(b7 A B J).2/\d5 (b7 A B J).1 a=(b7 A B J).2/\
   (∀P∈J,d5 (b7 A B J).1 P=(b7 A B J).2->i9 (B-A) (a-A) (P-A)=0):=by
 obtain⟨p,f,q⟩:=OF C d n o;have r:=C.ad1 d f;obtain⟨g,i,j,s,k⟩:=W7 r;have b:∀w:V,g*d5 (b7 A B J).1 w=i9 (B-A) ((G8 (B-A) A J 0 A).2-A) w:=λw=>by have:d5 (cr (B-A)<|(G8 (B-A) A J 0 A).2-A) w=i9 (B-A) ((G8 (B-A) A J 0 A).2-A) w:=U7 _ _ _;rw[<-this,j,K4];rfl
 have u:(b7 A B J).2=d5 (b7 A B J).1 A:=k;have l:∀w:V,i9 (B-A) ((G8 (B-A) A J 0 A).2-A) w=0->d5 (b7 A B J).1 w=0:=λw t=>by have:=b w;rw[t]at this;exact(aAy.mp this).resolve_left (by lia)
 refine⟨_,g,p,f,i,j,s,k,λP m=>?_,?_,?_,λP m e=>?_⟩
 .have h:=q P m;rw[<-b]at h;have:d5 (b7 A B J).1 (P-A)<=0:=by
   by_cases z:d5 (b7 A B J).1 (P-A)<=0
   .exact z
   .have:=aAG i (show 0<d5 (b7 A B J).1 (P-A)by lia)
    lia
  rw[e9]at this
  lia
 .have:=l (B-A) (by simp[i9,d5];grind);rw[e9]at this;lia
 .have:=l ((G8 (B-A) A J 0 A).2-A) (D2 _ _);rw[e9]at this;lia
 .rw[<-b,e9];have:d5 (b7 A B J).1 P-d5 (b7 A B J).1 A=0:=by lia
  rw[this];simp
def yN {Pos:V->Prop}(C:ConeM a Pos)(d:a≠0)(e:Pos o)(f:Pos w)(h:i9 a o w=0):0<d5 (cr a o) (cr a w):=by
 by_cases z:0<d5 (cr a o) (cr a w)
 .exact z
 .exfalso;have g:=C.ad1 d e;have i:=x8 g;have j:Pos (d5 (cr a o) (cr a o)*w+(-d5 (cr a o) (cr a w))*o):=C.comb i (by lia) f e;refine C.ad1 d j ?_;have b:cr (cr a o) (cr a w)=i9 a o w*a:=by simp[i9,d5];apply ext<;>simp<;>grind
  rw[h,x6]at b;have k:cr a (d5 (cr a o) (cr a o)*w+(-d5 (cr a o) (cr a w))*o)=d5 (cr a o) (cr a o)*cr a w+(-d5 (cr a o) (cr a w))*cr a o:=by apply ext<;>simp<;>grind
  rw[k];have l:∀p q:V,d5 p p*q+(-d5 p q)*p=cr p (cr q p):=λp q=>by simp[d5];apply ext<;>simp<;>grind
  rw[l];have m:cr (cr a w) (cr a o)=0:=by have n:=kb V.x b;have r:=kb V.y b;have s:=kb V.z b;simp only[QX,OP,NZ,aH,aI,aG]at n r s;apply ext<;>simp only[QX,OP,NZ,aH,aI,aG]<;>grind
  rw[m];apply ext<;>simp
def wj.symm (h:wj P Q X):wj Q P X:=⟨λa=>⟨(h.2 a).2,(h.2 a).1⟩,λa=>⟨(h.1 a).2,(h.1 a).1⟩⟩
def tV (i:n≠0)(d:d5 n (a-b)=0):ConeM (a-b) (λw=>d5 n w<0\/(d5 n w=0/\0<i9 n (b-a) w))where
 add:=λ{u v} j l=>by
  rw[cF,aQ]
  lia
 mul:=λ{k u} f h=>by
  rw[v7,BV];rcases h with h|⟨h,g⟩
  .exact .inl (aBs f h)
  .exact .inr ⟨by rw[h];simp,aAG f g⟩
 irr:=by rw[N7,fN];lia
 inv:=λ{u} k h=>by
  have e:i9 n (b-a) (a-b)=0:=by have:a-b=-(b-a):=(u6 _ _).symm;rw[this,L5,D2];rfl
  rw[cF,aQ,v7,BV,d,e];simpa using h
def W8 (a:n≠0)(g:d5 n u=0)(i:d5 n w=0)(h:i9 n u w=0):cr u w=0:=by
 have j:cr n (cr u w)=0:=K6 g i;obtain⟨k,m,p,e⟩:=B7 a j;have q:=kb (d5 n) e;rw[v7,v7]at q;have:d5 n (cr u w)=0:=h;rw[this]at q;have l:m=0:=by
  have:=x8 a;have o:m*d5 n n=0:=by lia
  rcases aAy.mp o with z|z
  .exact z
  .lia
 rw[l,x6]at e;have b:=kb V.x e;have d:=kb V.y e;have f:=kb V.z e;simp only[TD,TF,NG,aH,aI,aG]at b d f;exact ext ((aAy.mp b).resolve_left (by lia)) ((aAy.mp d).resolve_left (by lia)) ((aAy.mp f).resolve_left (by lia))
def zO (h:cr u w=0):cr (-u) w=0:=by have a:=kb V.x h;have b:=kb V.y h;have d:=kb V.z h;simp only[QX,OP,NZ,aH,aI,aG]at a b d;apply ext<;>simp<;>grind
def uG (B:n≠0)(T:∀X∈J,d5 n X<=d)(hz:∃Z∈J,d5 n Z<d)(h:EdgeOf n (λX=>X∈o8 n d J) a b):
  IsFace J (b7 b a J).1 (b7 b a J).2/\EdgeOf (b7 b a J).1 (λX=>X∈o8 (b7 b a J).1 (b7 b a J).2 J) b a:=by
 obtain⟨E,da⟩:=d8.mp h.p;obtain⟨pb,db⟩:=d8.mp h.q;have j:d5 n (a-b)=0:=by rw[e9];lia
 have s:d5 n (b-a)=0:=by rw[e9];lia
 have C:=tV (n:=n) B j;have o:a-b≠0:=λe=>h.ne (by have U:=kb V.x e;have Y:=kb V.y e;have q3:=kb V.z e;simp at U Y q3;exact ext (by lia) (by lia) (by lia))
 have t:∀P∈J,(d5 n (P-b)<0\/(d5 n (P-b)=0/\0<i9 n (b-a) (P-b)))\/cr (a-b) (P-b)=0:=λP H=>by
  have h1:=T P H;by_cases z:d5 n P<d
  .exact .inl (.inl (by rw[e9];lia))
  .have e:d5 n P=d:=by lia
   have tP:P∈o8 n d J:=d8.mpr ⟨H,e⟩;have l:=h.left P tP;rw[pI]at l;have I:d5 n (P-b)=0:=by rw[e9];lia
   by_cases y:0<i9 n (b-a) (P-b)
   .exact .inl (.inr ⟨I,y⟩)
   .have y0:i9 n (b-a) (P-b)=0:=by lia
    have:=zO (W8 B s I y0);rw[u6]at this;exact .inr this
 obtain⟨Z,hZ,hz⟩:=hz;obtain⟨f,g,o1,u,g0,L,gp,N,v,O,sO,Q⟩:=X7 C o t ⟨Z,hZ,.inl (by rw[e9];lia)⟩;refine⟨⟨gp,v,b,pb,a,E,f,o1,N.symm,O,sO,C.ad1 o u⟩,⟨d8.mpr ⟨pb,N.symm⟩,d8.mpr ⟨E,O⟩,λe=>h.ne e.symm,λX w=>?_,λX w e=>?_⟩⟩
 .obtain⟨i,A⟩:=d8.mp w;have z:=Q X i A;have r:g*i9 (b7 b a J).1 (a-b) (X-b)=d5 (cr (a-b)<|f-b) (cr (a-b)<|X-b):=by rw[L];unfold i9;rw[K4]
  have:0<=d5 (cr (a-b)<|f-b) (cr (a-b)<|X-b):=by
   rcases t X i with q|q
   .exact aAT (yN C o u q z)
   .rw[q,N7];exact aBX _
  rw[<-r]at this;by_cases zz:0<=i9 (b7 b a J).1 (a-b) (X-b)
  .exact zz
  .have:=aBs g0 (show i9 (b7 b a J).1 (a-b) (X-b)<0 by lia)
   lia
 .obtain⟨i,A⟩:=d8.mp w;have z:=Q X i A;have r:g*i9 (b7 b a J).1 (a-b) (X-b)=d5 (cr (a-b)<|f-b) (cr (a-b)<|X-b):=by rw[L];unfold i9;rw[K4]
  rw[e]at r;rcases t X i with q|q
  .have:=yN C o u q z;rw[<-r]at this;simp at this
  .
   have dX:d5 n X=d:=by obtain⟨k,m,hk,e⟩:=B7 o q;have q:=kb (d5 n) e;rw[v7,v7,j]at q;have:d5 n (X-b)=0:=(aAy.mp (show k*d5 n (X-b)=0 by lia)).resolve_left (by lia);rw[e9]at this;lia
   refine(h.btw X (d8.mpr ⟨i,dX⟩) ?_).symm;rw[pI];have:cr (b-a) (X-b)=0:=by
    have:=zO q
    rwa [u6]at this
   unfold i9;rw[this,N7]
def B6:List V->Option V
 |[]=>none
 |w::a=>if w≠0 then some w else B6 a
def v9 (h:B6 ws=some w):w∈ws/\w≠0:=by
 induction ws with
 |nil=>cases h
 |cons v ws a=>
  unfold B6 at h;split at h
  .rename_i b;cases h;exact⟨by simp,b⟩
  .have:=a h;exact⟨aAe _ this.1,this.2⟩
def N8 (h:B6 ws=none):∀w∈ws,w=0:=by
 induction ws with
 |nil=>intro w a;cases a
 |cons v ws b=>
  unfold B6 at h;split at h
  .cases h
  .rename_i d;intro w a;rcases aAd.mp a with e|e
   .subst e;exact Decidable.not_not.mp d
   .exact b h w e
def U1:List V->Nat
 |[]=>0
 |p::d=>
  let a:=(p::d).map (· -p)
  match B6 a with
  |none=>0
  |some b=>match B6 (a.map<|cr b)with
   |none=>1
   |some e=>if a.any (λw=>decide (d5 e w≠0))then 3 else 2
def j4 (J:List V):Prop:=∃A∈J,∃B∈J,∃C∈J,∃D∈J,i9 (B-A) (C-A) (D-A)≠0
def LC (h:U1 J=3):j4 J:=by
 match J,h with
 |p::v,h=>
  unfold U1 at h;dsimp only at h;split at h
  .cases h
  .rename_i b f;split at h
   .cases h
   .rename_i g i;split at h
    .rename_i e;obtain⟨j,w⟩:=v9 f;obtain⟨d,x⟩:=v9 i;obtain⟨y,d,k⟩:=aAk.mp d;rw[aEu]at e;obtain⟨l,m,n⟩:=e;obtain⟨B,o,q⟩:=aAk.mp j;obtain⟨C,r,s⟩:=aAk.mp d;obtain⟨D,t,u⟩:=aAk.mp m;refine⟨p,by simp,B,o,C,r,D,t,?_⟩;rw[q,s,u];have a:d5 g l≠0:=by simpa using n
     rw[<-k,U7]at a;exact a
    .cases h
def QV (h:U1 J≠3):¬j4 J:=by
 rintro⟨A,j,B,k,C,l,D,m,t⟩;match J,h,j,k,l,m with
 |p::f,h,j,k,l,m=>
  unfold U1 at h;dsimp only at h;have o:∀X∈p::f,X-p∈(p::f).map (· -p):=λX b=>aAk.mpr ⟨X,b,rfl⟩;have d:∀n:V,n≠0->(∀X∈p::f,d5 n (X-p)=0)->False:=λn v r=>by
   have q:∀X∈p::f,d5 n (X-A)=0:=λX b=>by have g:=r X b;have i:=r A j;rw[e9]at*;lia
   exact t (A2 v (q B k) (q C l)<|q D m)
  split at h
  .rename_i g;have z:=N8 g;refine d ⟨1,0,0⟩ (λe=>by have:=kb V.x e;simp at this) λX b=>?_;rw[z _ (o X b)];exact N7 _
  .rename_i a g;obtain⟨L,w⟩:=v9 g;split at h
   .rename_i i;have z:=N8 i;have y:∀X∈p::f,cr a (X-p)=0:=λX b=>z _ (aAk.mpr ⟨_,o X b,rfl⟩);obtain⟨u,E,N⟩:∃u:V,cr a u≠0/\True:=by
     rcases jD w with q|q|q
     .exact⟨⟨0,1,0⟩,λe=>q (by have:=kb V.z e;simpa using this),trivial⟩
     .exact⟨⟨1,0,0⟩,λe=>q (by have:=kb V.z e;simpa using this),trivial⟩
     .exact⟨⟨0,1,0⟩,λe=>q (by have:=kb V.x e;simpa using this),trivial⟩
    refine d (cr a u) E λX b=>?_;rw[U7,jI (y X b)]
   .rename_i s i;obtain⟨O,H⟩:=v9 i;split at h
    .exact h rfl
    .rename_i I;refine d s H λX b=>?_;by_cases z:d5 s (X-p)=0
     .exact z
     .exact absurd (aEu.mpr ⟨X-p,o X b,by simpa using z⟩) I
def NM (h:U1 J<2):∀X∈J,∀Y∈J,∀Z∈J,cr (Y-X) (Z-X)=0:=by
 match J,h with
 |[],_=>intro X b;cases b
 |p::d,h=>
  unfold U1 at h;dsimp only at h;have l:∀X∈p::d,X-p∈(p::d).map (· -p):=λX b=>aAk.mpr ⟨X,b,rfl⟩;intro X b Y m Z o;split at h
  .rename_i i;have z:=N8 i;have e:∀W∈p::d,W=p:=λW j=>by have:=z _ (l W j);have f:=kb V.x this;have g:=kb V.y this;have q:=kb V.z this;simp at f g q;exact ext (by lia) (by lia) (by lia)
   rw[e X b,e Y m,A1];apply ext<;>simp
  .rename_i a i;obtain⟨E,r⟩:=v9 i;split at h
   .rename_i s;have z:=N8 s;have n:∀X∈p::d,cr a (X-p)=0:=λX b=>z _ (aAk.mpr ⟨_,l X b,rfl⟩);have k:∀U∈p::d,∀W∈p::d,cr (U-W) a=0:=λU t W j=>by have f:=n U t;have g:=n W j;have u:=kb V.x f;have v:=kb V.y f;have w:=kb V.z f;have A:=kb V.x g;have B:=kb V.y g;have C:=kb V.z g;simp at u v w A B C;apply ext<;>simp<;>grind
    exact pE r (k Y m X b) (k Z o X b)
   .split at h<;>lia
def IZ (h:2<=U1 J):∃X∈J,∃Y∈J,∃Z∈J,cr (Y-X) (Z-X)≠0:=by
 match J,h with
 |[],h=>exact absurd h (by simp[U1])
 |p::n,h=>
  unfold U1 at h;dsimp only at h;split at h
  .lia
  .rename_i a d;obtain⟨e,o⟩:=v9 d;split at h
   .lia
   .rename_i q f;obtain⟨b,g⟩:=v9 f;obtain⟨r,b,i⟩:=aAk.mp b;obtain⟨B,j,k⟩:=aAk.mp e;obtain⟨C,l,m⟩:=aAk.mp b;exact⟨p,by simp,B,j,C,l,by rw[k,m,i];exact g⟩
def j4.off (h:j4 J)(f:n≠0):∃Z∈J,d5 n Z≠d:=by
 obtain⟨A,g,B,i,C,j,D,k,l⟩:=h;by_cases a:d5 n A=d
 .by_cases b:d5 n B=d
  .by_cases c:d5 n C=d
   .by_cases e:d5 n D=d
    .exact absurd (A2 f (by rw[e9];lia) (by rw[e9];lia) (by rw[e9];lia)) l
    .exact⟨D,k,e⟩
   .exact⟨C,j,c⟩
  .exact⟨B,i,b⟩
 .exact⟨A,g,a⟩
def j4.below (h:j4 J)(b:n≠0)(f:∀X∈J,d5 n X<=d):∃Z∈J,d5 n Z<d:=by obtain⟨Z,a,e⟩:=h.off (d:=d) b;exact⟨Z,a,by have:=f Z a;lia⟩
def kk:V:=⟨0,0,1⟩
def i5 (m:V)(J:List V):V×V:=
 let u:=b7 m (m+kk) J
 let a:=o8 u.1 u.2 J
 if U1 a=2 then(m,m+kk)else(a.getD 0 0,a.getD 1 0)
def GC:ConeM kk (λw=>0<w.x\/(w.x=0/\0<w.y))where
 add:=λ{u v} d e=>by simp;lia
 mul:=λ{k u} a h=>by
  simp;rcases h with h|⟨h,b⟩
  .exact .inl (aAG a h)
  .exact .inr ⟨by rw[h];simp,aAG a b⟩
 irr:=by simp
 inv:=λ{u} k h=>by simpa[kk]using h
def EO (h:d5 n a=0):ConeM a (λw=>d5 n w<0)where
 add:=λ{u v} e f=>by rw[cF];lia
 mul:=λ{k u} b h=>by rw[v7];exact aBs b h
 irr:=by rw[N7];lia
 inv:=λ{u} k d=>by rw[cF,v7,h];simpa using d
def M2 (m k:V):m+k-m=k:=ext (by simp;lia) (by simp;lia) (by simp;lia)
def iI (T:j4 J)(ho:J.Pairwise (λa b=>i3 (b-a)))(hm:m∈J)(hl:∀X∈J,X=m\/i3 (X-m)):
  IsFace J (b7 (i5 m J).1 (i5 m J).2 J).1 (b7 (i5 m J).1 (i5 m J).2 J).2:=by
 have C:ConeM (m+kk-m) (λw=>0<w.x\/(w.x=0/\0<w.y)):=by rw[M2];exact GC
 have af:m+kk-m≠0:=by rw[M2];intro e;have:=kb V.z e;simp[kk]at this
 have U:∀P∈J,(0<(P-m).x\/((P-m).x=0/\0<(P-m).y))\/cr (m+kk-m) (P-m)=0:=λP E=>by
  rw[M2];rcases hl P E with e|e
  .right;subst e;rw[A1];apply ext<;>simp
  .unfold i3 at e;rcases e with e|⟨e1,e|⟨e2,e3⟩⟩
   .exact .inl (.inl e)
   .exact .inl (.inr ⟨e1,e⟩)
   .right;apply ext
    .simp[kk];simp at e2;lia
    .simp[kk];simp at e1;lia
    .simp[kk]
 have hx:∃P∈J,0<(P-m).x\/((P-m).x=0/\0<(P-m).y):=by
  by_cases z:∃P∈J,0<(P-m).x\/((P-m).x=0/\0<(P-m).y)
  .exact z
  .exfalso;obtain⟨Z,f,e⟩:=T.off (n:=⟨1,0,0⟩) (d:=m.x) (λe=>by have:=kb V.x e;simp at this);have w:=(U Z f).resolve_left λq=>z ⟨Z,f,q⟩;rw[M2]at w;have:=kb V.y w;simp[kk]at this;simp[d5]at e
   lia
 obtain⟨k,g,o1,o2,g0,ge,L,gd,h,sB,sO,sP⟩:=X7 C af U hx;have i:m∈o8 (b7 m (m+kk) J).1 (b7 m (m+kk) J).2 J:=d8.mpr ⟨hm,gd.symm⟩;have l:k∈o8 (b7 m (m+kk) J).1 (b7 m (m+kk) J).2 J:=d8.mpr ⟨o1,sO⟩;have N:m≠k:=λe=>by subst e;rw[A1]at o2;simp at o2
 by_cases h2:U1 (o8 (b7 m (m+kk) J).1 (b7 m (m+kk) J).2 J)=2
 .have e:i5 m J=(m,m+kk):=by unfold i5;simp only[h2,if_true]
  rw[e];obtain⟨X,H,Y,I,Z,f,hc⟩:=IZ (J:=o8 (b7 m (m+kk) J).1 (b7 m (m+kk) J).2 J) (by lia);have H:=d8.mp H;have I:=d8.mp I;have f:=d8.mp f;exact⟨L,h,X,H.1,Y,I.1,Z,f.1,H.2,I.2,f.2,hc⟩
 .
  have h1:U1 (o8 (b7 m (m+kk) J).1 (b7 m (m+kk) J).2 J)≠3:=λz=>by obtain⟨A,hA,B,hB,C,hC,D,hD,hd⟩:=LC z;have hA:=d8.mp hA;have hB:=d8.mp hB;have hC:=d8.mp hC;have hD:=d8.mp hD;exact hd (A2 L.ne (by rw[e9];lia) (by rw[e9];lia) (by rw[e9];lia))
  have ai:U1 (o8 (b7 m (m+kk) J).1 (b7 m (m+kk) J).2 J)<2:=by
   have:U1 (o8 (b7 m (m+kk) J).1 (b7 m (m+kk) J).2 J)<=3:=by
    generalize o8 (b7 m (m+kk) J).1 (b7 m (m+kk) J).2 J=t;unfold U1;split
    .lia
    .dsimp only;split
     .lia
     .split
      .lia
      .split<;>lia
   lia
  have o:=NM ai;have e:i5 m J=((o8 (b7 m (m+kk) J).1 (b7 m (m+kk) J).2 J).getD 0 0,(o8 (b7 m (m+kk) J).1 (b7 m (m+kk) J).2 J).getD 1 0):=by unfold i5;simp only[h2,if_false]
  rw[e];have ord:(o8 (b7 m (m+kk) J).1 (b7 m (m+kk) J).2 J).Pairwise (λa b=>i3 (b-a)):=aFP _ ho;have j:∀X,X∈o8 (b7 m (m+kk) J).1 (b7 m (m+kk) J).2 J↔X∈J/\d5 (b7 m (m+kk) J).1 X=(b7 m (m+kk) J).2:=λX=>d8;generalize o8 (b7 m (m+kk) J).1 (b7 m (m+kk) J).2 J=t at*
  match t,i,l with
  |[],i,_=>cases i
  |[x],i,l=>simp at i l;exact absurd (i.trans l.symm) N
  |x::y::r,i,l=>
   dsimp only[List.getD_cons_zero,List.getD_cons_succ];have p:i3 (y-x):=(aAz.mp ord).1 y (by simp);have ox:=(j x).mp (by simp);have oy:=(j y).mp (by simp);have s:y-x≠0:=λz=>by rw[z]at p;exact A4.irr p
   have na:d5 (b7 m (m+kk) J).1 (y-x)=0:=by rw[e9];lia
   have C2:=EO na;obtain⟨Z,f,hz⟩:=T.below L.ne h;obtain⟨u,g2,p1,p2,p0,pe,pp,pd,v,O,Q,sP2⟩:=X7 C2 s (J:=J) (λP E=>by
    have:=h P E;by_cases q:d5 (b7 m (m+kk) J).1 P<(b7 m (m+kk) J).2
    .exact .inl (by rw[e9];lia)
    .exact .inr (o x (by simp) y (by simp) P ((j P).mpr ⟨E,by lia⟩))) ⟨Z,f,by rw[e9];lia⟩
   exact⟨pp,v,x,ox.1,y,oy.1,u,p1,pd.symm,O,Q,C2.ad1 s p2⟩
def bX {a b:V}(h:a-b=0):a=b:=by have d:=kb V.x h;have e:=kb V.y h;have f:=kb V.z h;simp at d e f;exact ext (by lia) (by lia) (by lia)
def IsFace.aa2 (f:J.Pairwise (λa b=>i3 (b-a)))(h:IsFace J n d):Sheet n (o8 n d J)where
 nz:=h.prim.ne
 pl:=λX g Y i=>by have:=(d8.mp g).2;have:=(d8.mp i).2;rw[e9];lia
 ord:=aFP _ f
 two:=by obtain⟨A,j,B,k,C,l,a,b,c,e⟩:=h.three;refine⟨A,d8.mpr ⟨j,a⟩,B,d8.mpr ⟨k,b⟩,λz=>e ?_⟩;subst z;rw[A1];apply ext<;>simp
def IsFace.third {J:List V}{n:V}{d:Int}(h:IsFace J n d){a b:V}(f:EdgeOf n (λX=>X∈o8 n d J) a b):∃X∈o8 n d J,0<i9 n (b-a) (X-a):=by
 by_cases z:∃X∈o8 n d J,0<i9 n (b-a) (X-a)
 .exact z
 .exfalso;have v:=h.prim.ne;obtain⟨pa,da⟩:=d8.mp f.p;obtain⟨pb,db⟩:=d8.mp f.q;have g:d5 n (b-a)=0:=by rw[e9];lia
  have w:b-a≠0:=λe=>f.ne (bX e).symm;have k:∀X∈J,d5 n X=d->cr (b-a) (X-a)=0:=λX i j=>by have r:=d8.mpr ⟨i,j⟩;have l:=f.left X r;have l':¬0<i9 n (b-a) (X-a):=λq=>z ⟨X,r,q⟩;exact W8 v g (by rw[e9];lia) (by lia)
  obtain⟨A,s,B,E,C,H,t,I,L,e⟩:=h.three;have u:∀X∈J,d5 n X=d->∀Y∈J,d5 n Y=d->cr (X-Y) (b-a)=0:=λX i j Y N O=>by have m:=k X i j;have o:=k Y N O;have Q:=kb V.x m;have T:=kb V.y m;have U:=kb V.z m;have b1:=kb V.x o;have b2:=kb V.y o;have b3:=kb V.z o;simp at Q T U b1 b2 b3;apply ext<;>simp<;>grind
  exact e (pE w (u B E I A s t)<|u C H L A s t)
def ML (l:j4 J)(f:IsFace J n d)(g:IsFace J m e)(i:EdgeOf n (λX=>X∈o8 n d J) a b)(h:EdgeOf m (λX=>X∈o8 m e J) b a)(j:X∈o8 n d J)(k:0<i9 n (b-a) (X-a)):d5 m X<e:=by
 obtain⟨o,r⟩:=d8.mp j;have A:=g.sup X o;by_cases z:d5 m X=e
 .exfalso;obtain⟨B,s⟩:=d8.mp i.p;obtain⟨pb,t⟩:=d8.mp i.q;obtain⟨_,u⟩:=d8.mp h.q;obtain⟨_,v⟩:=d8.mp h.p;obtain⟨Z,w,x⟩:=l.below f.prim.ne f.sup;have y:cr (b-a) (X-a)≠0:=λq=>by unfold i9 at k;rw[q,N7]at k;lia
  obtain⟨rfl,rfl⟩:=jG f.prim g.prim f.sup g.sup s t r u v z y w x;have:=h.left X j;have C:i9 n (a-b) (X-b)=-i9 n (b-a) (X-a):=by simp[i9,d5];grind
  lia
 .lia
def yR:List V->V
 |[]=>0
 |X::l=>X+yR l
theorem oZ (n:V):∀l:List V,d5 n (yR l)=(l.map (d5 n)).sum
 |[]=>N7 n
 |X::l=>by simp only[yR,aAn,aCE];rw[cF,oZ n l]
theorem DJ {α:Type}(f g:α->Int):∀l:List α,(∀x∈l,f x<=g x)->(l.map f).sum<=(l.map g).sum
 |[],_=>aBX _
 |x::l,h=>by
  simp only[aAn,aCE];have:=h x (by simp);have:=DJ f g l (λy a=>h y (aAe _ a))
  lia
theorem CO {α:Type}(f g:α->Int):∀l:List α,(∀x∈l,f x<=g x)->(∃x∈l,f x<g x)->(l.map f).sum<(l.map g).sum
 |[],_,⟨x,b,_⟩=>by cases b
 |x::l,h,⟨y,a,d⟩=>by
  simp only[aAn,aCE];have i:=h x (by simp);have j:=DJ f g l (λy a=>h y (aAe _ a));rcases aAd.mp a with e|e
  .subst e;lia
  .have:=CO f g l (λy a=>h y (aAe _ a)) ⟨y,e,d⟩
   lia
theorem aW {α:Type}(c:Int):∀l:List α,(l.map λ_=>c).sum=(l.length:Int)*c
 |[]=>by simp
 |x::l=>by simp only[aAn,aCE,aAr];rw[aW c l];push_cast;grind
def C7 (J:List V)(X:V):V:=(J.length:Int)*X-yR J
def U0 (J:List V)(n:V)(d:Int):Int:=(J.length:Int)*d-d5 n (yR J)
def xP (J:List V)(n X:V):d5 n (C7 J X)=(J.length:Int)*d5 n X-d5 n (yR J):=by unfold C7;rw[e9,v7]
def fP (a:j4 J)(b:n≠0)(h:∀X∈J,d5 n X<=d):0<U0 J n d:=by
 unfold U0;rw[oZ,<-aW];have:=CO (d5 n) (λ_=>d) J h (a.below b h)
 lia
def len_pos (a:j4 J):0<(J.length:Int):=by
 obtain⟨A,b,_⟩:=a;have:0<J.length:=aEf b
 lia
def Z6 (h:d5 n X=d):d5 n (C7 J X)=U0 J n d:=by rw[xP,h];rfl
def qX (h:d5 n X<=d):d5 n (C7 J X)<=U0 J n d:=by
 rw[xP];unfold U0;have:=aBc h (show(0:Int)<=J.length by lia)
 lia
def QM (a:0<(J.length:Int))(h:d5 n X<d):d5 n (C7 J X)<U0 J n d:=by
 rw[xP];unfold U0;have:=aEP h a
 lia
def WI (J:List V)(a b X:V):i9 (C7 J a) (C7 J b) (C7 J X)=(J.length:Int)*(J.length:Int)*d5 (C7 J a) (cr (b-a) (X-a)):=by unfold C7;generalize(J.length:Int)=N;generalize yR J=s;simp[i9,d5];grind
def AB (h:cr w c=0)(x y:V):d5 w y*d5 c x=d5 w x*d5 c y:=by
 have e:d5 w y*d5 c x-d5 w x*d5 c y=d5 (cr w c) (cr y x):=by simp[d5];grind
 rw[h]at e;have:d5 0 (cr y x)=0:=by simp[d5]
 lia
def HF (e:j4 J)(f:IsFace J n d)(j:d5 n a=d)(o:d5 n b=d)(r:d5 n X=d)(h:0<i9 n (b-a) (X-a)):0<i9 (C7 J a) (C7 J b) (C7 J X):=by
 rw[WI];have g:=len_pos e;refine aAG (aAG g g) ?_;have i:=f.prim.ne;have p:cr n (cr (b-a)<|X-a)=0:=K6 (by rw[e9];lia) (by rw[e9];lia);have q:=AB p n (C7 J a);have k:0<d5 n (C7 J a):=by rw[Z6 j];exact fP e i f.sup
 have l:0<d5 (cr (b-a)<|X-a) n:=by rw[dS];exact h
 have s:=aAG k l;have m:=x8 i;rw[dS (C7 J a)];by_cases z:0<d5 (cr (b-a)<|X-a) (C7 J a)
 .exact z
 .exfalso;have:d5 n n*d5 (cr (b-a)<|X-a) (C7 J a)<=0:=by have:=aBc (show d5 (cr (b-a)<|X-a) (C7 J a)<=0 by lia) (aAT m);simpa using this
  lia
def UE (f:j4 J)(g:IsFace J n d)(j:IsFace J m e)(h:EdgeOf n (λX=>X∈o8 n d J) a b)(k:EdgeOf m (λX=>X∈o8 m e J) b a)(Q:d5 m B*U0 J n d<=d5 n B*U0 J m e):0<=i9 (C7 J a) (C7 J b) B:=by
 obtain⟨X,l,o⟩:=g.third h;have w:=ML f g j h k l o;obtain⟨T,t⟩:=d8.mp l;obtain⟨U,u⟩:=d8.mp h.p;obtain⟨pb,v⟩:=d8.mp h.q;obtain⟨_,x⟩:=d8.mp k.q;obtain⟨_,A⟩:=d8.mp k.p;have c0:=fP f g.prim.ne g.sup;have Y:=fP f j.prim.ne j.sup;have C:=HF f g u v t o;by_cases z:0<=i9 (C7 J a) (C7 J b) B
 .exact z
 .exfalso;have i:∀y,d5 (U0 J n d*m-U0 J m e*n) y=U0 J n d*d5 m y-U0 J m e*d5 n y:=λy=>by rw[dS,e9,v7,v7,dS y m,dS y n]
  have E:d5 (U0 J n d*m-U0 J m e*n) (C7 J a)=0:=by rw[i,Z6 u,Z6 x];grind
  have H:d5 (U0 J n d*m-U0 J m e*n) (C7 J b)=0:=by rw[i,Z6 v,Z6 A];grind
  have I:d5 (U0 J n d*m-U0 J m e*n) (C7 J X)<0:=by
   rw[i,Z6 t];have L:=QM (len_pos f) w;have:=aEP L c0;have e1:U0 J m e*U0 J n d=U0 J n d*U0 J m e:=aGB _ _
   lia
  have p:=AB (K6 E H) (C7 J X) B;have N:d5 (cr (C7 J a)<|C7 J b) (C7 J X)=i9 (C7 J a) (C7 J b) (C7 J X):=U7 _ _ _;have O:d5 (cr (C7 J a)<|C7 J b) B=i9 (C7 J a) (C7 J b) B:=U7 _ _ _;rw[N,O]at p;have r:0<d5 (U0 J n d*m-U0 J m e*n) (C7 J X)*i9 (C7 J a) (C7 J b) B:=Int.mul_pos_of_neg_of_neg I (by lia);rw[<-p]at r;have s:0<d5 (U0 J n d*m-U0 J m e*n) B:=by
   by_cases q:0<d5 (U0 J n d*m-U0 J m e*n) B
   .exact q
   .have:=aAU (show d5 (U0 J n d*m-U0 J m e*n) B<=0 by lia) (aAT C);simp at this;lia
  rw[i]at s;have e4:d5 m B*U0 J n d=U0 J n d*d5 m B:=aGB _ _;have e5:d5 n B*U0 J m e=U0 J m e*d5 n B:=aGB _ _
  lia
def CY {a b c d e f:Int}(g:0<b)(h:0<d)(i:0<f)(j:a*d<=c*b)(k:c*f<=e*d):a*f<=e*b:=by
 have m:=aAU j (aAT i);have n:=aAU k (aAT g);have l:(a*f)*d<=(e*b)*d:=by grind
 exact aEQ l h
theorem GR {α:Type}(p q:α->Int):∀(l:List α),l≠[]->(∀x∈l,0<q x)->∃x∈l,∀y∈l,p y*q x<=p x*q y
 |[],h,_=>absurd rfl h
 |[x],_,_=>⟨x,by simp,λy d=>by simp at d;subst d;exact aBX _⟩
 |x::y::l,_,b=>by
  obtain⟨z,f,h⟩:=GR p q (y::l) (by simp) (λw a=>b w (aAe _ a));by_cases c:p x*q z<=p z*q x
  .refine⟨z,aAe _ f,λw a=>?_⟩;rcases aAd.mp a with e|e
   .subst e;exact c
   .exact h w e
  .refine⟨x,by simp,λw a=>?_⟩;rcases aAd.mp a with e|e
   .subst e;exact aBX _
   .exact CY (b w a) (b z<|aAe _ f) (b x (by simp)) (h w e) (by lia)
theorem a1b (h:V->Int):∀(x:V) (l:List V),0<=h x->(∀z,(x::l).getLast?=some z->h z<=0)->l≠[]->∃u v,(u,v)∈k9 (x::l)/\0<=h u/\h v<=0
 |x,[],_,_,b=>absurd rfl b
 |x,y::r,d,a,_=>by
  by_cases c:h y<=0
  .exact⟨x,y,by simp[k9],d,c⟩
  .match r,a with
   |[],a=>exact absurd (a y rfl) c
   |z::r,a=>obtain⟨u,v,m,p⟩:=a1b h y (z::r) (by lia) (λw e=>a w (by rw[aBo];exact e)) (by simp);exact⟨u,v,by simp only[k9]at m⊢;exact aAe _ m,p⟩
theorem mX:∀(l:List V) (x z w:V),(x::l).getLast?=some z->(z,w)∈k9 (x::l++[w])
 |[],x,z,w,h=>by simp at h;subst h;simp[k9]
 |y::l,x,z,w,h=>by rw[aBo]at h;have:=mX l y z w h;simp only[aAD,k9]at this⊢;exact aAe _ this
theorem bG:∀(l:List V) (x w:V),∀e∈k9 (x::l),e∈k9 (x::l++[w])
 |[],x,w,e,h=>by simp[k9]at h
 |y::l,x,w,e,h=>by
  simp only[aAD,k9]at h⊢;rcases aAd.mp h with q|q
  .subst q;simp
  .exact aAe _ (bG l y w e q)
def C6 (g:J.Pairwise (λa b=>i3 (b-a)))(f:IsFace J n d):∃r s t l,l6 n (o8 n d J)=r::s::t::l:=by
 have S:=f.aa2 g;obtain⟨r,l,e,_⟩:=S.ab5;match l,e with
 |[],e=>
  have h:(r,r)∈B8 (l6 n<|o8 n d J):=by rw[e];simp[B8]
  exact absurd rfl (S.pair h).ne
 |[s],e=>
  have i:(r,s)∈B8 (l6 n<|o8 n d J):=by rw[e];simp[B8]
  have j:(s,r)∈B8 (l6 n<|o8 n d J):=by rw[e];simp[B8]
  have k:=S.pair i;have m:=S.pair j;obtain⟨X,o,p⟩:=f.third k;have:=m.left X o;have q:i9 n (r-s) (X-s)=-i9 n (s-r) (X-r):=by simp[i9,d5];grind
  lia
 |s::t::l,e=>exact⟨r,s,t,l,e⟩
def uE (N:j4 J)(ho:J.Pairwise (λa b=>i3 (b-a)))(fs:List (V×Int))(af:fs≠[])(hf:∀f∈fs,IsFace J f.1 f.2)(hc:∀f∈fs,∀a b,EdgeOf f.1 (λX=>X∈o8 f.1 f.2 J) a b->∃g∈fs,EdgeOf g.1 (λX=>X∈o8 g.1 g.2 J) b a)(w:IsFace J n d):(n,d)∈fs:=by
 obtain⟨B,hBd⟩:∃B,B=yR ((o8 n d J).map (C7 J)):=⟨_,rfl⟩;have dB:∀m,d5 m B=((o8 n d J).map λX=>d5 m (C7 J X)).sum:=λm=>by rw[hBd,oZ,aAV];rfl
 have cn:=fP N w.prim.ne w.sup;have ub:∀m e,(∀X∈J,d5 m X<=e)->d5 m B<=((o8 n d J).length:Int)*U0 J m e:=λm e hm=>by rw[dB,<-aW];exact DJ _ _ _ λX i=>qX (hm X (d8.mp i).1)
 have eB:d5 n B=((o8 n d J).length:Int)*U0 J n d:=by rw[dB,<-aW];congr 1;exact aCK λX i=>Z6 (d8.mp i).2
 obtain⟨⟨m,e⟩,hm,htop⟩:=GR (λf:V×Int=>d5 f.1 B) (λf=>U0 J f.1 f.2) fs af λf h=>fP N (hf f h).prim.ne (hf f h).sup;have j:=hf _ hm;have O:∀a b,EdgeOf m (λX=>X∈o8 m e J) a b->0<=i9 (C7 J a) (C7 J b) B:=λa b hab=>by obtain⟨g,hg,hg2⟩:=hc _ hm a b hab;exact UE N j (hf g hg) hab hg2 (htop g hg)
 have S:=j.aa2 ho;obtain⟨r,s,t,l,er⟩:=C6 ho j;have nd:=S.aa3;have pr:=λ{P Q}=>S.aa1 (P:=P) (Q:=Q);rw[er]at pr nd;have rm:r∈l6 m (o8 m e J):=by rw[er];simp
 have on:∀X∈r::s::t::l,d5 m X=e:=λX i=>by rw[<-er]at i;exact(d8.mp<|S.aa4 i).2
 obtain⟨z,hz⟩:∃z,(s::t::l).getLast?=some z:=by simp[aEV]
 have c1:(r,s)∈B8 (r::s::t::l):=by rw[W4];simp[k9]
 have c2:(z,r)∈B8 (r::s::t::l):=by rw[W4];exact mX _ _ _ _ (by rw[aBo];exact hz)
 have w1:=O _ _ (pr.mp c1);have w2:=O _ _ (pr.mp c2);obtain⟨u,v,T,hu,hv⟩:=a1b (λX=>i9 (C7 J r) (C7 J X) B) s (t::l) w1 (λy hy=>by
  have:y=z:=aAm (hy.symm.trans hz);subst this;have e1:i9 (C7 J r) (C7 J y) B=-i9 (C7 J y) (C7 J r) B:=by simp[i9,d5];grind
  lia) (by simp)
 have c3:(u,v)∈B8 (r::s::t::l):=by rw[W4];have:=bG (t::l) s r _ T;simp only[aAD,k9]at this⊢;exact aAe _ this
 have g3:=pr.mp c3;have U:u∈s::t::l/\v∈s::t::l:=by
  have:=T;have hh:∀(l:List V) (p q:V),(p,q)∈k9 l->p∈l/\q∈l:=λl=>by
   induction l with
   |nil=>intro p q h;simp[k9]at h
   |cons x l ih=>
    intro p q h;match l,h,ih with
    |[],h,_=>simp[k9]at h
    |y::l,h,ih=>
     simp only[k9]at h;rcases aAd.mp h with c|c
     .cases c;simp
     .have:=ih p q c;exact⟨aAe _ this.1,aAe _ this.2⟩
  exact hh _ _ _ T
 have nr:=(aAI.mp nd).1;have ru:r≠u:=λq=>by subst q;exact nr U.1
 have rv:r≠v:=λq=>by subst q;exact nr U.2
 have st:=S.strict g3 rm ru rv;have du:=on u (aAe _ U.1);have dv:=on v (aAe _ U.2);have dr:=on r (by simp);have D0:=HF N j du dv dr st;have w3:=O _ _ g3;have k:=DC B (C7 J r) (C7 J u) (C7 J v);have a1:i9 B (C7 J u) (C7 J v)=i9 (C7 J u) (C7 J v) B:=by simp[i9,d5];grind
 have a2:i9 B (C7 J v) (C7 J r)=-i9 (C7 J r) (C7 J v) B:=by simp[i9,d5];grind
 have a3:i9 B (C7 J r) (C7 J u)=i9 (C7 J r) (C7 J u) B:=by simp[i9,d5];grind
 have a4:i9 (C7 J r) (C7 J u) (C7 J v)=i9 (C7 J u) (C7 J v) (C7 J r):=by simp[i9,d5];grind
 rw[a1,a2,a3,a4]at k;obtain⟨E,hal⟩:∃E,E=i9 (C7 J u) (C7 J v) B:=⟨_,rfl⟩;obtain⟨H,yh⟩:∃H,H=-i9 (C7 J r) (C7 J v) B:=⟨_,rfl⟩;obtain⟨I,hga⟩:∃I,I=i9 (C7 J r) (C7 J u) B:=⟨_,rfl⟩;obtain⟨o,hDe⟩:∃o,o=i9 (C7 J u) (C7 J v) (C7 J r):=⟨_,rfl⟩;rw[<-hal,<-yh,<-hga,<-hDe]at k;have al0:0<=E:=by lia
 have be0:0<=H:=by lia
 have ga0:0<=I:=by lia
 have De0:0<o:=by lia
 have cd:∀f:V,o*d5 f B=I*d5 f (C7 J v)+E*d5 f (C7 J r)+H*d5 f (C7 J u):=λf=>by
  have:=kb (d5 f) k;rw[cF,cF,v7,v7,v7,v7]at this
  lia
 have q1:=cd m;rw[Z6 dr,Z6 du,Z6 dv]at q1;have q2:=cd n;have cm:=fP N j.prim.ne j.sup;have pt:∀X∈r::s::t::l,X∈J:=λX i=>by rw[<-er]at i;exact(d8.mp<|S.aa4 i).1
 have r1:=qX (J:=J) (w.sup r (pt r (by simp)));have r2:=qX (J:=J) (w.sup u<|pt u<|aAe _ U.1);have r3:=qX (J:=J) (w.sup v<|pt v<|aAe _ U.2);have s1:=aBc r1 al0;have s2:=aBc r2 be0;have s3:=aBc r3 ga0;obtain⟨L,hL⟩:∃L:Int,L=((o8 n d J).length:Int):=⟨_,rfl⟩;have ub1:=ub m e j.sup;rw[<-hL]at eB ub1;have k1:o*L<=E+H+I:=by
  have:(o*L)*U0 J n d<=(E+H+I)*U0 J n d:=by
   rw[eB]at q2;have e1:o*L*U0 J n d=o*(L*U0 J n d):=Int.mul_assoc _ _ _;have e2:(E+H+I)*U0 J n d=E*U0 J n d+H*U0 J n d+I*U0 J n d:=by grind
   lia
  exact aEQ this cn
 have k2:o*d5 m B=(E+H+I)*U0 J m e:=by rw[q1];grind
 have k3:(o*L)*U0 J m e<=o*d5 m B:=by rw[k2];exact aAU k1 (aAT cm)
 have k4:L*U0 J m e<=d5 m B:=by rw[Int.mul_assoc]at k3;exact Int.le_of_mul_le_mul_left k3 De0
 have all:∀X∈o8 n d J,d5 m X=e:=λX i=>by
  have le:d5 m X<=e:=j.sup X (d8.mp i).1;by_cases z:d5 m X=e
  .exact z
  .exfalso;have:=CO (λX=>d5 m (C7 J X)) (λ_=>U0 J m e) (o8 n d J) (λY hY=>qX (j.sup Y (d8.mp hY).1)) ⟨X,i,QM (len_pos N) (by lia)⟩;rw[<-dB,aW,<-hL]at this
   lia
 obtain⟨A,hA,B',hB',C,hC,ea,eb,ec,hcr⟩:=w.three;obtain⟨Z,hZ,hz⟩:=N.below w.prim.ne w.sup;obtain⟨rfl,rfl⟩:=jG w.prim j.prim w.sup j.sup ea eb ec (all A<|d8.mpr ⟨hA,ea⟩) (all B'<|d8.mpr ⟨hB',eb⟩) (all C<|d8.mpr ⟨hC,ec⟩) hcr hZ hz;exact hm
def i4 (J:List V)(f:V×Int):List V:=l6 f.1 (o8 f.1 f.2 J)
structure LInv (J:List V)(p0:V×V)(fs:List (V×Int))(walked:V×V->Prop)(waiting:List (V×V)):Prop where
 face:∀f∈fs,IsFace J f.1 f.2
 nd:fs.Nodup
 wk:∀e,walked e↔∃f∈fs,e∈B8 (i4 J f)
 cl:∀f∈fs,∀a b,(a,b)∈B8 (i4 J f)->(∃g∈fs,(b,a)∈B8 (i4 J g))\/(b,a)∈waiting
 wt:∀p∈waiting,(∃f∈fs,(p.2,p.1)∈B8 (i4 J f))\/(fs=[]/\p=p0)
 ne:fs=[]->waiting=[p0]
structure Good (J:List V)(m:V):Prop where
 solid:j4 J
 ord:J.Pairwise (λa b=>i3 (b-a))
 mem:m∈J
 least:∀X∈J,X=m\/i3 (X-m)
section
variable{J:List V} {m:V} (G:Good J m) {fs:List (V×Int)} {walked:V×V->Prop} {waiting rest:List (V×V)} {p:V×V}
include G
theorem CT:LInv J (i5 m J) [] (λ_=>False) [i5 m J]where
 face:=λf h=>by cases h
 nd:=aDl
 wk:=λe=>⟨λh=>h.elim,λ⟨f,h,_⟩=>by cases h⟩
 cl:=λf h=>by cases h
 wt:=λq h=>.inr ⟨rfl,by simpa using h⟩
 ne:=λ_=>rfl
theorem RW (h:LInv J (i5 m J) fs walked waiting)(j:waiting=rest++[p])(k:walked p):LInv J (i5 m J) fs walked rest:=by
 have i:∀q,q∈waiting↔q=p\/q∈rest:=λq=>by rw[j];simp[or_comm]
 obtain⟨l,d,n⟩:=(h.wk p).mp k;have o:fs≠[]:=λe=>by subst e;cases d
 refine⟨h.face,h.nd,h.wk,λf r a b g=>?_,λq s=>h.wt q ((i q).mpr (.inr s)),λe=>absurd e o⟩;rcases h.cl f r a b g with q|q
 .exact .inl q
 .rcases(i (b,a)).mp q with z|z
  .subst z;exact .inl ⟨l,d,n⟩
  .exact .inr z
theorem BU (h:LInv J (i5 m J) fs walked waiting)(e:p∈waiting)(g:¬walked p):IsFace J (b7 p.1 p.2 J).1 (b7 p.1 p.2 J).2/\b7 p.1 p.2 J∉fs/\(fs≠[]->p∈B8 (i4 J (b7 p.1 p.2 J))):=by
 rcases h.wt p e with⟨f,i,j⟩|⟨k,l⟩
 .have a:=h.face f i;have S:=a.aa2 G.ord;have n:=S.aa1.mp j;obtain⟨b,o⟩:=uG a.prim.ne a.sup (G.solid.below a.prim.ne a.sup) n;have q:=b.aa2 G.ord;have d:p∈B8 (i4 J<|b7 p.1 p.2 J):=q.aa1.mpr o;exact⟨b,λz=>g ((h.wk p).mpr ⟨_,z,d⟩),λ_=>d⟩
 .subst k l;exact⟨iI G.solid G.ord G.mem G.least,by simp,λz=>absurd rfl z⟩
theorem SE (h:LInv J (i5 m J) fs walked waiting)(n:waiting=rest++[p])(r:¬walked p){walked':V×V->Prop}(s:∀e,walked' e↔walked e\/e∈B8 (i4 J (b7 p.1 p.2 J)))(k:∀q,q∈waiting'↔q∈rest\/(q.2,q.1)∈B8 (i4 J (b7 p.1 p.2 J))):
  LInv J (i5 m J) (fs++[b7 p.1 p.2 J]) walked' waiting':=by
 have l:∀q,q∈waiting↔q=p\/q∈rest:=λq=>by rw[n];simp[or_comm]
 obtain⟨t,u,v⟩:=BU G h ((l p).mpr (.inl rfl)) r;refine⟨λf d=>?_,?_,λe=>?_,λf d a b j=>?_,λq w=>?_,λe=>by simp at e⟩
 .rcases aAL.mp d with z|z
  .exact h.face f z
  .have:f=b7 p.1 p.2 J:=by simpa using z
   subst this;exact t
 .rw[aCo];exact⟨h.nd,by simp,λa x b A=>λe=>by
   have:b=b7 p.1 p.2 J:=by simpa using A
   subst e this;exact u x⟩
 .rw[s,h.wk];constructor
  .rintro(⟨f,d,i⟩|i)
   .exact⟨f,aBu _ d,i⟩
   .exact⟨_,aAH _ (by simp),i⟩
  .rintro⟨f,d,i⟩;rcases aAL.mp d with z|z
   .exact .inl ⟨f,z,i⟩
   .have:f=b7 p.1 p.2 J:=by simpa using z
    subst this;exact .inr i
 .rcases aAL.mp d with z|z
  .rcases h.cl f z a b j with⟨g,B,e⟩|q
   .exact .inl ⟨g,aBu _ B,e⟩
   .rcases(l (b,a)).mp q with y|y
    .have C:fs≠[]:=λe=>by subst e;cases z
     exact .inl ⟨b7 p.1 p.2 J,aAH _ (by simp),by rw[y];exact v C⟩
    .exact .inr ((k _).mpr (.inl y))
  .have:f=b7 p.1 p.2 J:=by simpa using z
   subst this;exact .inr ((k _).mpr (.inr j))
 .rcases(k q).mp w with z|z
  .rcases h.wt q ((l q).mpr (.inr z))with⟨f,d,e⟩|⟨E,H⟩
   .exact .inl ⟨f,aBu _ d,e⟩
   .have:=h.ne E;exfalso;rw[n]at this;have o:=kb List.length this;simp at o;subst o;cases z
  .exact .inl ⟨_,aAH _ (by simp),z⟩
theorem RD (h:LInv J (i5 m J) fs walked []):fs≠[]/\∀n d,(n,d)∈fs↔IsFace J n d:=by
 have k:fs≠[]:=λe=>by have:=h.ne e;cases this
 refine⟨k,λn d=>⟨λi=>h.face _ i,λi=>?_⟩⟩;refine uE G.solid G.ord fs k h.face (λf i a b j=>?_) i;have S:=(h.face f i).aa2 G.ord;rcases h.cl f i a b (S.aa1.mpr j)with⟨g,l,e⟩|q
 .exact⟨g,l,((h.face g l).aa2 G.ord).aa1.mp e⟩
 .cases q
end
def mK (h:IsFace J n d):∃A∈J,∃B∈J,∃C∈J,cr (B-A) (C-A)≠0/\d9 A B C=(n,d):=by
 obtain⟨A,r,B,f,C,i,a,b,c,e⟩:=h.three;have j:∀B∈J,∀C∈J,d5 n B=d->d5 n C=d->cr (B-A) (C-A)≠0->0<d5 n (cr (B-A)<|C-A)->d9 A B C=(n,d):=λB f C i b c e m=>by
  obtain⟨g,w,E,H,I⟩:=W7 e;have p:cr n (cr (B-A)<|C-A)=0:=K6 (by rw[e9];lia) (by rw[e9];lia);obtain⟨k,l,s,o⟩:=B7 h.prim.ne p;have L:0<l:=by
   have q:=kb (d5 n) o;rw[v7,v7]at q;have:=aAG s m;have N:=x8 h.prim.ne;by_cases z:0<l
   .exact z
   .have:=aAU (show l<=0 by lia) (aAT N);simp at this;lia
  rw[E]at o;have O:(k*g)*(d9 A B C).1=l*n:=by rw[<-o];apply ext<;>simp<;>grind
  have t:=oP H h.prim (aAG s w) L O;refine aEY t ?_;rw[I,t];exact a
 by_cases z:0<d5 n (cr (B-A)<|C-A)
 .exact⟨A,r,B,f,C,i,e,j B f C i b c e z⟩
 .have u:cr (C-A) (B-A)=-cr (B-A) (C-A):=by apply ext<;>simp<;>grind
  have v:cr (C-A) (B-A)≠0:=λq=>e (by rw[u]at q;have Q:=kb V.x q;have T:=kb V.y q;have U:=kb V.z q;simp only[ZD,ZA,ZE,aH,aI,aG]at Q T U;exact ext (by simp only[aH];lia) (by simp only[aI];lia) (by simp only[aG];lia))
  have Y:d5 n (cr (B-A)<|C-A)≠0:=λq=>e (W8 h.prim.ne (by rw[e9];lia) (by rw[e9];lia) q);refine⟨A,r,C,i,B,f,v,j C i B f c b v ?_⟩;have:d5 n (cr (C-A)<|B-A)=-d5 n (cr (B-A)<|C-A):=by rw[u];simp[d5];grind
  lia
def cands (J:List V):List (V×Int):=J.flatMap λA=>J.flatMap λB=>J.map λC=>d9 A B C
def JT (J:List V):(cands J).length=J.length*(J.length*J.length):=by
 unfold cands;have h:∀(l:List V) (f:V->List (V×Int)) (k:Nat),(∀x,(f x).length=k)->(l.flatMap f).length=l.length*k:=λl f k a=>by
  induction l with
  |nil=>simp
  |cons x l b=>rw[aDB,aAC,b,a,aAr,aGC,aGD]
 rw[h J _ (J.length*J.length) λA=>h J _ J.length λB=>by simp]
theorem M5 {α:Type}[DecidableEq α]:∀{l m:List α},l.Nodup->(∀x∈l,x∈m)->l.length<=m.length
 |[],_,_,_=>aAM _
 |x::l,m,h,a=>by
  have b:=a x (by simp);have d:=aAI.mp h;have:=M5 (l:=l) (m:=m.erase x) d.2 (λy f=>by
   have ne:y≠x:=λe=>by subst e;exact d.1 f
   exact(aFQ ne).mpr (a y<|aAe _ f))
  rw[aFl b]at this;have:0<m.length:=aEf b;simp only[aAr]
  lia
def uA {J:List V}{fs:List (V×Int)}(a:fs.Nodup)(b:∀f∈fs,IsFace J f.1 f.2):fs.length<=J.length*(J.length*J.length):=by rw[<-JT];refine M5 a λf h=>?_;obtain⟨A,d,B,g,C,i,_,e⟩:=mK (b f h);unfold cands;rw[aBf];refine⟨A,d,?_⟩;rw[aBf];exact⟨B,g,aAk.mpr ⟨C,i,e⟩⟩
section
variable{J:List V} (hs:j4 J) (ho:J.Pairwise (λa b=>i3 (b-a)))
include hs ho
theorem iO (e:IsFace J n d)(h:EdgeOf n (λX=>X∈o8 n d J) a b):
 IsFace J (b7 b a J).1 (b7 b a J).2/\EdgeOf (b7 b a J).1 (λX=>X∈o8 (b7 b a J).1 (b7 b a J).2 J) b a:=uG e.prim.ne e.sup (hs.below e.prim.ne e.sup) h
theorem kC (e:IsFace J n d)(f:EdgeOf n (λX=>X∈o8 n d J) a b)(g:EdgeOf n (λX=>X∈o8 n d J) b a):False:=by
 obtain⟨X,h,i⟩:=e.third f;have:=g.left X h;have j:i9 n (a-b) (X-b)=-i9 n (b-a) (X-a):=by simp[i9,d5];grind
 lia
theorem yA (a:IsFace J n d)(m:X∈i4 J (n,d)):∃g h:V×Int,IsFace J g.1 g.2/\IsFace J h.1 h.2/\(n,d)≠g/\(n,d)≠h/\g≠h/\d5 n X=d/\d5 g.1 X=g.2/\d5 h.1 X=h.2:=by
 have S:=a.aa2 ho;obtain⟨Y,s⟩:=bW S m;obtain⟨W,o⟩:=OU S m;have b:=S.aa1.mp s;have i:=S.aa1.mp o;obtain⟨k,f⟩:=iO hs ho a b;obtain⟨t,j⟩:=iO hs ho a i;have l:W≠Y:=λe=>by subst e;exact kC hs ho a b i
 refine⟨_,_,k,t,λe=>?_,λe=>?_,λe=>?_,(d8.mp b.p).2,(d8.mp f.q).2,(d8.mp j.p).2⟩
 .rw[<-e]at f;exact kC hs ho a b f
 .rw[<-e]at j;exact kC hs ho a i j
 .
  have st:=S.strict b (xK S o).1 (i.ne) l;have u:=(d8.mp i.p).2;have v:=(d8.mp b.p).2;have w:=(d8.mp b.q).2;have x:=(d8.mp f.p).2;have y:=(d8.mp f.q).2;have r:=(d8.mp j.q).2;rw[<-e]at r;have z:cr (Y-X) (W-X)≠0:=λq=>by unfold i9 at st;rw[q,N7]at st;lia
  obtain⟨Z,A,B⟩:=hs.below a.prim.ne a.sup;obtain⟨C,E⟩:=jG a.prim k.prim a.sup k.sup v w u y x r z A B;have:(n,d)=b7 Y X J:=aEY C E;rw[<-this]at f;exact kC hs ho a b f
theorem KC (r:IsFace J n d)(g:IsFace J m e)(h:EdgeOf n (λX=>X∈o8 n d J) a b)(ga:d5 m a=e)(gb:d5 m b=e):(m,e)=(n,d)\/(m,e)=b7 b a J:=by
 obtain⟨pa,da⟩:=d8.mp h.p;obtain⟨pb,db⟩:=d8.mp h.q;obtain⟨H,I⟩:=iO hs ho r h;have hab:d5 n (a-b)=0:=by rw[e9];lia
 have C:=tV (n:=n) r.prim.ne hab;have af:a-b≠0:=λq=>h.ne (bX q);obtain⟨P,pP,eP,hP⟩:∃P∈J,d5 m P=e/\cr (a-b) (P-b)≠0:=by
  by_cases z:∃P∈J,d5 m P=e/\cr (a-b) (P-b)≠0
  .exact z
  .exfalso;obtain⟨A,hA,B,hB,D,hD,eA,eB,eD,hc⟩:=g.three;have k:∀X∈J,d5 m X=e->cr (a-b) (X-b)=0:=λX hX dX=>by
    by_cases q:cr (a-b) (X-b)=0
    .exact q
    .exact absurd ⟨X,hX,dX,q⟩ z
   have k2:∀X∈J,d5 m X=e->∀Y∈J,d5 m Y=e->cr (X-Y) (a-b)=0:=λX hX dX Y hY dY=>by have s:=k X hX dX;have f:=k Y hY dY;have a1:=kb V.x s;have a2:=kb V.y s;have a3:=kb V.z s;have I:=kb V.x f;have b2:=kb V.y f;have b3:=kb V.z f;simp at a1 a2 a3 I b2 b3;apply ext<;>simp<;>grind
   exact hc (pE af (k2 B hB eB A hA eA)<|k2 D hD eD A hA eA)
 have mab:d5 m (a-b)=0:=by rw[e9];lia
 have mP:d5 m (P-b)=0:=by rw[e9];lia
 have par:cr m (cr (a-b)<|P-b)=0:=K6 mab mP;obtain⟨k,l,hk,L⟩:=B7 g.prim.ne par;have dl:∀w,k*i9 (a-b) (P-b) w=l*d5 m w:=λw=>by have:=kb (λv=>d5 v w) L;simp only[K4,U7]at this;exact this
 have l0:l≠0:=λq=>hP (by rw[q,x6]at L;have s:=kb V.x L;have f:=kb V.y L;have q3:=kb V.z L;simp only[TD,TF,NG,aH,aI,aG]at s f q3;exact ext ((aAy.mp s).resolve_left (by lia)) ((aAy.mp f).resolve_left (by lia)) ((aAy.mp q3).resolve_left (by lia)))
 have N:∀Q∈J,d5 m (Q-b)<=0:=λQ hQ=>by rw[e9];have:=g.sup Q hQ;lia
 obtain⟨Z,hZ,hz⟩:=hs.below r.prim.ne r.sup;by_cases hl:0<l
 .
  right;obtain⟨O,hO,eO⟩:∃O∈o8 (b7 b a J).1 (b7 b a J).2 J,0<i9 (b7 b a J).1 (a-b) (O-b):=H.third I;obtain⟨pO,dO⟩:=d8.mp hO;obtain⟨_,e1b⟩:=d8.mp I.p;obtain⟨_,e1a⟩:=d8.mp I.q;have t1:i9 (a-b) (P-b) (O-b)<=0:=by
   have q:=dl (O-b);have:=aBc (N O pO) (aAT hl);rw[aEp]at this;by_cases z:i9 (a-b) (P-b) (O-b)<=0
   .exact z
   .have:=aAG hk (show 0<i9 (a-b) (P-b) (O-b)by lia);lia
  have i:cr (b7 b a J).1 (cr (a-b)<|O-b)=0:=K6 (by rw[e9];lia) (by rw[e9];lia);obtain⟨k',t,T,j⟩:=B7 H.prim.ne i;have o:∀w,k'*i9 (a-b) (O-b) w=t*d5 (b7 b a J).1 w:=λw=>by have:=kb (λv=>d5 v w) j;simp only[K4,U7]at this;exact this
  have jf:0<t:=by
   have q:=kb (d5 (b7 b a J).1) j;rw[v7,v7]at q;have f:0<d5 (b7 b a J).1 (cr (a-b)<|O-b):=eO;have:=aAG T f;have hn:=x8 H.prim.ne;by_cases z:0<t
   .exact z
   .have:=aAU (show t<=0 by lia) (aAT hn);simp at this;lia
  have t2:i9 (a-b) (O-b) (P-b)<=0:=by
   have q:=o (P-b);have h0:d5 (b7 b a J).1 (P-b)<=0:=by rw[e9];have:=H.sup P pP;lia
   have:=aBc h0 (aAT jf);rw[aEp]at this;by_cases z:i9 (a-b) (O-b) (P-b)<=0
   .exact z
   .have:=aAG T (show 0<i9 (a-b) (O-b) (P-b)by lia);lia
  have t3:i9 (a-b) (O-b) (P-b)=0:=by rw[l3]at t1;lia
  have U:=o (P-b);rw[t3,aEp]at U;have onP':d5 (b7 b a J).1 P=(b7 b a J).2:=by have:=(aAy.mp U.symm).resolve_left (by lia);rw[e9]at this;lia
  obtain⟨Z',u,E⟩:=hs.below g.prim.ne g.sup;obtain⟨s,f⟩:=jG g.prim H.prim g.sup H.sup gb ga eP e1b e1a onP' hP u E;exact aEY s f
 .
  left;have nh:l<0:=by lia
  obtain⟨O,hO,eO⟩:=r.third h;obtain⟨pO,dO⟩:=d8.mp hO;rw[pI]at eO;have t1:0<=i9 (a-b) (P-b) (O-b):=by
   have q:=dl (O-b);have h2:0<=l*d5 m (O-b):=by
    have:=aBR (show 0<=-l by lia) (show 0<=-d5 m (O-b)by have:=N O pO;lia)
    rwa [aDu]at this
   by_cases z:0<=i9 (a-b) (P-b) (O-b)
   .exact z
   .have:=aBs hk (show i9 (a-b) (P-b) (O-b)<0 by lia);lia
  have i:cr n (cr (b-a)<|O-b)=0:=K6 (by rw[e9];lia) (by rw[e9];lia);obtain⟨k',t,T,j⟩:=B7 r.prim.ne i;have o:∀w,k'*i9 (b-a) (O-b) w=t*d5 n w:=λw=>by have:=kb (λv=>d5 v w) j;simp only[K4,U7]at this;exact this
  have jf:0<t:=by
   have q:=kb (d5 n) j;rw[v7,v7]at q;have f:0<d5 n (cr (b-a)<|O-b):=eO;have:=aAG T f;have hn:=x8 r.prim.ne;by_cases z:0<t
   .exact z
   .have:=aAU (show t<=0 by lia) (aAT hn);simp at this;lia
  have t2:i9 (b-a) (O-b) (P-b)<=0:=by
   have q:=o (P-b);have h0:d5 n (P-b)<=0:=by rw[e9];have:=r.sup P pP;lia
   have:=aBc h0 (aAT jf);rw[aEp]at this;by_cases z:i9 (b-a) (O-b) (P-b)<=0
   .exact z
   .have:=aAG T (show 0<i9 (b-a) (O-b) (P-b)by lia);lia
  have e3:i9 (b-a) (O-b) (P-b)=i9 (a-b) (P-b) (O-b):=by simp[i9,d5];grind
  have t3:i9 (b-a) (O-b) (P-b)=0:=by lia
  have U:=o (P-b);rw[t3,aEp]at U;have onn:d5 n P=d:=by have:=(aAy.mp U.symm).resolve_left (by lia);rw[e9]at this;lia
  obtain⟨Z',u,E⟩:=hs.below g.prim.ne g.sup;obtain⟨s,f⟩:=jG g.prim r.prim g.sup r.sup gb ga eP db da onn hP u E;exact aEY s f
end
def zH (j:j4 J)(k:m∈J)(l:∀X∈J,X=m\/i3 (X-m)):
  dR (b7 m (m+kk) J).1/\m∈o8 (b7 m (m+kk) J).1 (b7 m (m+kk) J).2 J/\∃a∈o8 (b7 m (m+kk) J).1 (b7 m (m+kk) J).2 J,m≠a:=by
 have C:ConeM (m+kk-m) (λw=>0<w.x\/(w.x=0/\0<w.y)):=by rw[M2];exact GC
 have o:m+kk-m≠0:=by rw[M2];intro e;have:=kb V.z e;simp[kk]at this
 have b:∀P∈J,(0<(P-m).x\/((P-m).x=0/\0<(P-m).y))\/cr (m+kk-m) (P-m)=0:=λP p=>by
  rw[M2];rcases l P p with e|e
  .right;subst e;rw[A1];apply ext<;>simp
  .unfold i3 at e;rcases e with e|⟨f,e|⟨r,E⟩⟩
   .exact .inl (.inl e)
   .exact .inl (.inr ⟨f,e⟩)
   .right;apply ext
    .simp[kk];simp at r;lia
    .simp[kk];simp at f;lia
    .simp[kk]
 have s:∃P∈J,0<(P-m).x\/((P-m).x=0/\0<(P-m).y):=by
  by_cases z:∃P∈J,0<(P-m).x\/((P-m).x=0/\0<(P-m).y)
  .exact z
  .exfalso;obtain⟨Z,h,e⟩:=j.off (n:=⟨1,0,0⟩) (d:=m.x) (λe=>by have:=kb V.x e;simp at this);have w:=(b Z h).resolve_left λq=>z ⟨Z,h,q⟩;rw[M2]at w;have:=kb V.y w;simp[kk]at this;simp[d5]at e
   lia
 obtain⟨a,g,t,i,H,I,u,v,A,L,B,N⟩:=X7 C o b s;refine⟨u,d8.mpr ⟨k,v.symm⟩,a,d8.mpr ⟨t,B⟩,λe=>?_⟩;subst e;rw[A1]at i;simp at i
section
variable{J:List V} (hs:j4 J) (ho:J.Pairwise (λa b=>i3 (b-a)))
include hs ho
theorem TR (d:IsFace J f.1 f.2)(e:IsFace J g.1 g.2)(k:(a,b)∈B8 (i4 J f))(l:(a,b)∈B8 (i4 J g)):f=g:=by
 have i:=(d.aa2 ho).aa1.mp k;have h:=(e.aa2 ho).aa1.mp l;obtain⟨m,j⟩:=iO hs ho d i;rcases KC hs ho d e i (d8.mp h.p).2 (d8.mp h.q).2 with q|q
 .exact q.symm
 .exfalso;have:g=b7 b a J:=q;rw[<-this]at j;exact kC hs ho e h j
theorem JQ (h:l.Nodup):(B8 l).Nodup:=by
 have:((B8 l).map (·.1)).Nodup:=by
  unfold B8;rw[aFw]
  .exact h
  .simp;lia
 exact(aBm.mp this).imp λ{a b} h e=>h (by rw[e])
def gO (J:List V)(fs:List (V×Int)):List (V×V):=fs.flatMap λf=>B8 (i4 J f)
omit hs ho in
theorem QD (fs:List (V×Int)):(gO J fs).length=(fs.map λf=>(i4 J f).length).sum:=by
 induction fs with
 |nil=>rfl
 |cons f fs a=>show(B8 (i4 J f)++gO J fs).length=_;rw[aAC,a,aAn,aCE];congr 1;unfold B8;simp;lia
theorem iL:∀{fs:List (V×Int)},fs.Nodup->(∀f∈fs,IsFace J f.1 f.2)->(gO J fs).Nodup
 |[],_,_=>aDl
 |f::fs,k,h=>by have i:=aAI.mp k;have j:=h f (.head _);show(B8 (i4 J f)++gO J fs).Nodup;rw[aCo];refine⟨JQ hs ho ((j.aa2 ho).aa3),iL i.2 λg d=>h g (.tail _ d),λe l o m q=>?_⟩;subst q;obtain⟨g,d,n⟩:=aBf.mp m;exact i.1 (TR hs ho j (h g<|.tail _ d) (a:=e.1) (b:=e.2) l n▸d)
theorem aX {fs:List (V×Int)}(s:fs.Nodup)(k:∀f∈fs,IsFace J f.1 f.2):(fs.map λf=>(i4 J f).length).sum+J.length<=J.length*J.length:=by
 have i:J.Nodup:=ho.imp λ{a b} h e=>by subst e;exact K1 h
 have t:=iL hs ho s k;have u:(gO J fs++J.map λa=>(a,a)).Nodup:=by rw[aCo];refine⟨t,aBm.mpr (i.imp λ{a b} h e=>h (Prod.mk.inj e).1),λe d z v q=>?_⟩;subst q;obtain⟨g,m,j⟩:=aBf.mp d;obtain⟨a,_,rfl⟩:=aAk.mp v;exact(((k g m).aa2 ho).aa1.mp j).ne rfl
 have w:∀e∈gO J fs++J.map (λa=>(a,a)),e∈J.flatMap λa=>J.map λb=>(a,b):=λe d=>by
  rcases aAL.mp d with d|d
  .obtain⟨g,m,j⟩:=aBf.mp d;have j:(e.1,e.2)∈B8 (i4 J g):=j;have n:=((k g m).aa2 ho).aa1.mp j;exact aBf.mpr ⟨e.1,(d8.mp n.p).1,aAk.mpr ⟨e.2,(d8.mp n.q).1,rfl⟩⟩
  .obtain⟨a,o,rfl⟩:=aAk.mp d;exact aBf.mpr ⟨a,o,aAk.mpr ⟨a,o,rfl⟩⟩
 have r:=M5 u w;have x:(J.flatMap λa=>J.map λb=>(a,b)).length=J.length*J.length:=by
  have:∀l:List V,(l.flatMap λa=>J.map λb=>(a,b)).length=l.length*J.length:=λl=>by
   induction l with
   |nil=>simp
   |cons a l y=>rw[aDB,aAC,y,aAi,aAr,aGC];lia
  exact this J
 rw[aAC,QD,aAi,x]at r;exact r
theorem dU {fs:List (V×Int)}(a:∀f∈fs,IsFace J f.1 f.2):3*fs.length<=(fs.map λf=>(i4 J f).length).sum:=by
 induction fs with
 |nil=>simp
 |cons f fs b=>
  have:=b λg d=>a g (.tail _ d);obtain⟨r,s,t,l,e⟩:=C6 ho (a f<|.head _);have h:(i4 J f).length=l.length+3:=by show(l6 f.1 (o8 f.1 f.2 J)).length=_;rw[e];simp
  rw[aAn,aCE,aAr,h]
  lia
end
theorem lB:∀(J:List V) (d b:V),(G8 a A J d b).2∈J\/(G8 a A J d b).2=b
 |[],d,b=>.inr rfl
 |P::e,d,b=>by
  unfold G8;split
  .rcases lB e (cr a (P-A)) P with h|h
   .exact .inl (.tail _ h)
   .exact .inl (by rw[h];exact .head _)
  .rcases lB e d b with h|h
   .exact .inl (.tail _ h)
   .exact .inr h
section
variable{J c:List V} (hs:j4 J) (ho:J.Pairwise (λa b=>i3 (b-a))) (dc:c.Pairwise (λa b=>i3 (b-a))) (hc:∀X,X∈c↔∃f:V×Int,IsFace J f.1 f.2/\X∈i4 J f)
include hs ho dc hc
theorem ZN (h:X∈c):X∈J:=by obtain⟨f,a,b⟩:=(hc X).mp h;exact(d8.mp<|(a.aa2 ho).aa4 b).1
theorem kQ (a:IsFace J n d)(h:X∈i4 J (n,d)):X∈o8 n d c:=by have b:=(d8.mp<|(a.aa2 ho).aa4 h).2;exact d8.mpr ⟨(hc X).mpr ⟨(n,d),a,h⟩,b⟩
theorem jq (h:X∈o8 n d c):X∈o8 n d J:=d8.mpr ⟨ZN hs ho dc hc (d8.mp h).1,(d8.mp h).2⟩
theorem mE (a:IsFace J n d):IsFace c n d:=by
 have S:=a.aa2 ho;obtain⟨r,s,t,l,e⟩:=C6 ho a;have i:r∈l6 n (o8 n d J):=by rw[e];simp
 have j:s∈l6 n (o8 n d J):=by rw[e];simp
 have f:t∈l6 n (o8 n d J):=by rw[e];simp
 have b:=S.aa3;rw[e]at b;simp only[aAI,aAd,not_or]at b;have g:EdgeOf n (λX=>X∈o8 n d J) r s:=S.aa1.mp (by rw[e];simp[B8]);have st:=S.strict g f (λq=>b.1.2.1 q.symm) (λq=>b.2.1.1 q.symm);have k:=λ{X} (h:X∈l6 n (o8 n d J))=>kQ hs ho dc hc a (X:=X) h;refine⟨a.prim,λX m=>a.sup X (ZN hs ho dc hc m),r,(d8.mp<|k i).1,s,(d8.mp<|k j).1,t,(d8.mp<|k f).1,(d8.mp<|k i).2,(d8.mp<|k j).2,(d8.mp<|k f).2,λq=>?_⟩;unfold i9 at st;rw[q,N7]at st
 lia
theorem vJ (e:IsFace J n d)(h:EdgeOf n (λX=>X∈o8 n d J) a b):EdgeOf n (λX=>X∈o8 n d c) a b:=by have S:=e.aa2 ho;have m:=xK S (S.aa1.mpr h);exact⟨kQ hs ho dc hc e m.1,kQ hs ho dc hc e m.2,h.ne,λX f=>h.left X (jq hs ho dc hc f),λX f=>h.btw X (jq hs ho dc hc f)⟩
omit hs ho dc hc in
theorem qG {R:V->Prop}{E:List (V×V)}(g:∀a b,R a->(a,b)∈E->R b):∀(x:V) (l:List V),R x->(∀e∈k9 (x::l),e∈E)->∀X∈x::l,R X
 |x,[],f,_,X,d=>by rw[aAX.mp d];exact f
 |x,y::l,f,h,X,d=>by
  have i:=g x y f (h (x,y) (by simp[k9]));rcases aAd.mp d with rfl|d
  .exact f
  .exact qG g y l i (λe j=>h e (by simp only[k9,aAd];exact .inr j)) X d
theorem DM (i:IsFace J n d)(h:X∈l6 n (o8 n d c)):X∈l6 n (o8 n d J):=by
 have S:=i.aa2 ho;have o:=(mE hs ho dc hc i).aa2 dc;obtain⟨m,r,e,t,u⟩:=o.ab5;obtain⟨g,H,p,v,w⟩:=S.ab5;have x:m=g:=by
  have y:g∈o8 n d c:=kQ hs ho dc hc i (show g∈l6 n (o8 n d J)by rw[p];simp);rcases u g y with q|q
  .exact q.symm
  .rcases w m (jq hs ho dc hc t)with j|j
   .exact j
   .exact absurd (A4.add q j) (by
     have:(g-m)+(m-g)=0:=by apply ext<;>simp<;>lia
     rw[this];exactλz=>by simp[i3]at z)
 have step:∀a b,a∈l6 n (o8 n d J)->(a,b)∈B8 (l6 n<|o8 n d c)->b∈l6 n (o8 n d J):=λa b A k=>by obtain⟨I,s⟩:=bW S A;have B:=o.aa1.mp k;have C:=vJ hs ho dc hc i (S.aa1.mp s);rw[B.next C];exact(xK S s).2
 rw[e]at h;refine qG (E:=B8 (l6 n<|o8 n d c)) (R:=λX=>X∈l6 n (o8 n d J)) step m r (by rw[x,p];simp) (λf l=>?_) X h;rw[e,W4];exact bG r m m f l
theorem AJ (f:IsFace J n d)(h:EdgeOf n (λX=>X∈o8 n d c) a b):EdgeOf n (λX=>X∈o8 n d J) a b:=by have S:=f.aa2 ho;have g:=(mE hs ho dc hc f).aa2 dc;have i:=DM hs ho dc hc f (g.ac4 h);obtain⟨k,j⟩:=bW S i;have e:=S.aa1.mp j;rw[h.next (vJ hs ho dc hc f e)];exact e
theorem HR (j:IsFace J n d):j4 c:=by
 have S:=j.aa2 ho;obtain⟨r,s,t,l,e⟩:=C6 ho j;have I:r∈l6 n (o8 n d J):=by rw[e];simp
 have y:t∈l6 n (o8 n d J):=by rw[e];simp
 have o:=S.aa3;rw[e]at o;simp only[aAI,aAd,not_or]at o;have i:EdgeOf n (λX=>X∈o8 n d J) r s:=S.aa1.mp (by rw[e];simp[B8]);have st:=S.strict i y (λq=>o.1.2.1 q.symm) (λq=>o.2.1.1 q.symm);obtain⟨p,L⟩:=iO hs ho j i;generalize(b7 s r J).1=m at*
 generalize(b7 s r J).2=f at*
 have T:=p.aa2 ho;obtain⟨a,b,N,l2,x⟩:=C6 ho p;have g:=T.aa3;rw[x]at g;simp only[aAI,aAd,not_or]at g;obtain⟨Y,A,Q,U⟩:∃Y∈l6 m (o8 m f J),Y≠s/\Y≠r:=by
  have q1:a∈l6 m (o8 m f J):=by rw[x];simp
  have q2:b∈l6 m (o8 m f J):=by rw[x];simp
  have q3:N∈l6 m (o8 m f J):=by rw[x];simp
  by_cases B:a≠s/\a≠r
  .exact⟨a,q1,B⟩
  .by_cases C:b≠s/\b≠r
   .exact⟨b,q2,C⟩
   .refine⟨N,q3,λz=>?_,λz=>?_⟩
    .subst z;have E:a=r:=by
      by_cases h:a=r
      .exact h
      .exact absurd ⟨g.1.2.1,h⟩ B
     have H:b=r:=by
      by_cases h:b=r
      .exact h
      .exact absurd ⟨g.2.1.1,h⟩ C
     exact g.1.1 (E.trans H.symm)
    .subst z;have E:a=s:=by
      by_cases h:a=s
      .exact h
      .exact absurd ⟨h,g.1.2.1⟩ B
     have H:b=s:=by
      by_cases h:b=s
      .exact h
      .exact absurd ⟨h,g.2.1.1⟩ C
     exact g.1.1 (E.trans H.symm)
 have sY:=T.strict L A Q U;have lt:=ML hs p j L i (T.aa4 A) sY;have k:=λ{X} (h:X∈l6 n (o8 n d J))=>kQ hs ho dc hc j (X:=X) h;have kY:=kQ hs ho dc hc p A;have O:s∈l6 n (o8 n d J):=by rw[e];simp
 have dr:=(d8.mp<|k I).2;have dss:=(d8.mp<|k O).2;have dt:=(d8.mp<|k y).2;refine⟨r,(d8.mp<|k I).1,s,(d8.mp<|k O).1,t,(d8.mp<|k y).1,Y,(d8.mp kY).1,λz=>?_⟩;have p1:d5 n (s-r)=0:=by rw[e9];lia
 have p2:d5 n (t-r)=0:=by rw[e9];lia
 have pY:d5 n (Y-r)<0:=by rw[e9];lia
 have id:i9 (s-r) (t-r) (Y-r)*d5 n n=i9 n (s-r) (t-r)*d5 n (Y-r)+d5 n (s-r)*(d5 n (t-r)*0)+(d5 n (s-r)*i9 n (t-r) (Y-r)+d5 n (t-r)*i9 n (Y-r) (s-r)):=by generalize s-r=u;generalize t-r=v;generalize Y-r=w;have:=NC n n u v w;simp[i9,d5]at this⊢;grind
 rw[z,p1,p2]at id;have:i9 n (s-r) (t-r)*d5 n (Y-r)<0:=aBs st pY
 lia
theorem UL (fs:List (V×Int))(k:fs≠[])(e:∀f,f∈fs↔IsFace J f.1 f.2):IsFace c n d↔IsFace J n d:=by
 refine⟨λh=>?_,mE hs ho dc hc⟩;obtain⟨o,g⟩:=aFg fs k;have p:=HR hs ho dc hc ((e o).mp g);have:=uE p dc fs k (λf i=>mE hs ho dc hc ((e f).mp i)) (λf i a b j=>?_) h
 .exact(e _).mp this
 .have l:=(e f).mp i;obtain⟨m,q⟩:=iO hs ho l (AJ hs ho dc hc l j);exact⟨b7 b a J,(e _).mpr m,vJ hs ho dc hc m q⟩
theorem MJ (b:X∈c):∃f:V×Int,IsFace c f.1 f.2/\X∈i4 c f:=by obtain⟨⟨n,d⟩,a,h⟩:=(hc X).mp b;have S:=a.aa2 ho;obtain⟨Q,e⟩:=bW S h;exact⟨(n,d),mE hs ho dc hc a,((mE hs ho dc hc a).aa2 dc).ac4 (vJ hs ho dc hc a<|S.aa1.mp e)⟩
end
def bq {Pos:V->Prop}(C:Cone Pos){n m p v q u:V}(g:n≠0)(r:d5 n p=0)(d:d5 n v=0)(f:d5 n q=0)(s:d5 n u=0)(B:Pos p)(i:Pos v)(j:Pos q)(E:Pos u)(H:0<d5 m p)(mv:d5 m v<0)(k:0<d5 m q)(mu:d5 m u<0)(t:0<=i9 n v p)(w:0<=i9 n q u):False:=by
 have id:∀{a b c:V},d5 n a=0->d5 n b=0->d5 n c=0->i9 n a b*d5 m c+i9 n b c*d5 m a+i9 n c a*d5 m b=0:=λ{a b c} I J L=>by have:=NC m n a b c;rw[A2 g I J L,Int.zero_mul]at this;exact this
 have N:=id d r f;have O:=id f s d;rcases aDv 0 (i9 n q v)with h|h
 .
  have l:=C.tr j i B (A2 g f d r) h t;have o:i9 n p q=-i9 n q p:=l3 n q p;rw[o]at N;have Q:0<=i9 n v p*d5 m q:=aBR t (aAT k);have T:0< -i9 n q p*d5 m v:=by have:=aAG l (show 0< -d5 m v by lia);grind
  have U:0<i9 n q v*d5 m p:=aAG h H
  lia
 .rcases aDv (i9 n q v) 0 with h'|h'
  .have e0:i9 n v q=-i9 n q v:=l3 n q v;have A:0<i9 n v q:=by lia
   have l:=C.tr i j E (A2 g d f s) A w;have o:i9 n u v=-i9 n v u:=l3 n v u;rw[o]at O;have Q:i9 n q u*d5 m v<=0:=by have:=aBR w (show 0<=-d5 m v by lia);grind
   have T:-i9 n v u*d5 m q<0:=by have:=aAG l k;grind
   have U:i9 n v q*d5 m u<0:=by have:=aAG A (show 0< -d5 m u by lia);grind
   lia
  .have z:i9 n q v=0:=by lia
   have c0:=W8 g f d z;have e:d5 m q*v+(-d5 m v)*q=0:=by have Y:=kb V.x c0;have hy:=kb V.y c0;have hz:=kb V.z c0;simp at Y hy hz;apply ext<;>simp[d5]<;>grind
   have:=C.add (C.mul k i) (C.mul (show 0< -d5 m v by lia) j);rw[e]at this;exact C.irr this
section
variable{n:V} {ts:List V} (S:Sheet n ts)
include S
theorem Sheet.ac8 (h:X∈y3 n ts\/X∈y3 n ts.reverse):X∈l6 n ts:=by
 obtain⟨m,M,c,d,j,k,f,l,o,b,e,g,i,p,q⟩:=S.ends;unfold l6;rw[aAL,b,e,aAJ,aAJ,aBt,aBt,aCB,aCB];rw[b,e]at h;have a:m≠M:=λz=>by subst z;exact K1 f
 rcases h with h|h
 .rcases aAd.mp h with rfl|h
  .right;have:=aCX i;rcases aAd.mp this with z|z
   .exact absurd z.symm a
   .exact z
  .exact .inl h
 .rcases aAd.mp h with rfl|h
  .left;have:=aCX g;rcases aAd.mp this with z|z
   .exact absurd z a
   .exact z
  .exact .inr h
theorem Sheet.top (d:X∈ts)(h:∀Y∈ts,Y≠X->d5 m Y<d5 m X):X∈l6 n ts:=by
 obtain⟨s,n1,t1⟩:=S.ab0;obtain⟨t,n2,t2⟩:=S.ab1;have w:∀u,i3 u->i3 (-u)->False:=λu x y=>by have:=A4.add x y;have A:u+-u=0:=ext (by simp;lia) (by simp;lia) (by simp;lia);rw[A]at this;exact A4.irr this
 have B:∀u,O5 u->O5 (-u)->False:=λu x y=>by have:=aV.add x y;have A:u+-u=0:=ext (by simp;lia) (by simp;lia) (by simp;lia);rw[A]at this;exact aV.irr this
 rcases pH X (y3 n ts) (λY _=>R5 X Y) (λq C=>t1 X q C d) (λz E=>s.last X d z E) n1 w with H|⟨a,b,j,O,Q⟩
 .exact S.ac8 (.inl H)
 .rcases pH X (y3 n ts.reverse) (λY _=>by
    rcases R5 X Y with z|z|z
    .exact .inl z
    .exact .inr (.inr (t8.mpr z))
    .exact .inr (.inl (t8.mpr z))) (λq C=>t2 X q C d) (λz E=>t.last X d z E) n2 B with H|⟨k,r,f,I,ji⟩
  .exact S.ac8 (.inr H)
  .exfalso;have T:=M6 S j;have U:=M6 S f;have J:=s.mem _ T.1;have L:=s.mem _ T.2;have g:=t.mem _ U.1;have i:=t.mem _ U.2;have E1:=(S.ae0 j J L).1.left X d;have E2:=(S.ad8 f g i).1.left X d;have l:=t8.mp I;have xl:=t8.mp ji;have ne:∀{Y},i3 (X-Y)->Y≠X:=λN z=>by subst z;exact K1 N
   have o:∀{Y},i3 (Y-X)->Y≠X:=λN z=>by subst z;exact K1 N
   have va:=h a J (ne O);have vb:=h b L (o Q);have va':=h k g (o l);have vb':=h r i (ne xl);refine bq A4 (n:=n) (m:=m) (p:=X-a) (v:=b-X) (q:=X-r) (u:=k-X) S.nz (S.pl _ d _ J) (S.pl _ L _ d) (S.pl _ d _ i) (S.pl _ g _ d) O Q xl l (by rw[e9];lia) (by rw[e9];lia) (by rw[e9];lia) (by rw[e9];lia) ?_ ?_
   .have e:i9 n (b-a) (X-a)=i9 n (b-X) (X-a):=by simp[i9,d5];grind
    rw[<-e];exact E1
   .have e:i9 n (r-k) (X-k)=i9 n (X-r) (k-X):=by simp[i9,d5];grind
    rw[<-e];exact E2
end
section
variable{J:List V} (hs:j4 J)
include hs
theorem kX (a:IsFace J n d)(b:IsFace J m e)(i:d5 n X=d)(j:d5 m X=e)(h:cr m n=0):(n,d)=(m,e):=by
 obtain⟨k,l,f,g⟩:=B7 b.prim.ne h;obtain⟨Z,o,t⟩:=hs.below a.prim.ne a.sup;have p:0<l:=by
  have q:=kb (λv=>d5 v (Z-X)) g;rw[K4,K4]at q;have r:d5 n (Z-X)<0:=by rw[e9];lia
  have u:d5 m (Z-X)<=0:=by rw[e9];have:=b.sup Z o;lia
  have w:k*d5 n (Z-X)<0:=aBs f r;by_cases z:0<l
  .exact z
  .exfalso;have:0<=l*d5 m (Z-X):=by
    have:=aBR (show 0<=-l by lia) (show 0<=-d5 m (Z-X)by lia)
    rwa [aDu]at this
   lia
 have s:=oP a.prim b.prim f p g;subst s;rw[<-i,<-j]
theorem DY {a b c:Int}(j:IsFace J n d)(l:IsFace J m e)(o:IsFace J k f)(hX:d5 n X=d)(nu:d5 m X=e)(p:d5 k X=f)(hc:0<c)(r:0<a)(s:0<b)(h:c*k=a*n+b*m)(t:cr n m≠0):False:=by
 obtain⟨A,u,B,w,C,x,y,E,H,g⟩:=o.three;have on:∀Y∈J,d5 k Y=f->d5 n Y=d/\d5 m Y=e:=λY i hy=>by
  have h1:=j.sup Y i;have h2:=l.sup Y i;have q:=kb (λv=>d5 v (Y-X)) h;have q:c*d5 k (Y-X)=a*d5 n (Y-X)+b*d5 m (Y-X):=by
   have I:d5 (c*k) (Y-X)=c*d5 k (Y-X):=K4 ..;have L:d5 (a*n+b*m) (Y-X)=a*d5 n (Y-X)+b*d5 m (Y-X):=by simp[d5];grind
   rw[<-I,<-L];exact q
  have N:d5 k (Y-X)=0:=by rw[e9];lia
  rw[N,aEp]at q;have O:d5 n (Y-X)<=0:=by rw[e9];lia
  have Q:d5 m (Y-X)<=0:=by rw[e9];lia
  have a0:a*d5 n (Y-X)<=0:=aDV (aAT r) O;have b0:b*d5 m (Y-X)<=0:=aDV (aAT s) Q;have T:a*d5 n (Y-X)=0:=by lia
  have U:b*d5 m (Y-X)=0:=by lia
  have y1:d5 n (Y-X)=0:=by rcases aAy.mp T with z|z;lia;exact z
  have y2:d5 m (Y-X)=0:=by rcases aAy.mp U with z|z;lia;exact z
  rw[e9]at y1 y2;exact⟨by lia,by lia⟩
 obtain⟨a1,a2⟩:=on A u y;obtain⟨b1,b2⟩:=on B w E;obtain⟨c1,c2⟩:=on C x H;have p1:cr n (cr (B-A)<|C-A)=0:=K6 (by rw[e9];lia) (by rw[e9];lia);have p2:cr m (cr (B-A)<|C-A)=0:=K6 (by rw[e9];lia) (by rw[e9];lia);exact t (pE g p1 p2)
theorem KH (o:IsFace J n d)(p:IsFace J m e)(i:IsFace J k f)(B:d5 n X=d)(C:d5 m X=e)(E:d5 k X=f)(n12:(n,d)≠(m,e))(n13:(n,d)≠(k,f))(n23:(m,e)≠(k,f)):i9 n m k≠0:=λz=>by
 have H:cr n m≠0:=λq=>n12 (kX hs p o C B q).symm;have I:cr n k≠0:=λq=>n13 (kX hs i o E B q).symm;have L:cr m k≠0:=λq=>n23 (kX hs i p E C q).symm;have j:∀{u v:V},cr u v≠0->cr v u≠0:=λ{u v} h q=>h (by have N:=kb V.x q;have g:=kb V.y q;have A:=kb V.z q;simp at N g A;apply ext<;>simp<;>grind)
 obtain⟨w,ew⟩:∃w,w=cr n m:=⟨_,rfl⟩;have r:=DC w n m k;rw[z]at r;have O:0<i9 w n m:=by
  have:i9 w n m=d5 w w:=by rw[ew];rfl
  rw[this,ew];exact x8 H
 obtain⟨c,ec⟩:∃c,c=i9 w n m:=⟨_,rfl⟩;obtain⟨a,ea⟩:∃a,a=-i9 w m k:=⟨_,rfl⟩;obtain⟨b,eb⟩:∃b,b=-i9 w k n:=⟨_,rfl⟩;have T:c*k=a*n+b*m:=by rw[ec,ea,eb];have N:=kb V.x r;have g:=kb V.y r;have A:=kb V.z r;simp at N g A;apply ext<;>simp<;>lia
 rw[<-ec]at O;have U:=kb V.x T;have Y:=kb V.y T;have vz:=kb V.z T;simp at U Y vz;have l:∀{u v:V} {s t:Int},s≠0->s*u=t*v->cr u v=0:=λ{u v s t} jn h=>by
  have N:=kb V.x h;have g:=kb V.y h;have A:=kb V.z h;simp at N g A;have go:∀y:Int,s*y=0->y=0:=λy g=>by rcases aAy.mp g with q|q;exact absurd q jn;exact q
  apply ext<;>simp<;>apply go<;>grind
 rcases aDv 0 a with ha|ha
 .rcases aDv 0 b with Q|Q
  .exact DY hs o p i B C E O ha Q T H
  .rcases aDv b 0 with ji|ji
   .
    refine DY hs i p o E C B ha O (show 0< -b by lia) (c:=a) (a:=c) (b:=-b) ?_ (j L);apply ext<;>simp<;>lia
   .have b0:b=0:=by lia
    refine I (l (u:=n) (v:=k) (s:=a) (t:=c) (by lia) ?_);rw[b0]at U Y vz;apply ext<;>simp<;>lia
 .rcases aDv a 0 with ha'|ha'
  .rcases aDv 0 b with Q|Q
   .refine DY hs i o p E B C Q O (show 0< -a by lia) (c:=b) (a:=c) (b:=-a) ?_ (j I);apply ext<;>simp<;>lia
   .
    obtain⟨Z,hZ,A⟩:=hs.below i.prim.ne i.sup;have q:c*d5 k (Z-X)=a*d5 n (Z-X)+b*d5 m (Z-X):=by simp[d5];grind
    have k0:d5 k (Z-X)<0:=by rw[e9];lia
    have n0:d5 n (Z-X)<=0:=by rw[e9];have:=o.sup Z hZ;lia
    have m0:d5 m (Z-X)<=0:=by rw[e9];have:=p.sup Z hZ;lia
    have t1:c*d5 k (Z-X)<0:=aBs O k0;have t2:0<=a*d5 n (Z-X):=by
     have:=aBR (show 0<=-a by lia) (show 0<=-d5 n (Z-X)by lia)
     rwa [aDu]at this
    have t3:0<=b*d5 m (Z-X):=by
     have:=aBR (show 0<=-b by lia) (show 0<=-d5 m (Z-X)by lia)
     rwa [aDu]at this
    lia
  .have a0:a=0:=by lia
   by_cases b0:b=0
   .rw[a0,b0]at U Y vz;have k0:k=0:=by
     have go:∀y:Int,c*y=0->y=0:=λy g=>by rcases aAy.mp g with q|q;lia;exact q
     apply ext<;>simp<;>apply go<;>lia
    exact i.prim.ne k0
   .refine L (l (u:=m) (v:=k) (s:=b) (t:=c) b0 ?_);rw[a0]at U Y vz;apply ext<;>simp<;>lia
theorem pW (u:J.Pairwise (λa b=>i3 (b-a)))(v:X∈J)(g:IsFace J n d)(p:IsFace J m e)(r:IsFace J k f)(s:d5 n X=d)(w:d5 m X=e)(x:d5 k X=f)(h:(n,d)≠(m,e))(i:(n,d)≠(k,f))(j:(m,e)≠(k,f)):X∈i4 J (n,d):=by
 have l:=KH hs g p r s w x h i j;refine(g.aa2 u).top (m:=n+m+k) (d8.mpr ⟨v,s⟩) λY z A=>?_;have o:=(d8.mp z).1;have L:=g.sup Y o;have N:=p.sup Y o;have O:=r.sup Y o;have t:∀Z,d5 (n+m+k) Z=d5 n Z+d5 m Z+d5 k Z:=λZ=>by simp[d5];grind
 rw[t,t];rcases aDv (d5 n Y+d5 m Y+d5 k Y) (d5 n X+d5 m X+d5 k X)with q|q
 .exact q
 .exfalso;have B:d5 n (Y-X)=0:=by rw[e9];lia
  have C:d5 m (Y-X)=0:=by rw[e9];lia
  have E:d5 k (Y-X)=0:=by rw[e9];lia
  refine A (bX ?_);generalize Y-X=y at*
  have H:∀y:Int,i9 n m k*y=0->y=0:=λy I=>by rcases aAy.mp I with q|q;exact absurd q l;exact q
  simp[d5]at B C E;apply ext<;>simp<;>apply H<;>simp[i9,d5]<;>grind
end
def Up (J:List V)(A B C:V):Prop:=(∀X∈J,d5 (cr (B-A)<|C-A) (X-A)<=0)/\∃X∈J,d5 (cr (B-A)<|C-A) (X-A)<0
def Dn (J:List V)(A B C:V):Prop:=(∀X∈J,0<=d5 (cr (B-A)<|C-A) (X-A))/\∃X∈J,0<d5 (cr (B-A)<|C-A) (X-A)
def GW (A B C:V):cr (C-A) (B-A)=-cr (B-A) (C-A):=by apply ext<;>simp<;>grind
def ZO {J:List V}{A B C:V}:Dn J A B C↔Up J A C B:=by
 have e:∀X:V,d5 (cr (C-A)<|B-A) X=-d5 (cr (B-A)<|C-A) X:=λX=>by rw[GW];simp[d5];grind
 constructor
 .rintro⟨h,X,a,l⟩;exact⟨λY b=>by have:=h Y b;rw[e];lia,X,a,by rw[e];lia⟩
 .rintro⟨h,X,a,l⟩;exact⟨λY b=>by have:=h Y b;rw[e]at this;lia,X,a,by rw[e]at l;lia⟩
def UO {J:List V}{A B C:V}(b:A∈J)(d:B∈J)(e:C∈J)(h:Up J A B C):IsFace J (d9 A B C).1 (d9 A B C).2:=by
 obtain⟨f,X,n,a⟩:=h;have ne:cr (B-A) (C-A)≠0:=λz=>by rw[z]at a;simp[d5]at a
 obtain⟨g,i,j,k,l⟩:=W7 ne;have on:∀Y:V,d5 (cr (B-A)<|C-A) (Y-A)=g*(d5 (d9 A B C).1 Y-(d9 A B C).2):=λY=>by rw[l,j,K4,e9]
 have zero:∀Y:V,d5 (cr (B-A)<|C-A) (Y-A)=0->d5 (d9 A B C).1 Y=(d9 A B C).2:=λY h=>by rw[on]at h;rcases aAy.mp h with h|h<;>lia
 refine⟨k,λY m=>?_,A,b,B,d,C,e,zero A ?_,zero B ?_,zero C ?_,ne⟩
 .have:=f Y m;rw[on]at this;by_cases z:d5 (d9 A B C).1 Y<=(d9 A B C).2
  .exact z
  .have:=aAG i (show 0<d5 (d9 A B C).1 Y-(d9 A B C).2 by lia);lia
 .simp[d5]
 .simp[d5];grind
 .simp[d5];grind
def HG {J:List V}{n:V}{d:Int}(S:j4 J)(h:IsFace J n d){A B C:V}(U:A∈J)(a:d5 n A=d)(b:d5 n B=d)(c:d5 n C=d)(i:0<d5 n (cr (B-A) (C-A))):Up J A B C/\d9 A B C=(n,d):=by
 have e:cr (B-A) (C-A)≠0:=λz=>by rw[z]at i;simp[d5]at i
 obtain⟨g,j,r,t,u⟩:=W7 e;have p:cr n (cr (B-A)<|C-A)=0:=K6 (by rw[e9];lia) (by rw[e9];lia);obtain⟨k,l,s,m⟩:=B7 h.prim.ne p;have v:0<l:=by
  have q:=kb (d5 n) m;rw[v7,v7]at q;have:=aAG s i;have w:=x8 h.prim.ne;by_cases z:0<l
  .exact z
  .have:=aAU (show l<=0 by lia) (aAT w);simp at this;lia
 rw[r]at m;have x:(k*g)*(d9 A B C).1=l*n:=by rw[<-m];apply ext<;>simp<;>grind
 have o:=oP t h.prim (aAG s j) v x;have y:(d9 A B C).2=d:=by rw[u,o];exact a
 have on:∀Y:V,d5 (cr (B-A)<|C-A) (Y-A)=g*(d5 n Y-d):=λY=>by rw[<-a,r,o,K4,e9]
 refine⟨⟨λX f=>?_,?_⟩,aEY o y⟩
 .rw[on];have:=aBR (aAT j) (show 0<=d-d5 n X by have:=h.sup X f;lia);have E:g*(d-d5 n X)=-(g*(d5 n X-d)):=by grind
  lia
 .by_cases q:∃X∈J,d5 n X<d
  .obtain⟨X,f,l⟩:=q;refine⟨X,f,?_⟩;rw[on];have:=aAG j (show 0<d-d5 n X by lia);have E:g*(d-d5 n X)=-(g*(d5 n X-d)):=by grind
   lia
  .exfalso;have all:∀X∈J,d5 n X=d:=λX f=>by
    have:=h.sup X f;by_cases l:d5 n X<d
    .exact absurd ⟨X,f,l⟩ q
    .lia
   obtain⟨P,H,Q,I,R,L,T,N,O⟩:=S;have z:∀X∈J,d5 n (X-P)=0:=λX f=>by rw[e9,all X f,all P H];lia
   exact O (A2 h.prim.ne (z Q I) (z R L)<|z T N)
def CK {J:List V}{n:V}{d:Int}(S:j4 J)(h:IsFace J n d){A B C:V}(f:A∈J)(a:d5 n A=d)(b:d5 n B=d)(c:d5 n C=d)(e:cr (B-A) (C-A)≠0):(Up J A B C/\d9 A B C=(n,d))\/(Dn J A B C/\d9 A C B=(n,d)):=by
 by_cases z:0<d5 n (cr (B-A)<|C-A)
 .exact .inl (HG S h f a b c z)
 .have g:d5 n (cr (B-A)<|C-A)≠0:=λq=>e (W8 h.prim.ne (by rw[e9];lia) (by rw[e9];lia) q);have t:d5 n (cr (C-A)<|B-A)=-d5 n (cr (B-A)<|C-A):=by rw[GW];simp[d5];grind
  have:=HG S h f a c b (by lia);exact .inr ⟨ZO.mpr this.1,this.2⟩
def a3m (J:List V)(A B C:V):Prop:=∃i j k:Nat,i<j/\j<k/\J[i]?=some A/\J[j]?=some B/\J[k]?=some C
def VT {J:List V}{A B C:V}(E:A∈J)(H:B∈J)(I:C∈J)(e:cr (B-A) (C-A)≠0):∃r s t,a3m J r s t/\cr (s-r) (t-r)≠0/\∀p:V->Prop,p A->p B->p C->p r/\p s/\p t:=by
 obtain⟨i,g⟩:=aCa.mp E;obtain⟨j,f⟩:=aCa.mp H;obtain⟨k,d⟩:=aCa.mp I;have l:∀{v w:V},v≠0->(w=v\/w=-v)->w≠0:=λ{v w} u h z=>by
  rcases h with h|h
  .exact u (h▸z)
  .rw[h]at z;have L:=kb V.x z;have N:=kb V.y z;have O:=kb V.z z;simp only[ZD,ZA,ZE,aH,aI,aG]at L N O;exact u (ext (by simp only[aH];lia) (by simp only[aI];lia) (by simp only[aG];lia))
 have Q:i≠j:=λq=>by
  subst q;rw[g]at f;injection f with f;subst f
  exact e (by apply ext<;>simp)
 have T:i≠k:=λq=>by
  subst q;rw[g]at d;injection d with d;subst d
  exact e (by apply ext<;>simp)
 have U:j≠k:=λq=>by
  subst q;rw[f]at d;injection d with d;subst d
  exact e (by apply ext<;>simp<;>grind)
 rcases aEZ Q with m|m<;>rcases aEZ T with n|n<;>rcases aEZ U with o|o
 .exact⟨A,B,C,⟨i,j,k,m,o,g,f,d⟩,e,λp a b c=>⟨a,b,c⟩⟩
 .exact⟨A,C,B,⟨i,k,j,n,o,g,d,f⟩,l e (.inr (by apply ext<;>simp<;>grind)),λp a b c=>⟨a,c,b⟩⟩
 .omega
 .exact⟨C,A,B,⟨k,i,j,n,m,d,g,f⟩,l e (.inl (by apply ext<;>simp<;>grind)),λp a b c=>⟨c,a,b⟩⟩
 .exact⟨B,A,C,⟨j,i,k,m,n,f,g,d⟩,l e (.inr (by apply ext<;>simp<;>grind)),λp a b c=>⟨b,a,c⟩⟩
 .omega
 .exact⟨B,C,A,⟨j,k,i,o,n,f,d,g⟩,l e (.inl (by apply ext<;>simp<;>grind)),λp a b c=>⟨b,c,a⟩⟩
 .exact⟨C,B,A,⟨k,j,i,o,m,d,f,g⟩,l e (.inr (by apply ext<;>simp<;>grind)),λp a b c=>⟨c,b,a⟩⟩
abbrev T3:=V×V×V
def tr (r:T3):T3:=(⟨r.1.x,r.2.1.x,r.2.2.x⟩,⟨r.1.y,r.2.1.y,r.2.2.y⟩,⟨r.1.z,r.2.1.z,r.2.2.z⟩)
def a4a:T3:=(⟨1,0,0⟩,⟨0,1,0⟩,⟨0,0,1⟩)
def a5b (r:T3):tr (tr r)=r:=rfl
abbrev Mv:=T3×V
def ZH:Mv:=(a4a,0)
section
variable{J qts:List V} {m:Mv} {n:V} {d:Int}
end
section
end
section
variable{J qts:List V} {n:V} {d:Int}
end
structure Sl where
 a:Int
 b:Int
 c:Int
 w:V
 t:Bool
def Sl.put (s:Sl)(P:V):V:=
 let x:=P.x+s.a*P.y
 let y:=P.y+s.b*P.z
 let z:=P.z+s.c*x
 if s.t then⟨y+s.w.x,x+s.w.y,z+s.w.z⟩else⟨x+s.w.x,y+s.w.y,z+s.w.z⟩
def Sl.mv (s:Sl):Mv:=
 let d:V:=⟨1,s.a,0⟩
 let e:V:=⟨0,1,s.b⟩
 let f:V:=⟨s.c,s.c*s.a,1⟩
 (if s.t then(e,d,f)else(d,e,f),s.w)
def tM {n m k y:V}(a:i9 n m k≠0)(d:d5 n y=0)(g:d5 m y=0)(h:d5 k y=0):y=0:=by
 have i:∀t:Int,i9 n m k*t=0->t=0:=λt j=>by
  rcases aAy.mp j with q|q
  .exact absurd q a
  .exact q
 have e:∀f:V->Int,(f=(·.x)\/f=(·.y)\/f=(·.z))->i9 n m k*f y=d5 n y*f (cr m k)+d5 m y*f (cr k n)+d5 k y*f (cr n m):=λf b=>by rcases b with rfl|rfl|rfl<;>simp[i9,d5,cr]<;>grind
 have z:∀f:V->Int,(f=(·.x)\/f=(·.y)\/f=(·.z))->f y=0:=λf b=>i _ (by rw[e f b,d,g,h];simp);exact ext (z _<|.inl rfl) (z _<|.inr (.inl rfl)) (z _<|.inr (.inr rfl))
section
variable{J:List V} (hs:j4 J) (ho:J.Pairwise (λa b=>i3 (b-a)))
include hs ho
end
section
variable{J:List V} (hs:j4 J) (ho:J.Pairwise (λa b=>i3 (b-a)))
include hs ho
end
section
variable{J qts:List V} {n:V} {d:Int} {m:Mv}
end
section
variable{p o:List V} (hs:j4 o) (ho:o.Pairwise (λa b=>i3 (b-a))) (sub:∀X∈p,X∈o) (ex:∀Y∈o,Y∈p\/∃a∈p,∃b∈p,(2:Int)*Y=a+b)
include hs ho sub ex
end
section
variable{J c:List V} (hs:j4 J) (ho:J.Pairwise (λa b=>i3 (b-a))) (dc:c.Pairwise (λa b=>i3 (b-a))) (hc:∀X,X∈c↔∃f:V×Int,IsFace J f.1 f.2/\X∈i4 J f)
include hs ho dc hc
end
section
variable{J:List V} (hs:j4 J) (ho:J.Pairwise (λa b=>i3 (b-a)))
include hs ho
end
section
variable{J:List V} (hs:j4 J)
include hs
end
section
variable{J:List V} (hs:j4 J) (ho:J.Pairwise (λa b=>i3 (b-a)))
include hs ho
end
section
variable{J:List V} (hs:j4 J) (ho:J.Pairwise (λa b=>i3 (b-a)))
include hs ho
end
section
open Classical
structure Hgt (w:V)(J:List V):Prop where
 ne:w≠0
 inj:∀X∈J,∀Y∈J,X≠Y->d5 w (X-Y)≠0
section
variable{J:List V} {w:V} (hs:j4 J) (ho:J.Pairwise (λa b=>i3 (b-a))) (hw:Hgt w J)
include hs ho hw
omit hs ho hw in
omit hs ho hw in
omit hs ho hw in
end
end
section
open Classical
variable{J:List V} (hs:j4 J) (ho:J.Pairwise (λa b=>i3 (b-a)))
include hs ho
end
section
open Classical
variable{J:List V} (hs:j4 J) (ho:J.Pairwise (λa b=>i3 (b-a))) {fs:List (V×Int)} (hfs:∀f,f∈fs↔IsFace J f.1 f.2)
include hs ho hfs
theorem zF {P Q:V}:(P,Q)∈gO J fs↔∃f:V×Int,IsFace J f.1 f.2/\EdgeOf f.1 (λX=>X∈o8 f.1 f.2 J) P Q:=by
 unfold gO;rw[aBf];constructor
 .rintro⟨f,a,h⟩;exact⟨f,(hfs f).mp a,(((hfs f).mp a).aa2 ho).aa1.mp h⟩
 .rintro⟨f,a,h⟩;exact⟨f,(hfs f).mpr a,(a.aa2 ho).aa1.mpr h⟩
theorem uP {P Q:V}(h:(P,Q)∈gO J fs):(Q,P)∈gO J fs:=by obtain⟨f,a,e⟩:=(zF hs ho hfs).mp h;obtain⟨b,d⟩:=iO hs ho a e;exact(zF hs ho hfs).mpr ⟨_,b,d⟩
end
def kO:List V->V
 |[]=>0
 |a::l=>a+kO l
def XJ (l m:List V):kO (l++m)=kO l+kO m:=by
 induction l with
 |nil=>apply ext<;>simp[kO]
 |cons a l b=>rw[aAD,kO,kO,b];apply ext<;>simp<;>lia
def AK {l m:List V}(h:l.Perm m):kO l=kO m:=by
 induction h with
 |nil=>rfl
 |cons a _ d=>rw[kO,kO,d]
 |swap a b l=>simp only[kO];apply ext<;>simp<;>lia
 |trans _ _ e f=>exact e.trans f
def ar (o:V)(l:List (V×V)):V:=kO (l.map λe=>cr (e.1-o) (e.2-o))
def N3 (o:V)(e:V×V)(l:List (V×V)):ar o (e::l)=cr (e.1-o) (e.2-o)+ar o l:=rfl
def SS (o:V)(l m:List (V×V)):ar o (l++m)=ar o l+ar o m:=by unfold ar;rw[aBw,XJ]
def HS {o:V}{l m:List (V×V)}(h:l.Perm m):ar o l=ar o m:=AK (h.map _)
def gj (o:V)(l:List (V×V)):ar o l=ar 0 l+(kO (l.map λe=>cr o e.1)-kO (l.map λe=>cr o e.2)):=by
 induction l with
 |nil=>apply ext<;>simp[ar,kO]
 |cons e l a=>rw[N3,N3,a];simp only[aAn,kO];apply ext<;>simp<;>grind
def wK (l:List V):(B8 l).map (·.1)=l:=by
 unfold B8;rw[aFw];match l with
 |[]=>simp
 |a::r=>simp
def HH (l:List V):((B8 l).map (·.2)).Perm l:=by
 unfold B8;match l with
 |[]=>exact List.Perm.refl _
 |a::r=>rw[List.map_snd_zip (by simp)];simp only[List.tail_cons,List.take_succ_cons,List.take_zero];exact List.perm_append_singleton a r
def FH (o:V)(l:List V):ar o (B8 l)=ar 0 (B8 l):=by
 have a:(B8 l).map (λe=>cr o e.1)=((B8 l).map (·.1)).map (cr o):=by rw[aAV];rfl
 have b:(B8 l).map (λe=>cr o e.2)=((B8 l).map (·.2)).map (cr o):=by rw[aAV];rfl
 rw[gj,a,b,wK,AK ((HH l).map (cr o))];apply ext<;>simp
def RZ (a:V)(r:List V):ar a (B8 (a::r))=ar a (k9 r):=by
 match r with
 |[]=>simp[B8,k9,ar,kO];apply ext<;>simp
 |b::r=>
  have e:B8 (a::b::r)=k9 (a::b::r++[a]):=by rw[<-bU];rfl
  have d:k9 (a::b::r++[a])=(a,b)::k9 (b::r++[a]):=rfl;have g:∀(x:V) (l:List V),ar a (k9 (x::l++[a]))=ar a (k9 (x::l)):=λx l=>by
   induction l generalizing x with
   |nil=>simp[k9,ar,kO];apply ext<;>simp
   |cons y l f=>show ar a ((x,y)::k9 (y::l++[a]))=ar a ((x,y)::k9 (y::l));rw[N3,N3,f]
  rw[e,d,N3,g];apply ext<;>simp
def WN {α:Type}(o:V)(f:α->List (V×V))(l:List α):ar o (l.flatMap f)=kO (l.map λx=>ar o (f x)):=by
 induction l with
 |nil=>rfl
 |cons a l b=>rw[aDB,SS,b];rfl
def IC (w:V)(l:List V):d5 (kO l) w=(l.map λv=>d5 v w).sum:=by
 induction l with
 |nil=>simp[kO,d5]
 |cons a l b=>rw[aAn,aCE,<-b,kO];simp[d5];grind
def NL {n u v:V}(a:d5 n u=0)(b:d5 n v=0)(w:V):d5 n n*d5 (cr u v) w=d5 n (cr u v)*d5 n w:=by
 have z:=K6 a b;have e:d5 n n*d5 (cr u v) w-d5 n (cr u v)*d5 n w=d5 (cr n<|cr u v) (cr n w):=by simp[d5];grind
 rw[z]at e;have:d5 (0:V) (cr n w)=0:=by simp[d5]
 lia
section
variable{n:V} {d:Int} {l:List (V×V)} {a:V}
def MW (m:d5 n a=d)(b:∀e∈l,d5 n e.1=d/\d5 n e.2=d)(w:V):d5 n n*d5 (ar a l) w=d5 n (ar a l)*d5 n w:=by
 induction l with
 |nil=>simp[ar,kO,d5]
 |cons e l f=>
  have h:=b e (.head _);have i:=f λe g=>b e (.tail _ g);have c:=NL (n:=n) (u:=e.1-a) (v:=e.2-a) (by rw[e9];lia) (by rw[e9];lia) w;rw[N3];have j:∀x y:V,d5 (x+y) w=d5 x w+d5 y w:=λx y=>by simp[d5];grind
  have k:∀x y:V,d5 n (x+y)=d5 n x+d5 n y:=λx y=>by simp[d5];grind
  rw[j,k];grind
end
section
open Classical
variable{J:List V} (hs:j4 J) (ho:J.Pairwise (λa b=>i3 (b-a)))
include hs ho
theorem WS {f:V×Int}(o:IsFace J f.1 f.2):0<d5 f.1 (ar 0 (B8 (i4 J f)))/\∀w,d5 f.1 f.1*d5 (ar 0 (B8 (i4 J f))) w=d5 f.1 (ar 0 (B8 (i4 J f)))*d5 f.1 w:=by
 have S:=o.aa2 ho;obtain⟨a,b,c,r,e⟩:=C6 ho o;have e:i4 J f=a::b::c::r:=e;have on:∀X∈i4 J f,d5 f.1 X=f.2:=λX k=>(d8.mp<|S.aa4 k).2;have s:(i4 J f).Nodup:=S.aa3;have u:∀p∈B8 (i4 J f),EdgeOf f.1 (λX=>X∈o8 f.1 f.2 J) p.1 p.2:=λp d=>S.pair d;have g:∀p∈B8 (i4 J f),p.1∈i4 J f/\p.2∈i4 J f:=λp d=>by
  constructor
  .rw[<-wK (i4 J f)];exact aCp d
  .exact(HH<|i4 J f).mem_iff.mp (aCp d)
 rw[<-FH a];refine⟨?_,MW (on a (by rw[e];exact .head _)) λp d=>⟨on _ (g p d).1,on _ (g p d).2⟩⟩;rw[e,RZ];rw[e]at s;have t:∀X∈b::c::r,a≠X:=λX k z=>(aAI.mp s).1 (z▸k);have sub:∀p∈k9 (b::c::r),p∈B8 (i4 J f):=λp d=>by
  have v:B8 (a::b::c::r)=k9 (a::b::c::r++[a]):=by rw[<-bU];rfl
  rw[e,v];exact bG _ _ _ _ (aAe _ d)
 have A:∀(x:V) (l:List V) (p:V×V),p∈k9 (x::l)->p.1∈x::l/\p.2∈x::l:=λx l=>by
  induction l generalizing x with
  |nil=>intro p d;cases d
  |cons y l j=>
   intro p d;rcases aAd.mp d with rfl|d
   .exact⟨.head _,.tail _ (.head _)⟩
   .exact⟨.tail _ (j y p d).1,.tail _ (j y p d).2⟩
 have i:∀p∈k9 (b::c::r),0<d5 f.1 (cr (p.1-a)<|p.2-a):=λp d=>by
  have m:=A b (c::r) p d;have:=S.strict (u p<|sub p d) (X:=a) (by show a∈i4 J f;rw[e];exact .head _) (t _ m.1) (t _ m.2);have q:i9 f.1 (p.2-p.1) (a-p.1)=d5 f.1 (cr (p.1-a)<|p.2-a):=by simp[i9,d5];grind
  lia
 have all:∀l:List (V×V),(∀p∈l,0<d5 f.1 (cr (p.1-a)<|p.2-a))->0<=d5 f.1 (ar a l):=λl=>by
  induction l with
  |nil=>intro _;simp[ar,kO,d5]
  |cons p l j=>
   intro h;have n:=h p (.head _);have B:=j λq C=>h q (.tail _ C);rw[N3,show∀x y:V,d5 f.1 (x+y)=d5 f.1 x+d5 f.1 y fromλx y=>by simp[d5];grind]
   lia
 have n:=i (b,c) (.head _);have B:=all (k9 (c::r)) λp d=>i p (.tail _ d);show 0<d5 f.1 (ar a ((b,c)::k9 (c::r)));rw[N3,show∀x y:V,d5 f.1 (x+y)=d5 f.1 x+d5 f.1 y fromλx y=>by simp[d5];grind];show 0<d5 f.1 (cr (b-a)<|c-a)+_;have n:0<d5 f.1 (cr (b-a)<|c-a):=n
 lia
theorem bC {f:V×Int}(b:IsFace J f.1 f.2){P:V}(d:d5 f.1 P=f.2)(w:V):(d5 f.1 w<=f.2->0<=-d5 (ar 0 (B8 (i4 J f))) (w-P))/\(d5 f.1 w<f.2->0< -d5 (ar 0 (B8 (i4 J f))) (w-P))/\(d5 f.1 w=f.2->d5 (ar 0 (B8 (i4 J f))) (w-P)=0):=by
 obtain⟨e,a⟩:=WS hs ho b;have a:=a (w-P);rw[show d5 f.1 (w-P)=d5 f.1 w-f.2 by rw[e9,d]]at a;have g:=x8 b.prim.ne;generalize d5 (ar 0<|B8<|i4 J f) (w-P)=x at*
 generalize d5 f.1 (ar 0<|B8<|i4 J f)=k at*
 generalize d5 f.1 f.1=m at*
 refine⟨λh=>?_,λh=>?_,λh=>?_⟩
 .by_cases z:0<=-x
  .exact z
  .have:=aAG g (show 0<x by lia);have:=aBR (show 0<=k by lia) (show 0<=f.2-d5 f.1 w by lia);grind
 .by_cases z:0< -x
  .exact z
  .have:=aBR (show 0<=m by lia) (show 0<=x by lia);have:=aAG e (show 0<f.2-d5 f.1 w by lia);grind
 .have:m*x=0:=by rw[a,h];grind
  rcases aAy.mp this with z|z
  .lia
  .exact z
variable{fs:List (V×Int)} (hfs:∀f,f∈fs↔IsFace J f.1 f.2)
include hfs
theorem EU (i:fs.Nodup):kO (fs.map λf=>ar 0 (B8 (i4 J f)))=0:=by
 rw[<-WN 0 (λf:V×Int=>B8 (i4 J f))];have e:fs.flatMap (λf=>B8 (i4 J f))=gO J fs:=rfl;rw[e];have g:(gO J fs).Nodup:=iL hs ho i λf j=>(hfs f).mp j;have k:((gO J fs).map λp=>(p.2,p.1)).Nodup:=aBm.mpr (g.imp λ{a b} n q=>n (by injection q with m r;exact aEY r m));have s:(gO J fs).Perm ((gO J fs).map λp=>(p.2,p.1)):=(aBO g k).mpr λp=>by
  rw[aAk];constructor
  .intro h;exact⟨(p.2,p.1),uP hs ho hfs (P:=p.1) (Q:=p.2) h,rfl⟩
  .rintro⟨q,h,rfl⟩;exact uP hs ho hfs (P:=q.1) (Q:=q.2) h
 have d:∀l:List (V×V),ar 0 (l.map λp=>(p.2,p.1))=-ar 0 l:=λl=>by
  induction l with
  |nil=>apply ext<;>simp[ar,kO]
  |cons p l t=>rw[aAn,N3,N3,t];apply ext<;>simp<;>grind
 have:=HS (o:=0) s;rw[d]at this;have x:=kb V.x this;have y:=kb V.y this;have z:=kb V.z this;simp at x y z;exact ext (by simp;lia) (by simp;lia) (by simp;lia)
end
end G
namespace ST
open PySem PySem.SetTable
def KP (Y:Array Nat):Prop:=∀(i k:Nat) (a:i<Y.size) (b:k<Y.size),i<k->Y[i]<Y[k]
theorem wP (Y:Array Nat)(j:Nat)(d:KP Y):∀(a lo b:Nat),lo<=b->b<=Y.size->b-lo<=a->(∀i (h:i<Y.size),i<lo->Y[i]<j)->(∀i (h:i<Y.size),b<=i->j<=Y[i])->
  below.go Y j a lo b<=Y.size/\(∀i (h:i<Y.size),i<below.go Y j a lo b->Y[i]<j)/\(∀i (h:i<Y.size),below.go Y j a lo b<=i->j<=Y[i])
 |0,lo,b,o,f,p,g,k=>by
  have:lo=b:=by lia
  subst this;unfold below.go;exact⟨f,g,k⟩
 |a+1,lo,b,o,f,p,g,k=>by
  unfold below.go;by_cases n:lo<b
  .rw[jk n];have m:(lo+b)/2<Y.size:=by lia
   have e:Y.getD ((lo+b)/2) j=Y[(lo+b)/2]:=by simp[aFm,m]
   dsimp only;rw[e];by_cases l:Y[(lo+b)/2]<j
   .rw[jk l];refine wP Y j d a _ _ (by lia) f (by lia) (λi h r=>?_) k;by_cases q:i=(lo+b)/2
    .subst q;exact l
    .exact aGE (d i _ h m (by lia)) l
   .rw[ka l];refine wP Y j d a _ _ (by lia) (by lia) (by lia) g (λi h r=>?_);by_cases q:i=(lo+b)/2
    .subst q;lia
    .have:=d _ i m h (by lia);lia
  .rw[ka n];have:lo=b:=by lia
   subst this;exact⟨f,g,k⟩
def bV (a:KP Y)(j:Nat):below Y j<=Y.size/\(∀i (h:i<Y.size),i<below Y j->Y[i]<j)/\(∀i (h:i<Y.size),below Y j<=i->j<=Y[i]):=
 wP Y j a Y.size 0 Y.size (aAM _) (aAj _) (by lia) (λi h b=>by lia) (λi h b=>by lia)
def OC (a:KP Y)(h:Y[i]?=some j):below Y j=i:=by
 obtain⟨b,e⟩:=aCn.mp h;obtain⟨k,f,g⟩:=bV a j;rcases Nat.lt_trichotomy (below Y j) i with q|q|q
 .have d:below Y j<Y.size:=by lia
  have l:=g _ d (aAj _);have m:=a _ _ d b q
  lia
 .exact q
 .have:=f i b q;lia
structure Tab (t:SetTable):Prop where
 asc:KP t.place
 le:∀j∈t.place.toList,j<=t.mask
 nod:t.dummies=#[]
def M7 (T:Tab t)(h:t.place[i]?=some j):t.slot j=.live i:=by unfold slot;rw[OC T.asc h];dsimp only;rw[h];simp
def EN (T:Tab t)(h:j∉t.place.toList):t.slot j=.empty:=by
 unfold slot;have a:¬(t.place[below t.place j]?==some j)=true:=λz=>h (by have:=beq_iff_eq.mp z;obtain⟨b,e⟩:=aCn.mp this;rw[<-e];simp)
 dsimp only;rw[ka a,T.nod];rw[ka (by unfold has;simp)]
def DS (T:Tab t)(j:Nat):(t.slot j=.empty/\j∉t.place.toList)\/∃i,t.slot j=.live i/\t.place[i]?=some j:=by
 by_cases h:j∈t.place.toList
 .obtain⟨i,a,e⟩:=aBi h;have:t.place[i]?=some j:=by rw[<-aAB,aAg a,e]
  exact .inr ⟨i,M7 T this,this⟩
 .exact .inl ⟨EN T h,h⟩
def TW (mask:Nat)(p:Probe):Probe:=if p.more>0 then{p with j:=p.j+1,more:=p.more-1}else{p with j:=(leap mask p.i p.perturb).1,more:=runEnd mask (leap mask p.i p.perturb).1-(leap mask p.i p.perturb).1,i:=(leap mask p.i p.perturb).1,perturb:=(leap mask p.i p.perturb).2}
def qW (t:eQ)(p:Probe):t.advance p=TW t.mask p:=rfl
def start (mask:Nat)(h:Int):Probe:={j:=bits h%(mask+1),more:=runEnd mask (bits h%(mask+1))-bits h%(mask+1),i:=bits h%(mask+1),perturb:=bits h,dummy:=none}
def n9 (mask:Nat)(h:Int):Nat->Probe
 |0=>start mask h
 |n+1=>TW mask (n9 mask h n)
theorem qV (mask:Nat)(h:Int):∀n,(n9 mask h n).dummy=none
 |0=>rfl
 |n+1=>by have:=qV mask h n;show(TW mask _).dummy=none;unfold TW;split<;>exact this
def D8 (mask:Nat)(h:Int):Nat->Nat×Nat
 |0=>(bits h%(mask+1),bits h)
 |k+1=>leap mask (D8 mask h k).1 (D8 mask h k).2
def len (mask i:Nat):Nat:=runEnd mask i-i
def cj (mask i:Nat):len mask i<=9:=by unfold len runEnd;split<;>lia
def off (mask:Nat)(h:Int):Nat->Nat
 |0=>0
 |k+1=>off mask h k+len mask (D8 mask h k).1+1
theorem ND (mask:Nat)(h:Int):∀k,off mask h k<=10*k
 |0=>aAj _
 |k+1=>by have:=ND mask h k;have:=cj mask (D8 mask h k).1;show off mask h k+_+1<=_;lia
theorem X5 (mask:Nat)(h:Int):∀k r,r<=len mask (D8 mask h k).1->
  n9 mask h (off mask h k+r)={j:=(D8 mask h k).1+r,more:=len mask (D8 mask h k).1-r,i:=(D8 mask h k).1,perturb:=(D8 mask h k).2,dummy:=none}
 |0,0,_=>rfl
 |0,r+1,b=>by
  have a:=X5 mask h 0 r (by lia);have e:off mask h 0+(r+1)=(off mask h 0+r)+1:=by lia
  rw[e,n9,a];unfold TW;rw[jk (show len mask (D8 mask h 0).1-r>0 by lia)];simp
  lia
 |k+1,0,_=>by have a:=X5 mask h k (len mask (D8 mask h k).1) (aAj _);have e:off mask h (k+1)+0=(off mask h k+len mask (D8 mask h k).1)+1:=rfl;rw[e,n9,a];unfold TW;rw[ka (by simp)];simp[D8,len]
 |k+1,r+1,b=>by
  have a:=X5 mask h (k+1) r (by lia);have e:off mask h (k+1)+(r+1)=(off mask h (k+1)+r)+1:=by lia
  rw[e,n9,a];unfold TW;rw[jk (show len mask (D8 mask h<|k+1).1-r>0 by lia)];simp
  lia
def NI (mask:Nat)(h:Int)(k:Nat):(n9 mask h (off mask h k)).j=(D8 mask h k).1:=by have:=X5 mask h k 0 (aAM _);rw[Nat.add_zero]at this;rw[this];rfl
theorem jN (mask:Nat)(h:Int):∀k,(D8 mask h k).2<2^64/32^k+1
 |0=>by
  show bits h<_;unfold bits;have:=Int.emod_lt_of_pos h (show(0:Int)<2^64 by decide)
  lia
 |k+1=>by
  have a:=jN mask h k;show(D8 mask h k).2/32<_;have e:∀N,N/32^(k+1)=N/32^k/32:=λN=>by rw[Nat.div_div_eq_div_mul];rfl
  rw[e]
  lia
theorem vG (mask:Nat)(h:Int):∀k,(D8 mask h (13+k)).2=0
 |0=>by have:=jN mask h 13;simp at this;exact this
 |k+1=>by have:=vG mask h k;show(D8 mask h<|13+k).2/32=0;rw[this]
def lcg (m:Nat)(i:Nat):Nat:=(i*5+1)%m
def iter (m:Nat):Nat->Nat->Nat
 |0,i=>i
 |n+1,i=>lcg m (iter m n i)
theorem rK (mask:Nat)(h:Int):∀k,(D8 mask h (13+k)).1=iter (mask+1) k (D8 mask h 13).1
 |0=>rfl
 |k+1=>by have a:=rK mask h k;show((D8 mask h<|13+k).1*5+1+(D8 mask h<|13+k).2/32)%(mask+1)=_;rw[vG,a];rfl
theorem kL (m:Nat):∀a b i,iter m (a+b) i=iter m a (iter m b i)
 |0,b,i=>by rw[aDR];rfl
 |a+1,b,i=>by rw[show a+1+b=(a+b)+1 by lia];show lcg m _=lcg m _;rw[kL m a b i]
def oB (m:Nat):Prop:=iter m m 0=0/\∀j<m,∃n<m,iter m n 0=j
def uO (F:oB m)(f:i<m)(g:j<m):∃n<m,iter m n i=j:=by
 obtain⟨a,k,d⟩:=F.2 i f;obtain⟨b,l,e⟩:=F.2 j g;by_cases h:a<=b
 .exact⟨b-a,by lia,by rw[<-d,<-kL,show b-a+a=b by lia,e]⟩
 .refine⟨b+(m-a),by lia,?_⟩;rw[<-d,<-kL,show b+(m-a)+a=b+m by lia,kL,F.1,e]
instance(m:Nat):Decidable (oB m):=inferInstanceAs (Decidable<|_/\_)
def a1t:oB 8:=by decide+kernel
def ZW:oB 32:=by decide+kernel
def XC:oB 128:=by decide+kernel
theorem GP (mask:Nat)(h:Int):∀k,(D8 mask h k).1<mask+1
 |0=>aED _ (by lia)
 |k+1=>aED _ (by lia)
def DE {mask:Nat}(F:oB (mask+1))(h:Int){j:Nat}(a:j<=mask):∃n,n<=10*(mask+14)/\(n9 mask h n).j=j:=by
 obtain⟨k,b,e⟩:=uO F (GP mask h 13) (show j<mask+1 by lia);refine⟨off mask h (13+k),?_,?_⟩
 .have:=ND mask h (13+k);lia
 .rw[NI,rK,e]
def xZ {α β:Type}{l:List α}{m:List β}{p:Nat}{a:α×β}(h:a∈(l.take p).zip (m.take p)):a∈l.zip m:=by
 obtain⟨i,b⟩:=aCa.mp h;rw[aBF]at b;refine aAu (i:=i) ?_;rw[aBF];have q:∀{γ:Type} {l:List γ} {c:γ},(l.take p)[i]?=some c->l[i]?=some c:=λ{γ l c} h=>by
  rw[List.getElem?_take]at h;split at h
  .exact h
  .cases h
 exact⟨q b.1,q b.2⟩
def vK {α β:Type}{l:List α}{m:List β}{p:Nat}{a:α×β}(h:a∈(l.drop p).zip (m.drop p)):a∈l.zip m:=by obtain⟨i,b⟩:=aCa.mp h;rw[aBF,List.getElem?_drop,List.getElem?_drop]at b;refine aAu (i:=p+i) ?_;rw[aBF];exact b
theorem GX (mask:Nat)(h:Int):∀n,(n9 mask h n).j+(n9 mask h n).more<=mask
 |0=>by have:=aED (bits h) (show 0<mask+1 by lia);show bits h%(mask+1)+(runEnd mask (bits h%(mask+1))-bits h%(mask+1))<=mask;unfold runEnd;split<;>lia
 |n+1=>by
  have a:=GX mask h n;show(TW mask<|n9 mask h n).j+(TW mask<|n9 mask h n).more<=mask;unfold TW;split
  .dsimp only;lia
  .dsimp only;have:(leap mask (n9 mask h n).i (n9 mask h n).perturb).1<mask+1:=aED _ (by lia);unfold runEnd;split<;>lia
def vV (mask:Nat)(h:Int)(n:Nat):(n9 mask h n).j<=mask:=by have:=GX mask h n;lia
theorem R6 {α:Type}[DecidableEq α]:∀{l m:List α},l.Nodup->(∀x∈l,x∈m)->l.length<=m.length
 |[],_,_,_=>aAM _
 |x::l,m,h,a=>by
  have b:=a x (by simp);have d:=aAI.mp h;have:=R6 (l:=l) (m:=m.erase x) d.2 (λy f=>by
   have ne:y≠x:=λe=>by subst e;exact d.1 f
   exact(aFQ ne).mpr (a y<|aAe _ f))
  rw[aFl b]at this;have:0<m.length:=aEf b;simp only[aAr]
  lia
def KT {t:eQ}(h:t.place.size<=t.mask):∃j≤t.mask,j∉t.place.toList:=by
 by_cases z:∃j≤t.mask,j∉t.place.toList
 .exact z
 .exfalso;have:=R6 (l:=aAQ (t.mask+1)) (m:=t.place.toList) List.nodup_range (λj a=>by
   by_cases q:j∈t.place.toList
   .exact q
   .exact absurd ⟨j,by have:=aBA.mp a;lia,q⟩ z)
  simp at this
  lia
theorem least {P:Nat->Prop}[DecidablePred P]:∀n,P n->∃m≤n,P m/\∀k<m,¬P k
 |0,h=>⟨0,aAj _,h,λk b=>by lia⟩
 |n+1,h=>by
  by_cases z:∃k≤n,P k
  .obtain⟨k,b,a⟩:=z;obtain⟨m,f,d,e⟩:=least k a;exact⟨m,by lia,d,e⟩
  .exact⟨n+1,aAj _,h,λk b a=>z ⟨k,by lia,a⟩⟩
termination_by n=>n
def V6 (t:eQ)(h:Int)(n0:Nat):Prop:=n0<=10*(t.mask+14)/\(n9 t.mask h n0).j∉t.place.toList/\∀m<n0,(n9 t.mask h m).j∈t.place.toList
def FD {t:eQ}(F:oB (t.mask+1))(a:t.place.size<=t.mask)(h:Int):∃n0,V6 t h n0:=by obtain⟨j,b,d⟩:=KT a;obtain⟨n,l,e⟩:=DE F h b;obtain⟨m,o,f,g⟩:=least (P:=λn=>(n9 t.mask h n).j∉t.place.toList) n (by rw[e];exact d);exact⟨m,by lia,f,λk i=>by have:=g k i;simpa using this⟩
theorem yP (T:Tab t)(hashAt:Nat->Int)(h:Int)(l:V6 t h n0):∀(d n:Nat),n<=n0->n0-n<d->
  ∃f,n<=f/\f<=n0/\(∀m,n<=m->m<f->∃i,t.place[i]?=some (n9 t.mask h m).j/\hashAt i≠h)/\
   ((f=n0/\probe.go t hashAt h d (n9 t.mask h n)=some (.empty (n9 t.mask h n0).j none))\/
    (f<n0/\∃i,t.place[i]?=some (n9 t.mask h f).j/\hashAt i=h/\probe.go t hashAt h d (n9 t.mask h n)=some (.candidate (n9 t.mask h f).j i (n9 t.mask h (f+1)))))
 |0,n,_,o=>by lia
 |d+1,n,w,o=>by
  unfold probe.go;rcases DS T (n9 t.mask h n).j with⟨e,p⟩|⟨i,e,g⟩
  .have:n=n0:=by
     by_cases q:n<n0
     .exact absurd (l.2.2 n q) p
     .lia
   subst this;refine⟨n,aAj _,aAj _,λm a b=>by lia,.inl ⟨rfl,?_⟩⟩;rw[e];dsimp only;rw[qV]
  .have x:n≠n0:=λq=>by subst q;refine l.2.1 ?_;rw[<-aAB]at g;exact aAu g
   rw[e];dsimp only;by_cases k:hashAt i=h
   . refine⟨n,aAj _,by lia,λm a b=>by lia,.inr ⟨by lia,i,g,k,?_⟩⟩
     rw[jk (by simpa using k),qW];rfl
   . rw[ka (by simpa using k),qW]
     obtain⟨f,y,r,s,u⟩:=yP T hashAt h l d (n+1) (by lia) (by lia);refine⟨f,by lia,r,λm z v=>?_,u⟩;by_cases q:m=n
     .subst q;exact⟨i,g,k⟩
     .exact s m (by lia) v
def SY (T:Tab t)(hashAt:Nat->Int)(h:Int)(b:V6 t h n0)(n:Nat)(d:n<=n0):
  ∃a,n<=a/\a<=n0/\(∀m,n<=m->m<a->∃i,t.place[i]?=some (n9 t.mask h m).j/\hashAt i≠h)/\
   ((a=n0/\t.probe hashAt h (n9 t.mask h n)=some (.empty (n9 t.mask h n0).j none))\/
    (a<n0/\∃i,t.place[i]?=some (n9 t.mask h a).j/\hashAt i=h/\t.probe hashAt h (n9 t.mask h n)=some (.candidate (n9 t.mask h a).j i (n9 t.mask h (a+1))))):=
 yP T hashAt h b _ n d (by have:=b.1;unfold turns;lia)
def Reach (mask:Nat)(a:Nat->Prop)(h:Int)(j:Nat):Prop:=∃n,(n9 mask h n).j=j/\∀m<n,a (n9 mask h m).j
def Reach.mono {mask:Nat}{o a:Nat->Prop}{h:Int}{j:Nat}(r:Reach mask o h j)(i:∀k,o k->a k):Reach mask a h j:=by obtain⟨n,e,q⟩:=r;exact⟨n,e,λm b=>i _ (q m b)⟩
def Reach.before (a:V6 t h n0)(b:j∈t.place.toList)(r:Reach t.mask (λk=>k∈t.place.toList) h j):∃n<n0,(n9 t.mask h n).j=j:=by
 obtain⟨n,e,q⟩:=r;refine⟨n,?_,e⟩;by_cases z:n<n0
 .exact z
 .exfalso;by_cases y:n=n0
  .subst y;exact a.2.1 (by rw[e];exact b)
  .exact a.2.1 (q n0 (by lia))
def gE {α:Type}(Y:Array α)(p:Nat)(x:α):(insertAt Y p x).toList=Y.toList.take p++x::Y.toList.drop p:=by
 unfold insertAt;simp[Array.toList_extract,List.extract_eq_drop_take];have:Y.size-p=(Y.toList.drop p).length:=by simp
 rw[this,List.take_length]
def zD (t:eQ)(es:List (Int×ao)):List (Nat×Int×ao):=t.place.toList.zip es
structure SOk (t:SetTable)(es:List (Int×Value)):Prop where
 tab:Tab t
 full:oB (t.mask+1)
 len:t.place.size=es.length
 room:t.place.size<=t.mask
 reach:∀e∈zD t es,Reach t.mask (λk=>k∈t.place.toList) e.2.1 e.1
def WC {t:eQ}{es:List (Int×ao)}(b:t.place.size=es.length){i:Nat}{e:Int×ao}(h:es[i]?=some e):∃j,t.place[i]?=some j/\(j,e)∈zD t es:=by
 have d:i<es.length:=(aAw.mp h).1;have a:i<t.place.toList.length:=by simpa[b]using d
 refine⟨t.place.toList[i],by rw[<-aAB,aAg a],?_⟩;unfold zD;refine aAu (i:=i) ?_;rw[aBF];exact⟨aAg a,h⟩
def aw {t:eQ}{es:List (Int×ao)}(S:SOk t es){h:Int}{x:ao}{n0:Nat}(z:V6 t h n0)(E:t.place.size+1<=t.mask):
  SOk (t.put (n9 t.mask h n0).j).1 (es.take (t.put (n9 t.mask h n0).j).2++(h,x)::es.drop (t.put (n9 t.mask h n0).j).2):=by
 have u:=vV t.mask h n0;obtain⟨Y,H,I⟩:=bV S.tab.asc (n9 t.mask h n0).j;generalize A:(n9 t.mask h n0).j=J at*
 have v:J∉t.place.toList:=by rw[<-A];exact z.2.1
 have B:(t.put J).2=below t.place J:=rfl;have em:(t.put J).1.mask=t.mask:=rfl;have d:(t.put J).1.place=insertAt t.place (below t.place J) J:=rfl;have f:=gE t.place (below t.place J) J;have l:∀k,k∈(t.put J).1.place.toList↔k∈t.place.toList\/k=J:=λk=>by
  rw[d,f,aAL,aAd];constructor
  .rintro(q|q|q)
   .exact .inl (aEA q)
   .exact .inr q
   .exact .inl (aDI q)
  .rintro(q|q)
   .rw[<-aFG (below t.place J) t.place.toList,aAL]at q;rcases q with q|q
    .exact .inl q
    .exact .inr (.inr q)
   .exact .inr (.inl q)
 have C:(t.put J).1.place.size=t.place.size+1:=by
  rw[<-aBj,d,f,aAC,aBV,aAr,aDO,aBj]
  lia
 refine⟨⟨?_,λj L=>?_,?_⟩,S.full,?_,by rw[C];exact E,λe s=>?_⟩
 .
  have o:t.place.toList.Pairwise (· <·):=by rw[aCr];intro i j g u N;simpa using S.tab.asc i j (by simpa using g) (by simpa using u) N
  have p:∀a∈t.place.toList.take (below t.place J),a<J:=λa n=>by
   obtain⟨i,g,e⟩:=aBi n;rw[aBV]at g;rw[List.getElem_take]at e;have:=H i (by simp at g;lia) (by lia);simp at e
   lia
  have r:∀a∈t.place.toList.drop (below t.place J),J<a:=λa n=>by
   obtain⟨i,g,e⟩:=aBi n;rw[aDO]at g;rw[List.getElem_drop]at e;have h1:=I (below t.place J+i) (by simp at g;lia) (by lia);simp at e;have h2:J≠a:=λq=>v (by rw[q];exact aDI n)
   lia
  have O:(t.put J).1.place.toList.Pairwise (· <·):=by
   rw[d,f,List.pairwise_append];refine⟨o.sublist (List.take_sublist _ _),aAz.mpr ⟨r,o.sublist (List.drop_sublist _ _)⟩,λa n b Q=>?_⟩;rcases aAd.mp Q with q|q
   .subst q;exact p a n
   .exact aGE (p a n) (r b q)
  intro i k g w y;have:=aCr.mp O i k (by simpa using g) (by simpa using w) y;simpa using this
 .rcases(l j).mp L with q|q
  .exact S.tab.le j q
  .subst q;exact u
 .show(if has t.dummies J then _ else t.dummies)=#[];rw[S.tab.nod,ka (by unfold has;simp)]
 .rw[C,B,aAC,aBV,aAr,aDO];have:=S.len
  lia
 .have T:e∈zD t es\/e=(J,h,x):=by
   unfold zD at s;rw[d,f,B]at s;rw[List.zip_append (by rw[aBV,aBV,aBj,S.len])]at s;rcases aAL.mp s with q|q
   .left;unfold zD;exact xZ q
   .rw[aCc]at q;rcases aAd.mp q with q|q
    .exact .inr q
    .left;unfold zD;exact vK q
  rcases T with q|q
  .exact(S.reach e q).mono λk w=>(l k).mpr (.inl w)
  .subst q;exact⟨n0,A,λm U=>(l _).mpr (.inl (z.2.2 m U))⟩
def S8 (owner:Array (Option Nat))(j:Nat):Prop:=(owner.getD j<|some 0).isNone=false
theorem tO {mask:Nat}(h:Int)(owner:Array (Option Nat)):∀(fuel k:Nat),(∃kk,k<=kk/\kk<k+fuel/\¬S8 owner (D8 mask h kk).1)->
  ∃n,off mask h k<=n/\layClean.free mask owner fuel (D8 mask h k).1 (D8 mask h k).2=some (n9 mask h n).j/\¬S8 owner (n9 mask h n).j/\∀m,off mask h k<=m->m<n->S8 owner (n9 mask h m).j
 |0,k,⟨kk,i,l,_⟩=>by lia
 |fuel+1,k,⟨kk,i,l,d⟩=>by
  have o:runEnd mask (D8 mask h k).1+1-(D8 mask h k).1=len mask (D8 mask h k).1+1:=by unfold len runEnd;split<;>lia
  unfold layClean.free;rw[o];cases e:(aAQ<|len mask (D8 mask h k).1+1).find? λr=>(owner.getD ((D8 mask h k).1+r)<|some 0).isNone with
  |some r=>
   have q:=List.find?_some e;have f:r<len mask (D8 mask h k).1+1:=aBA.mp (aFh e);have g:(n9 mask h<|off mask h k+r).j=(D8 mask h k).1+r:=by rw[X5 mask h k r (by lia)]
   refine⟨off mask h k+r,by lia,by rw[g],by rw[g];unfold S8;rw[q];simp,λm a b=>?_⟩;have em:(n9 mask h m).j=(D8 mask h k).1+(m-off mask h k):=by have:=X5 mask h k (m-off mask h k) (by lia);rw[show off mask h k+(m-off mask h k)=m by lia]at this;rw[this]
   rw[em];unfold S8;rw[List.find?_range_eq_some]at e;have:=e.2.2 (m-off mask h k) (by lia);simpa using this
  |none=>
   have all:∀r<len mask (D8 mask h k).1+1,S8 owner ((D8 mask h k).1+r):=λr f=>by have:=List.find?_eq_none.mp e r (aBA.mpr f);unfold S8;exact Bool.not_eq_true _▸this
   have v:kk≠k:=λq=>by subst q;have:=all 0 (by lia);rw[Nat.add_zero]at this;exact d this
   obtain⟨n,w,p,s,t⟩:=tO h owner fuel (k+1) ⟨kk,by lia,by lia,d⟩;have x:off mask h (k+1)=off mask h k+len mask (D8 mask h k).1+1:=rfl;refine⟨n,by lia,p,s,λm y u=>?_⟩;by_cases q:off mask h (k+1)<=m
   .exact t m q u
   .have em:(n9 mask h m).j=(D8 mask h k).1+(m-off mask h k):=by have:=X5 mask h k (m-off mask h k) (by lia);rw[show off mask h k+(m-off mask h k)=m by lia]at this;rw[this]
    rw[em];exact all _ (by lia)
def oQ {mask:Nat}(F:oB (mask+1))(h:Int)(owner:Array (Option Nat)){j:Nat}(i:j<=mask)(a:¬S8 owner j):
  ∃n,layClean.free mask owner (turns mask) (aDY h%(mask+1)) (aDY h)=some (n9 mask h n).j/\¬S8 owner (n9 mask h n).j/\∀m<n,S8 owner (n9 mask h m).j:=by
 obtain⟨k,l,e⟩:=uO F (GP mask h 13) (show j<mask+1 by lia);obtain⟨n,o,b,d,f⟩:=tO h owner (turns mask) 0 ⟨13+k,aAM _,by unfold turns;lia,by rw[rK,e];exact a⟩;exact⟨n,b,d,λm g=>f m (aAM _) g⟩
structure Laid (mask:Nat)(hs:List Int)(owner:Array (Option Nat))(k:Nat):Prop where
 size:owner.size=mask+1
 lt:∀(j i:Nat),owner[j]?=some (some i)->i<k
 inj:∀(j j' i:Nat),owner[j]?=some (some i)->owner[j']?=some (some i)->j=j'
 sur:∀i<k,∃j:Nat,owner[j]?=some (some i)
 reach:∀(j i:Nat) (h:Int),owner[j]?=some (some i)->hs[i]?=some h->Reach mask (λl=>∃i,owner[l]?=some (some i)) h j
def lZ {owner:Array (Option Nat)}{mask j:Nat}(b:owner.size=mask+1)(d:j<=mask):S8 owner j↔∃i,owner[j]?=some (some i):=by
 unfold S8;have a:j<owner.size:=by lia
 have e:owner.getD j (some 0)=owner[j]:=by simp[aFm,a]
 rw[e,aAx a];cases owner[j]with
 |none=>simp
 |some i=>simp
def Laid.room {mask k:Nat}{r:List Int}{owner:Array (Option Nat)}(L:Laid mask r owner k)(t:k<=mask):∃j≤mask,¬S8 owner j:=by
 by_cases z:∃j≤mask,¬S8 owner j
 .exact z
 .exfalso;have all:∀j≤mask,∃i,owner[j]?=some (some i):=λj b=>by
   by_cases q:S8 owner j
   .exact(lZ L.size b).mp q
   .exact absurd ⟨j,b,q⟩ z
  have d:∀n,n<=mask+1->∃l:List Nat,l.length=n/\l.Nodup/\(∀i∈l,i<k)/\∀i∈l,∃j<n,owner[j]?=some (some i):=λn=>by
   induction n with
   |zero=>exactλ_=>⟨[],rfl,aDl,by simp,by simp⟩
   |succ n s=>
    intro u;obtain⟨l,o,f,g,p⟩:=s (by lia);obtain⟨i,h⟩:=all n (by lia);refine⟨i::l,by simp[o],aAI.mpr ⟨λq=>?_,f⟩,λx a=>?_,λx a=>?_⟩
    .obtain⟨j,b,e⟩:=p i q;have:=L.inj j n i e h
     lia
    .rcases aAd.mp a with q|q
     .subst q;exact L.lt _ _ h
     .exact g x q
    .rcases aAd.mp a with q|q
     .subst q;exact⟨n,by lia,h⟩
     .obtain⟨j,b,e⟩:=p x q;exact⟨j,by lia,e⟩
  obtain⟨l,o,f,g,_⟩:=d (mask+1) (aAj _);have:=R6 (m:=aAQ k) f (λx a=>aBA.mpr (g x a));simp at this
  lia
def FG (mask:Nat)(b:List Int):Laid mask b (aEF (mask+1) none) 0:=by
 have a:∀(j i:Nat),(aEF (mask+1) (none:Option Nat))[j]?=some (some i)->False:=λj i h=>by rw[Array.getElem?_replicate]at h;split at h<;>cases h
 exact⟨by simp,λj i h=>(a j i h).elim,λj d i h=>(a j i h).elim,λi e=>by lia,λj i _ h=>(a j i h).elim⟩
def Laid.step {mask k:Nat}{g:List Int}{owner:Array (Option Nat)}(L:Laid mask g owner k){h:Int}(t:g[k]?=some h){n:Nat}(u:¬S8 owner (n9 mask h n).j)(v:∀m<n,S8 owner (n9 mask h m).j):
  Laid mask g (owner.setIfInBounds (n9 mask h n).j (some k)) (k+1):=by
 have w:=vV mask h n;have o:(n9 mask h n).j<owner.size:=by rw[L.size];lia
 have get:∀(j i:Nat),(owner.setIfInBounds (n9 mask h n).j (some k))[j]?=some (some i)↔(j=(n9 mask h n).j/\i=k)\/(j≠(n9 mask h n).j/\owner[j]?=some (some i)):=λj i=>by
  rw[Array.getElem?_setIfInBounds];by_cases q:(n9 mask h n).j=j
  .rw[jk q,jk o];simp[q,eq_comm]
  .rw[ka q];constructor
   .intro z;exact .inr ⟨λy=>q y.symm,z⟩
   .rintro(⟨z,_⟩|⟨_,z⟩)
    .exact absurd z.symm q
    .exact z
 have x:∀i,owner[(n9 mask h n).j]?≠some (some i):=λi z=>u ((lZ L.size w).mpr ⟨i,z⟩);have grow:∀l:Nat,(∃i:Nat,owner[l]?=some (some i))->∃i:Nat,(owner.setIfInBounds (n9 mask h n).j (some k))[l]?=some (some i):=λl A=>by
  obtain⟨i,z⟩:=A;by_cases q:l=(n9 mask h n).j
  .exact⟨k,(get l k).mpr (.inl ⟨q,rfl⟩)⟩
  .exact⟨i,(get l i).mpr (.inr ⟨q,z⟩)⟩
 refine⟨by simp[L.size],λj i z=>?_,λj p i z s=>?_,λi C=>?_,λj i r z e=>?_⟩
 .rcases(get j i).mp z with⟨_,q⟩|⟨_,q⟩
  .lia
  .have:=L.lt j i q;lia
 .rcases(get j i).mp z with⟨d,a⟩|⟨d,a⟩
  .rcases(get p i).mp s with⟨f,b⟩|⟨f,b⟩
   .rw[d,f]
   .subst a;have:=L.lt _ _ b;lia
  .rcases(get p i).mp s with⟨f,b⟩|⟨f,b⟩
   .subst b;have:=L.lt _ _ a;lia
   .exact L.inj j p i a b
 .by_cases q:i=k
  .subst q;exact⟨_,(get _ _).mpr (.inl ⟨rfl,rfl⟩)⟩
  .obtain⟨j,z⟩:=L.sur i (by lia);exact⟨j,(get j i).mpr (.inr ⟨λy=>by subst y;exact x i z,z⟩)⟩
 .rcases(get j i).mp z with⟨d,a⟩|⟨d,a⟩
  .subst d a;have:r=h:=aAm (e.symm.trans t);subst this;exact⟨n,rfl,λm B=>grow _ ((lZ L.size<|vV mask r m).mp (v m B))⟩
  .exact(L.reach j i r a e).mono grow
def AH {mask:Nat}(F:oB (mask+1))(b:Array Int)(z:b.size<=mask):∃owner,layClean mask b=some owner/\Laid mask b.toList owner b.size:=by
 have g:∀(post a:List Int) (owner:Array (Option Nat)),b.toList=a++post->Laid mask b.toList owner a.length->
   ∃d,post.foldl (λB h=>do
    let(owner,k)<-B
    let j<-layClean.free mask owner (turns mask) (aDY h%(mask+1)) (aDY h)
    pure (owner.setIfInBounds j (some k),k+1)) (some (owner,a.length))=some (d,b.size)/\Laid mask b.toList d b.size:=λpost=>by
  induction post with
  |nil=>
   intro a owner e L;have:a.length=b.size:=by rw[<-aBj,e];simp
   exact⟨owner,by rw[List.foldl_nil,this],by rw[<-this];exact L⟩
  |cons h post i=>
   intro a owner e L;have f:a.length<b.size:=by rw[<-aBj,e];simp
   obtain⟨j,l,m⟩:=L.room (by lia);obtain⟨n,o,p,q⟩:=oQ F h owner l m;have r:b.toList[a.length]?=some h:=by rw[e];simp
   have s:=L.step r p q;rw[aDw];have t:b.toList=(a++[h])++post:=by rw[e];simp
   obtain⟨d,u,v⟩:=i (a++[h]) _ t (by rw[aAC];exact s);refine⟨d,?_,v⟩;rw[<-u];congr 1;simp[o]
 obtain⟨owner,w,x⟩:=g b.toList [] (aEF (mask+1) none) rfl (FG mask b.toList);refine⟨owner,?_,x⟩;unfold layClean;rw[<-Array.foldl_toList];have y:List.foldl (λB h=>do
    let(owner,k)<-B
    let j<-layClean.free mask owner (turns mask) (aDY h%(mask+1)) (aDY h)
    pure (owner.setIfInBounds j (some k),k+1)) (some (aEF (mask+1) none,0)) b.toList=some (owner,b.size):=w
 rw[y];rfl
def G4 (mask:Nat)(owner:Array (Option Nat)):List (Nat×Nat):=(aAQ<|mask+1).filterMap λj=>(owner.getD j none).map (j,·)
def S7 {mask:Nat}{owner:Array (Option Nat)}(g:owner.size=mask+1){j i:Nat}:(j,i)∈G4 mask owner↔owner[j]?=some (some i):=by
 unfold G4;rw[aCd];constructor
 .rintro⟨l,a,e⟩;have f:l<owner.size:=by rw[g];exact aBA.mp a
  have b:owner.getD l none=owner[l]:=by simp[aFm,f]
  rw[b,aDm]at e;obtain⟨k,d,h⟩:=e;cases h;rw[aAx f,d]
 .intro e;obtain⟨a,d⟩:=aCn.mp e;have b:owner.getD j none=owner[j]:=by simp[aFm,a]
  exact⟨j,aBA.mpr (by lia),by rw[b,d];rfl⟩
def zE (mask:Nat)(owner:Array (Option Nat)):((G4 mask owner).map (·.1)).Pairwise (· <·):=by unfold G4;rw[aBm];have:(aAQ<|mask+1).Pairwise (· <·):=List.pairwise_lt_range;refine List.Pairwise.filterMap _ (R:=(· <·)) ?_ this;intro a g f b d h e;rw[aDm]at d e;obtain⟨_,_,rfl⟩:=d;obtain⟨_,_,rfl⟩:=e;exact f
def RY {mask finger moves:Nat}{led plain:Bool}(F:oB (mask+1))(es:Array (Int×ao))(A:es.size<=mask):
  ∃t' f,laid mask finger moves led plain (es.map (·.1))=some (t',f)/\(f.filterMap (es[·]?)).size=es.size/\(f.filterMap (es[·]?)).toList.Perm es.toList/\SOk t' (f.filterMap (es[·]?)).toList/\
   t'.mask=mask/\t'.dummies=#[]/\t'.led=led/\t'.plain=plain/\t'.moves=moves:=by
 obtain⟨d,J,L⟩:=AH F (es.map (·.1)) (by simpa using A);have m:(es.map (·.1)).size=es.size:=by simp
 rw[m]at L;refine⟨{mask,place:=((G4 mask d).map (·.1)).toArray,dummies:=#[],finger,led,moves,plain},((G4 mask d).map (·.2)).toArray,?_,?_⟩
 .unfold laid;rw[J];rfl
 have n:(G4 mask d).Nodup:=by have:=zE mask d;rw[aBm]at this;exact aCm.mpr (this.imp λ{a b} h e=>by subst e;exact aBv _ h)
 have o:((G4 mask d).map (·.2)).Nodup:=by rw[aCm,aBm];refine List.Pairwise.imp_of_mem (R:=(· ≠·)) ?_ (aCm.mp n);rintro⟨j,i⟩ ⟨p,r⟩ N O Q e;dsimp only at e;subst e;have:=L.inj j p i ((S7 L.size).mp N) ((S7 L.size).mp O);subst this;exact Q rfl
 have B:((G4 mask d).map (·.2)).Perm (aAQ es.size):=by
  rw[aBO o List.nodup_range];intro i;rw[aBA,aAk];constructor
  .rintro⟨⟨j,r⟩,h,rfl⟩;exact L.lt _ _ ((S7 L.size).mp h)
  .intro s;obtain⟨j,t⟩:=L.sur i s;exact⟨(j,i),(S7 L.size).mpr t,rfl⟩
 have C:(((G4 mask d).map (·.2)).toArray.filterMap (es[·]?)).toList=(G4 mask d).filterMap (λx=>es[x.2]?):=by rw[Array.toList_filterMap,aDp];rfl
 have T:((G4 mask d).filterMap (λx=>es[x.2]?)).Perm es.toList:=by
  have U:(G4 mask d).filterMap (λx=>es[x.2]?)=((G4 mask d).map (·.2)).filterMap (λi=>es[i]?):=by rw[aDp];rfl
  rw[U];refine(B.filterMap _).trans (List.Perm.of_eq ?_);apply aEh;intro i;have:(aAQ es.size).filterMap (λi=>es[i]?)=es.toList:=by
   have q:∀l:List (Int×ao),(aAQ l.length).filterMap (λi=>l[i]?)=l:=λl=>by
    induction l with
    |nil=>rfl
    |cons a l u=>
     rw[aAr,aEg,aCL];simp only[aCF];rw[aDp];have:((λi=>(a::l)[i]?)∘Nat.succ)=λi=>l[i]?:=by funext i;simp
     rw[this,u]
   have:=q es.toList;simpa using this
  rw[this]
 have Y:∀l:List (Nat×Nat),(∀x∈l,x.2<es.size)->(l.map (·.1)).zip (l.filterMap<|λx=>es[x.2]?)=l.filterMap (λx=>es[x.2]?.map (x.1,·))/\(l.filterMap<|λx=>es[x.2]?).length=l.length:=λl=>by
  induction l with
  |nil=>intro _;exact⟨rfl,rfl⟩
  |cons x l u=>intro h;obtain⟨i1,i2⟩:=u (λy hy=>h y (aAe _ hy));have w:=h x (by simp);have e:es[x.2]?=some es[x.2]:=aAx w;rw[aAn,aCL,e];dsimp only;rw[aCL,e];dsimp only[Option.map_some];rw[aCc,i1];exact⟨rfl,by simp[i2]⟩
 obtain⟨z1,E⟩:=Y (G4 mask d) (λx w=>L.lt x.1 x.2 ((S7 L.size).mp w));have H:(G4 mask d).length=es.size:=by have:=B.length_eq;simpa using this
 rw[C];refine⟨by rw[<-aBj,C,E,H],T,⟨⟨?_,λj t=>?_,rfl⟩,F,?_,?_,λe g=>?_⟩,rfl,rfl,rfl,rfl,rfl⟩
 .intro i k s m z;have:=aCr.mp (zE mask d) i k (by simpa using s) (by simpa using m) z;simpa using this
 .have ud:j∈(G4 mask d).map (·.1):=by simpa using t
  obtain⟨⟨p,i⟩,h,rfl⟩:=aAk.mp ud;have:=(aCn.mp<|(S7 L.size).mp h).1;rw[L.size]at this;show p<=mask
  lia
 .rw[E];simp
 .simp only[aAq,aAi,H];exact A
 .unfold zD at g;dsimp only at g;rw[z1,aCd]at g;obtain⟨⟨j,i⟩,h,I⟩:=g;rw[aDm]at I;obtain⟨⟨hh,v⟩,e2,rfl⟩:=I;have ho:=(S7 L.size).mp h;have:=L.reach j i hh ho (by rw[aAB,Array.getElem?_map,e2];rfl);refine this.mono λl z9=>?_;obtain⟨r,fb⟩:=z9;show l∈(G4 mask d).map (·.1);exact aAk.mpr ⟨(l,r),(S7 L.size).mpr fb,rfl⟩
end ST
namespace TS
open PySem PyProof.Rows
abbrev tupK:Bool->SortKind:=sortPriv%PySem.Builtin.KeyKind.tuples
structure TB (f:Bool)(aa:Array Keyed)(st:SortSt):Prop where
 perm:(arrOf st).Perm aa
 kind:kindOf st=tupK f
 failed:failedOf st=none
 pend:pendingOf st=#[]
def TB.size {f:Bool}{aa:Array Keyed}{st:SortSt}(h:TB f aa st):(arrOf st).size=aa.size:=h.perm.size_eq
def TB.setArr {f:Bool}{aa:Array Keyed}{st:SortSt}(h:TB f aa st){Y:Array Keyed}(a:Y.Perm (arrOf st)):TB f aa (PyProof.Rows.setArr st Y):=
 ⟨a.trans h.perm,h.kind,h.failed,h.pend⟩
def WY (f:Bool)(A:bc)(s:aA)(κ:KeyKind):Prop:=
 ∀(d:ba) (w:be) (E:E8) (x y:ao) (a b:κ.α) {Q:zW},
  κ.keyOf x=some a->κ.keyOf y=some b->Q (κ.blt a b) s->av (a9 d w) A (keyLt' (tupK f) x y) Q E s
def TB.atK {f:Bool}{κ:KeyKind}{aa:Array Keyed}{st:SortSt}(h:TB f aa st)(h0:KeysOf κ aa){i:Nat}(d:i<aa.size):∃x p a,(arrOf st)[i]?=some (x,p)/\κ.keyOf x=some a/\KK κ (arrOf st) i=a:=by
 have g:i<(arrOf st).size:=by rw[h.size];exact d
 obtain⟨a,b⟩:=h0 _ ((aER.mp h.perm).mem_iff.mp (show(arrOf st)[i]∈(arrOf st).toList by simp));have e:(arrOf st)[i]?=some (arrOf st)[i]:=getElem?_pos _ i g;exact⟨(arrOf st)[i].1,(arrOf st)[i].2,a,by rw[e],b,by unfold KK;rw[e];simp[b]⟩
section
def ltT (f:Bool){prog:ba}{w:be}{A:bc}{E:E8}{s:aA}{aa:Array Keyed}{κ:KeyKind}{st:SortSt}{i j:Nat}{Q:Option Bool->SortSt->Prop}(e:WY f A s κ)(d:TB f aa st)(h0:KeysOf κ aa)(g:i<aa.size)(k:j<aa.size)
  (h:Q (some (κ.blt (KK κ (arrOf st) i) (KK κ (arrOf st) j))) st):wpS (a9 prog w) A E s (ltAt' i j) Q st:=by
 obtain⟨x,p,a,l,m,n⟩:=d.atK h0 g;obtain⟨y,q,b,o,r,t⟩:=d.atK h0 k;rw[n,t]at h;rw[ltAt'_eq];refine aBB (wpS_get ?_);show wpS _ _ _ _ (do let x<-elem' (arrOf st) i;let y<-elem' (arrOf st) j;lt' x y) Q st;rw[elem'_eq,elem'_eq,l,o];refine aBB (aCs<|aBB<|aCs ?_);rw[lt'_eq];refine aBB (wpS_get ?_);rw[d.kind];refine aBB (wpS_lift<|aDZ<|e prog w _ x y a b m r ⟨rfl,?_⟩);exact aCs h
def up1 (S:SortedToK κ Y x)(h:1<=x->κ.kle (KK κ Y (x-1)) (KK κ Y x)):SortedToK κ Y (x+1):=λi j a b=>by
 rcases aDq (aFn b)with d|rfl
 .exact S i j a d
 .rcases aDq a with e|rfl
  .exact KeyOrd.kle_trans (S i (j-1) (by lia) (by lia)) (h (by lia))
  .exact KeyOrd.kle_refl _
def dn1 (S:NonIncK κ Y x)(h:1<=x->κ.kle (KK κ Y x) (KK κ Y (x-1))):NonIncK κ Y (x+1):=λi j a b=>by
 rcases aDq (aFn b)with d|rfl
 .exact S i j a d
 .rcases aDq a with e|rfl
  .exact KeyOrd.kle_trans (h (by lia)) (S i (j-1) (by lia) (by lia))
  .exact KeyOrd.kle_refl _
def QY (S:NonIncK κ Y x)(e:∀k,KK κ ys k=KK κ Y k):NonIncK κ ys x:=λi j a b=>by rw[e,e];exact S i j a b
def EZ (κ:KeyKind)(Y:Array Keyed)(x c:Nat):Prop:=c+1<=x/\∀k,x-(c+1)<=k->k<x->KK κ Y k=KK κ Y (x-1)
def EZ.one (h:1<=x):EZ κ Y x 0:=⟨h,λk a b=>by rw[show k=x-1 by lia]⟩
variable{st:SortSt}
def OG (i:WY f A s κ)(h0:KeysOf κ aa)(l:m<=aa.size)(B:TB f aa st)(o:1<=a)(b:a<=m)(S:SortedToK κ (arrOf st) a){Q:AscSt->SortSt->Prop}(q:∀n,a<=n->n<=m->SortedToK κ (arrOf st) n->(n<m->κ.klt (KK κ (arrOf st) n) (KK κ (arrOf st) (n-1)))->Q (none,n) st):wpS (a9 prog w) A E s (ascLoop a m) Q st:=by
 refine aEq (I:=λn r t=>t=st/\r=(none,n)/\SortedToK κ (arrOf st) n) (λn r t j l2 k=>?_) (λr t ⟨g,h,d⟩=>?_) ⟨rfl,rfl,S⟩
 .obtain⟨g,h,d⟩:=k;subst g h;refine aBB (ltT f i B h0 (by lia) (by lia) ?_);cases z:κ.blt (KK κ (arrOf t) n) (KK κ (arrOf t)<|n-1)with
  |true=>exact aCs (q n j (by lia) d λ_=>z)
  |false=>exact aCs ⟨rfl,rfl,up1 d λ_=>z⟩
 .subst g h;have e:max a m=m:=Nat.max_eq_right b;rw[e]at d⊢;exact q m b (aAj _) d λz=>absurd z (aBv _)
abbrev Told (f:Bool)(κ:KeyKind)(aa:Array Keyed)(m:Nat)(Q:Option Nat->SortSt->Prop):Prop:=∀n t,TB f aa t->1<=n->n<=m->SortedToK κ (arrOf t) n->Q (some n) t
def AT (h:WY f A s κ)(h0:KeysOf κ aa)(a:m<=aa.size)(B:TB f aa st)(b:1<=n)(d:n<=m)(S:NonIncK κ (arrOf st) n){Q:Option Nat->SortSt->Prop}(q:Told f κ aa m Q):
  wpS (a9 prog w) A E s (tail3 n m) Q st:=by
 have g:=B.setArr (aGh (arrOf st) 0 n<|(n-0)/2);have l:n<=(arrOf st).size:=by rw[B.size];exact aAs d a
 refine aBB (aGi<|aBB<|OG h h0 a g b d (λi j v o=>?_) λk p r t _=>aCs (q k _ g (aAs b p) r t));have e:∀k,k<n->KK κ (arrOf<|setArr st<|mirror (arrOf st) 0 n<|(n-0)/2) k=KK κ (arrOf st) (0+n-1-k):=λk u=>(KK_mirror l k).trans (jk ⟨aAM _,u⟩);rw[e i (by lia),e j o];exact S _ _ (by lia) (by lia)
def MP (g:WY f A s κ)(h0:KeysOf κ aa)(C:m<=aa.size)(B:TB f aa st)(h:1<=n)(j:n<=m)(S:NonIncK κ (arrOf st) n){Q:DescSt->SortSt->Prop}(q:∀k c t,TB f aa t->1<=k->k<=m->NonIncK κ (arrOf t) k->EZ κ (arrOf t) k c->Q (none,k,c) t):wpS (a9 prog w) A E s (descLoop n m) Q st:=by
 refine aEq (I:=λk r t=>∃c,r=(none,k,c)/\TB f aa t/\NonIncK κ (arrOf t) k/\EZ κ (arrOf t) k c) (λk r t H l2 p=>?_) (λr t ⟨c,e,a,d,b⟩=>?_) ⟨0,rfl,B,S,EZ.one h⟩
 .obtain⟨c,e,a,d,b⟩:=p;subst e;have u:k<=(arrOf t).size:=by rw[a.size];lia
  dsimp only;refine aBB (ltT f g a h0 (by lia) (by lia) ?_);cases z:κ.blt (KK κ (arrOf t) k) (KK κ (arrOf t)<|k-1)with
  |true=>
   have l:NonIncK κ (arrOf t) (k+1):=dn1 d λ_=>KeyOrd.kle_of_klt z;show wpS _ _ _ _ (if c>0 then _ else _) _ t;by_cases o:c>0
   .rw[jk o];exact aBB (aGi (aCs ⟨0,rfl,a.setArr (aGh _ _ _ _),QY l (aFH u b.2),EZ.one (by lia)⟩))
   .rw[ka o];exact aCs ⟨0,rfl,a,l,EZ.one (by lia)⟩
  |false=>
   dsimp only;simp only[aAt,if_false];refine aBB (ltT f g a h0 (by lia) (by lia) ?_);cases v:κ.blt (KK κ (arrOf t)<|k-1) (KK κ (arrOf t) k)with
   |true=>exact aCs (q k c t a (by lia) (by lia) d b)
   |false=>
    have e:KK κ (arrOf t) k=KK κ (arrOf t) (k-1):=KeyOrd.kle_antisymm v z;refine aCs ⟨c+1,rfl,a,dn1 d λ_=>by rw[e];exact KeyOrd.kle_refl _,by have:=b.1;lia,λi J x=>?_⟩;show KK κ (arrOf t) i=KK κ (arrOf t) k;rcases aDq (aFn x)with y|rfl
    .rw[e];exact b.2 i (by lia) y
    .rfl
 .subst e;have e:max n m=m:=Nat.max_eq_right j;rw[e]at d b⊢;exact q m c t a (aAs h j) (aAj _) d b
def AD (a:WY f A s κ)(h0:KeysOf κ aa)(b:m<=aa.size)(B:TB f aa st)(j:n+1<=m)(S:NonIncK κ (arrOf st) (n+1)){Q:Option Nat->SortSt->Prop}(q:Told f κ aa m Q):
  wpS (a9 prog w) A E s (descPart n m) Q st:=by
 refine aBB (wpS_lift<|aDC ⟨rfl,aBB (MP a h0 b B (aGF n) j S λk c t d e g h l=>?_)⟩);have o:k<=(arrOf t).size:=by rw[d.size];lia
 show wpS _ _ _ _ (if c>0 then _ else _) _ t;by_cases i:c>0
 .rw[jk i];exact aBB (aGi<|AT a h0 b (d.setArr<|aGh _ _ _ _) e g (QY h<|aFH o l.2) q)
 .rw[ka i];exact AT a h0 b d e g h q
def KS (a:WY f A s κ)(h0:KeysOf κ aa)(b:m<=aa.size)(l:1<=m)(B:TB f aa st){Q:Option Nat->SortSt->Prop}(q:Told f κ aa m Q):wpS (a9 prog w) A E s (countRun' 0 m) Q st:=by
 rw[countRun0_eq];refine aBB (OG a h0 b B (aAj 1) l (up1 (λ_ _ _ z=>absurd z (aFI _)) λz=>absurd z (by decide)) λn d e S o=>?_);show wpS _ _ _ _ (if(n==m)=true then _ else _) _ st;by_cases g:n=m
 .rw[jk (beq_iff_eq.mpr g)];exact aCs (q n st B d e S)
 .rw[ka λz=>g (beq_iff_eq.mp z)];have lt:=o (by lia);by_cases h:n>1
  .rw[jk h];refine aBB (ltT f a B h0 (by lia) (by lia) ?_);cases z:κ.blt (KK κ (arrOf st) 0) (KK κ (arrOf st)<|n-1)with
   |true=>exact aCs (q n st B d e S)
   |false=>
    have p:n<=(arrOf st).size:=by rw[B.size];lia
    have same:∀k,0<=k->k<n->KK κ (arrOf st) k=KK κ (arrOf st) (n-1):=λk _ r=>KeyOrd.kle_antisymm (S k (n-1) (by lia) (by lia)) (KeyOrd.kle_trans z<|S 0 k (aAM _) r);have t:NonIncK κ (arrOf st) n:=λi j v u=>by rw[same i (aAM _) (by lia),same j (aAM _) u];exact KeyOrd.kle_refl _
    exact aBB (aGi (AD a h0 b (B.setArr<|aGh _ _ _ _) (by lia) (QY (dn1 t λ_=>KeyOrd.kle_of_klt lt)<|aFH p same) q))
  .rw[ka h];obtain rfl:n=1:=by lia
   exact AD a h0 b B (by lia) (dn1 (dn1 (λ_ _ _ z=>absurd z (aFI _)) λz=>absurd z (by decide)) λ_=>KeyOrd.kle_of_klt lt) q
def rB (hO:WY f A s κ)(h0:KeysOf κ aa)(hn:n<=aa.size)(hk:k<=n)(B:TB f aa st)(S:SortedToK κ (arrOf st) k){Q:Bool->SortSt->Prop}(q:∀t,TB f aa t->SortedToK κ (arrOf t) n->Q true t):
  wpS (a9 prog w) A E s (binarySort' 0 n k) Q st:=by
 rw[binarySort'_eq];simp only[aDR];have S0:SortedToK κ (arrOf st) (min (max k 1) n):=λi j H N=>by
  rcases Nat.eq_or_lt_of_le H with rfl|ai
  .exact KeyOrd.kle_refl _
  .exact S i j H (by lia)
 refine aBB (wpS_mono (Q:=λr t=>r=(none,())/\TB f aa t/\SortedToK κ (arrOf t) n) (aEq (I:=λx r t=>r=(none,())/\TB f aa t/\SortedToK κ (arrOf t) (min x n)) (λx r t l1 l2 ⟨e,h,g⟩=>?step) (λr t ⟨e,h,g⟩=>⟨e,h,?fin⟩) ⟨rfl,B,S0⟩) λr t ⟨e,h,g⟩=>?post)
 case step=>
  subst e;rw[aFJ (aDx l2)]at g;have O:x<aa.size:=by lia
  let p (l:Nat):Prop:=∀i,i<l->κ.kle (KK κ (arrOf t) i) (KK κ (arrOf t) x)
  let Top (r:Nat):Prop:=∀i,r<=i->i<x->κ.klt (KK κ (arrOf t) x) (KK κ (arrOf t) i)
  refine aBB (wpS_mono (Q:=λd u=>u=t/\∃l r,d=(none,l,r)/\l<=x/\p l/\Top l) (aEq (I:=λy d u=>u=t/\∃l r,d=(none,l,r)/\l<=r/\r<=x/\r-l<=x-y/\p l/\Top r) (λy d u _ y2 ⟨e,l,r,v,T,J,L,lo,o⟩=>?istep) (λd u ⟨e,l,r,v,T,J,L,lo,o⟩=>?ifin)
   ⟨rfl,0,x,rfl,aAM _,aAj _,aAj _,λ_ z=>absurd z (aFI _),λi a b=>absurd (aCQ a b) (aBv _)⟩) λd u ⟨e,l,r,v,lx,lo,o⟩=>?ipost)
  case istep=>
   subst e v;show wpS _ _ _ _ (if l>=r then _ else _) _ u;by_cases m:l>=r
   .rw[jk m];obtain rfl:l=r:=Nat.le_antisymm T m;exact aCs ⟨rfl,l,l,rfl,J,lo,o⟩
   .rw[ka m];dsimp only;refine aBB (ltT f hO h h0 O (by lia) ?_);cases z:κ.blt (KK κ (arrOf u) x) (KK κ (arrOf u)<|(l+r)/2)with
    |true=>exact aCs ⟨rfl,l,(l+r)/2,rfl,by lia,by lia,by lia,lo,λi a b=>KeyOrd.klt_of_klt_of_kle z (g _ i a b)⟩
    |false=>exact aCs ⟨rfl,(l+r)/2+1,r,rfl,by lia,by lia,by lia,λi a=>KeyOrd.kle_trans (g i ((l+r)/2) (by lia) (by lia)) z,o⟩
  case ifin=>
   subst e v;obtain rfl:l=r:=by lia
   exact⟨rfl,l,l,rfl,J,lo,o⟩
  case ipost=>
   subst e v;have hz:x<(arrOf u).size:=by rw[h.size];exact O
   show wpS _ _ _ _ (do moveDown' x l;pure (aCu (none,()))) _ u;rw[moveDown'_eq];refine aBB (wpS_modify<|aCs ⟨rfl,h.setArr (bubble_perm _ _ _),λi j H N=>?_⟩);have e:∀k,KK κ (arrOf<|setArr u<|bubble (arrOf u) x<|x-l) k=if k=l then KK κ (arrOf u) x else if l<k/\k<=x then KK κ (arrOf u) (k-1)else KK κ (arrOf u) k:=λk=>by have:=KK_bubble (κ:=κ) hz (Nat.sub_le x l) k;rw[show x-(x-l)=l by lia]at this;exact this
   have N:j<x+1:=by lia
   rw[e,e];by_cases U:i=l
   .rw[jk U];by_cases C:j=l
    .rw[jk C];exact KeyOrd.kle_refl _
    .rw[ka C,jk ⟨by lia,by lia⟩];exact KeyOrd.kle_of_klt (o _ (by lia) (by lia))
   .rw[ka U];by_cases C:j=l
    .rw[jk C,ka λz=>by lia];exact lo i (by lia)
    .rw[ka C];by_cases Y:l<i/\i<=x
     .rw[jk Y,jk ⟨by lia,by lia⟩];exact g _ _ (by lia) (by lia)
     .rw[ka Y];by_cases c4:l<j/\j<=x
      .rw[jk c4];exact g _ _ (by lia) (by lia)
      .rw[ka c4];exact g _ _ H (by lia)
 case fin=>rw[show min (max (max k 1) n) n=n by lia]at g;exact g
 case post=>subst e;exact aCs (q t h g)
def oH (f:Bool)(h:WY f A s κ)(h0:KeysOf κ aa)(B:TB f aa st)(y:2<=aa.size)(d:aa.size<64){Q:Unit->SortSt->Prop}(q:∀t,(arrOf t).Perm aa->failedOf t=none->SortedToK κ (arrOf t) aa.size->Q () t):wpS (a9 prog w) A E s sortRuns' Q st:=by
 have l:minRun' aa.size aa.size 0=aa.size:=by
  generalize C:aa.size=N at*
  cases N with
  |zero=>lia
  |succ N=>rw[minRun'_succ,jk d]
 let VD (t:SortSt):Prop:=(arrOf t).Perm aa/\failedOf t=none/\pendingOf t=#[(0,aa.size,0)]/\SortedToK κ (arrOf t) aa.size
 have done:∀t,TB f aa t->SortedToK κ (arrOf t) aa.size->VD (setPending t<|(pendingOf t).push (0,aa.size,0)):=λt a m=>⟨a.perm,a.failed,(kb (·.push (0,aa.size,0)) a.pend),m⟩;rw[sortRuns'_eq];refine aBB (wpS_get ?_);dsimp only;simp only[B.size,l];refine aBB (wpS_mono (Q:=λr t=>r=(none,aa.size)/\VD t) (aEq (I:=λx r t=>(x=0/\r=(none,0)/\TB f aa t)\/(0<x/\r=(none,aa.size)/\VD t)) (λx r t _ l2 I=>?step) (λr t I=>?fin)<|.inl ⟨rfl,rfl,B⟩) λr t ⟨e,D⟩=>?post)
 case step=>
  rcases I with⟨rfl,rfl,a⟩|⟨H,rfl,D⟩
  .show wpS _ _ _ _ (if 0>=aa.size then _ else _) _ t;rw[ka (by lia)];simp only[Nat.sub_zero,Nat.min_self,aDR];have fin:∀u,TB f aa u->(pendingOf u).back?=none:=λu b=>by rw[b.pend];rfl
   refine aBB (KS h h0 (aAj _) (by lia) a λn u b J o i=>?_);show wpS _ _ _ _ (if n<aa.size then _ else _) _ u;by_cases j:n<aa.size
   .rw[jk j];refine aBB (wpS_lift<|aDC ⟨rfl,aBB (rB h h0 (aAj _) o b i λv k p=>?_)⟩);simp only[aDf,aAt,if_false];refine aBB (wpS_get ?_);rw[fin v k];exact aBB (wpS_modify<|aCs<|.inr ⟨aGF _,rfl,done v k p⟩)
   .rw[ka j];obtain rfl:n=aa.size:=by lia
    refine aBB (wpS_get ?_);rw[fin u b];exact aBB (wpS_modify<|aCs<|.inr ⟨aGF _,rfl,done u b i⟩)
  .show wpS _ _ _ _ (if aa.size>=aa.size then _ else _) _ t;rw[jk (aAj _)];exact aCs ⟨rfl,D⟩
 case fin=>
  rcases I with⟨z,_⟩|⟨_,e,D⟩
  .lia
  .exact⟨e,D⟩
 case post=>
  subst e;refine aBB (wpS_mono (Q:=λr u=>u=t/\r=(none,())) (aEq (I:=λ_ r u=>u=t/\r=(none,())) (λ_ r u _ _ ⟨e,g⟩=>?istep) (λ_ _ z=>z) ⟨rfl,rfl⟩) λr u ⟨e,g⟩=>?ipost)
  case istep=>subst e g;refine aBB (wpS_get ?_);rw[jk (by rw[D.2.2.1];exact aAj 1)];exact aCs ⟨rfl,rfl⟩
  case ipost=>subst e g;exact aCs (q _ D.1 D.2.1 D.2.2.2)
end
section
def vk (a:a5)(s d:aA):Prop:=∀b o,b≠a->s.heap.get? b=some o->d.heap.get? b=some o
def AQ {P:Fin->aA->Prop}(q:s.heap.get? a=some (seqObj "list" L.toArray n))(h0:KeysOf κ (pairsOf L))(y:∀k,vk a s k->WY f A k κ)(t:2<=L.length->∀k,vk a s k->∀{Q:SortKind->aA->Prop},Q (tupK f) k->av (a9 prog w) A (keyKind' L.toArray) Q E k)(u:L.length<64)(h:∀d:SortSt,(arrOf d).Perm (pairsOf L)->SortedToK κ (arrOf d) (pairsOf L).size->P (.done (.ret .none)) {s with heap:=sortedHeap s.heap a L ((arrOf d).map (·.2))}):
  av (a9 prog w) A (Builtin.«list.sort» ⟨[.ref a],[]⟩) P E s:=by
 rw[list_sort_plain];have z:a<s.heap.objs.size:=aAf q;refine aAa (aEr q rfl ?_);refine aAa (listUpdate_at q rfl ?_);obtain⟨v,l⟩:∃v,(s.heap.update a<|aBQ λ_=>#[]).get? a=some (seqObj "list" #[] v):=⟨_,get?_update_seq q _⟩;refine aAa (seqEpoch_at l rfl<|aAa<|aFY<|aAa<|wpAny_newList<|aAN ?_);have B:a≠(s.heap.update a<|aBQ λ_=>#[]).objs.size:=by rw[Heap.size_update];exact aAl z
 have m:vk a s {s with heap:=((s.heap.update a<|aBQ λ_=>#[]).push (seqObj "tuple" L.toArray 0)).push (seqObj "list" #[] 0)}:=λb o C e=>aAc _ (aAc _<|(aAF _ _<|aCA C).trans e)
 have g:(((s.heap.update a<|aBQ λ_=>#[]).push (seqObj "tuple" L.toArray 0)).push (seqObj "list" #[] 0)).get? a=some (seqObj "list" #[] v):=aAc _ (aAc _ l);show av (a9 prog w) A _ P E {s with heap:=((s.heap.update a<|aBQ λ_=>#[]).push (seqObj "tuple" L.toArray 0)).push (seqObj "list" #[] 0)};dsimp only;have U:L.toArray.size=L.length:=by simp
 have p:=h;by_cases r:L.toArray.size<2
 .rw[jk r,jk r];refine aAa (aAb ?_);rw[StateT.run_pure];refine aAa (aAb ?_);dsimp only;refine aAa (seqEpoch_at g rfl (aAa (listUpdate_at g rfl ?_ (hsz2:=by rw[Array.size_map];show(pairsOf L).size<=_;rw[aFa,aFr];lia))));simp only[bne_self_eq_false,aAt,if_false];refine aAb (p (SortSt.mk' general' (L.toArray.zip L.toArray) #[] 7 none) (aGI _) λi j Y H=>?_);have:i=j:=by rw[aFa]at H;lia
  subst this;exact KeyOrd.kle_refl _
 .rw[ka r,ka r];refine aAa (t (by lia) _ m ?_);refine aAa (aCI (oH f (κ:=κ) (y _ m) (aa:=pairsOf L) (st:=SortSt.mk' (tupK f) (L.toArray.zip L.toArray) #[] 7 none) (Q:=λ_ d=>(arrOf d).Perm (pairsOf L)/\failedOf d=none/\SortedToK κ (arrOf d) (pairsOf L).size)
   h0 ⟨aGI _,rfl,rfl,rfl⟩ (by rw[aFa];lia) (by rw[aFa];exact u) λd I J N=>⟨I,J,N⟩) ?_ λ_ _ e=>e)
  rintro⟨⟨⟩,d⟩ s' ⟨rfl,x,O,T⟩;dsimp only;refine aAa (seqEpoch_at g rfl (aAa (listUpdate_at g rfl ?_ (hsz2:=by refine aAs (aEs<|(Array.size_map ..).trans (x.size_eq.trans<|aFa _)) ?_;rw[aFr];lia))));rw[O];simp only[bne_self_eq_false,aAt,if_false];exact aAb (p d x T)
end
end TS
namespace L2
open PySem PySem.Spec PyProof.Rows
abbrev AE:=Sum Int Str
def NU:AE->ao->Bool
 |.inl k,v=>Value.isInt k v
 |.inr x,v=>Value.isStrOf x v
def a4g (w:be):AE->Int
 |.inl k=>hashInt k
 |.inr x=>hashStr w x
theorem B9:∀{k:AE} {v:ao},NU k v=true->(∃i t,k=aGt i/\v=aGJ i t)\/(∃x t,k=aGu x/\v=Value.str x t)
 |.inl i,v,h=>by obtain⟨t,e⟩:=Value.isInt_shape (k:=i) (v:=v) h;exact .inl ⟨i,t,rfl,e⟩
 |.inr x,v,h=>by obtain⟨t,e⟩:=Value.isStrOf_shape (x:=x) (v:=v) h;exact .inr ⟨x,t,rfl,e⟩
def bz (a b:Int):decide ((aGt a:AE)=aGt b)=(a==b):=by
 by_cases e:a=b
 .subst e;simp
 .have h:¬(aGt a:AE)=aGt b:=λq=>e (Sum.inl.inj q);rw[decide_eq_false h];exact(beq_eq_false_iff_ne.mpr e).symm
def ZT (a b:Str):decide ((aGu a:AE)=aGu b)=decide (a=b):=by
 by_cases e:a=b
 .subst e;simp
 .have h:¬(aGu a:AE)=aGu b:=λq=>e (Sum.inr.inj q);rw[decide_eq_false h,decide_eq_false e]
def ax (a:Int)(b:Str):decide ((aGt a:AE)=aGu b)=false:=decide_eq_false (λq=>nomatch q)
def lq (a:Str)(b:Int):decide ((aGu a:AE)=aGt b)=false:=decide_eq_false (λq=>nomatch q)
def vO (prog:ba)(w:be):PySem.KeyKind prog w AE where
 is:=NU
 hash:=a4g w
 inj:=λv a b l g=>by
  rcases B9 l with⟨i,t,rfl,rfl⟩|⟨x,t,rfl,rfl⟩
  .rcases B9 g with⟨j,u,rfl,e⟩|⟨y,u,rfl,e⟩
   .injection e with d _;rw[d]
   .exact nomatch e
  .rcases B9 g with⟨j,u,rfl,e⟩|⟨y,u,rfl,e⟩
   .exact nomatch e
   .injection e with d _;rw[d]
 byValue:=λk v h=>by rcases B9 h with⟨i,t,rfl,rfl⟩|⟨x,t,rfl,rfl⟩<;>rfl
 pyHash:=λf h=>by
  rcases B9 f with⟨i,t,rfl,rfl⟩|⟨x,t,rfl,rfl⟩
  .exact wpAny_pyHash_int h
  .exact wpAny_pyHash_str h
 eqBool:=λm f h=>by
  rcases B9 m with⟨i,t,rfl,rfl⟩|⟨x,t,rfl,rfl⟩
  .rcases B9 f with⟨j,u,rfl,rfl⟩|⟨y,u,rfl,rfl⟩
   .rw[bz]at h;exact wpAny_eqBool_int h
   .rw[ax]at h;exact aGm i t y u _ _ _ _ h
  .rcases B9 f with⟨j,u,rfl,rfl⟩|⟨y,u,rfl,rfl⟩
   .rw[lq]at h;exact aGn x t j u _ _ _ _ h
   .rw[ZT]at h;exact wpAny_eqBool_str h
 «strs»:=λk x t v h=>by
  rcases B9 h with⟨i,u,rfl,e⟩|⟨y,u,rfl,e⟩
  .exact nomatch e
  .injection e with d _;subst d;cases v<;>rfl
def mw (prog:ba)(w:be)(k:AE)(v:ao):(vO prog w).is k v=NU k v:=rfl
inductive V where
 |non|bl (b:Bool)|int (i:Int)|str (x:Str)|byt (b:Array UInt8)|flt (b:UInt64)|ref (a:Addr)|ty (n:String)
 deriving DecidableEq
def RelV:V->ao->Prop
 |.non,u=>u=Value.none
 |.bl b,u=>u=aDD b
 |.int i,u=>∃t,u=aGJ i t
 |.str x,u=>∃t,u=Value.str x t
 |.byt b,u=>∃t,u=Value.bytes b t
 |.flt b,u=>∃t,u=Value.float b t
 |.ref a,u=>u=aDy a
 |.ty n,u=>u=aCy n
abbrev p9:List V->List ao->Prop:=Paired RelV
def p9.length {Y:List V}{a:List ao}(r:p9 Y a):Y.length=a.length:=Paired.length r
theorem p9.get:∀{Y:List V} {a:List ao} {i:Nat} {x:V},p9 Y a->Y[i]?=some x->∃u,a[i]?=some u/\RelV x u
 |_,_,_,_,.nil,e=>by simp at e
 |_,_,0,_,.cons r _,e=>by simp at e;subst e;exact⟨_,rfl,r⟩
 |_,_,i+1,x,.cons _ t,e=>by obtain⟨u,b,d⟩:=p9.get (i:=i) (x:=x) t (by simpa using e);exact⟨u,by simpa using b,d⟩
theorem p9.append:∀{Y ys:List V} {a ws:List ao},p9 Y a->p9 ys ws->p9 (Y++ys) (a++ws)
 |_,_,_,_,.nil,s=>s
 |_,_,_,_,.cons r t,s=>.cons r (p9.append t s)
theorem p9.take:∀{Y:List V} {a:List ao} (n:Nat),p9 Y a->p9 (Y.take n) (a.take n)
 |_,_,0,_=>.nil
 |_,_,_+1,.nil=>.nil
 |_,_,n+1,.cons r t=>.cons r (p9.take n t)
theorem p9.drop:∀{Y:List V} {a:List ao} (n:Nat),p9 Y a->p9 (Y.drop n) (a.drop n)
 |_,_,0,r=>r
 |_,_,_+1,.nil=>.nil
 |_,_,n+1,.cons _ t=>p9.drop n t
def a0y:Option V->Option ao->Prop
 |some v,some u=>RelV v u
 |none,none=>True
 |_,_=>False
def KV {κ:Type}:List (κ×V)->List (κ×ao)->Prop:=Paired λ(p:κ×V) (q:κ×ao)=>p.1=q.1/\RelV p.2 q.2
def kV:AE->V
 |.inl i=>.int i
 |.inr x=>.str x
inductive HO where
 |lst (Y:List V)
 |tup (Y:List V)
 |dK (N:List (AE×V))|dT (N:List (List AE×V))
 |set (S:Int->Bool) (n:Nat)
 |ins (C dx:Addr) (fs:List (Str×V))
 |own (x:Addr)
 |xd (fs:List (Str×V))
 |met (f x:Addr)
 |rng (lo hi:Int)
 |frz (o:Obj) (u:HO)
 |tbl (tb:List (Pos×Str))
 |ext (φ:Heap->Prop)
abbrev Hp:=a5->Option HO
def upd (H:Hp)(a:a5)(o:HO):Hp:=λb=>if b=a then some o else H b
def j8:upd H a o a=some o:=by unfold upd;rw[jk rfl]
def m9 (h:b≠a):upd H a o b=H b:=by unfold upd;rw[ka h]
def u9 {H:Hp}{a b:a5}{o:HO}(h:H a=some o)(h':H b=none):a≠b:=by intro e;subst e;rw[h]at h';cases h'
section
variable(P:ba) (w:be)
def ObjOk (H:Hp)(h:bt)(a:a5):HO->Prop
 |.lst Y=>Y.length<=sizeLine/\∃(b:List ao) (n:Nat),p9 Y b/\h.get? a=some {cls:=.type "list",data:=.seq b.toArray n}
 |.tup Y=>Y.length<=sizeLine/\∃b:List ao,p9 Y b/\IsTup h a b.toArray
 |.dK N=>N.length<=sizeLine/\(a==fo)=false/\∃L,KV N L/\h.DictOf (vO P w) a L
 |.dT N=>N.length<=sizeLine/\(a==fo)=false/\∃Y:List (List AE×a5×ao),
  Paired (λ(p:List AE×V) (q:List AE×a5×ao)=>p.1=q.1/\H q.2.1=some (.tup (p.1.map kV))/\RelV p.2 q.2.2) N Y/\
  ∃o i m,h.get? a=some o/\o.ExactDict/\o.data=.dict i m/\i.toList=Y.map (entryOfKey<|tupleKind<|vO P w)/\(Y.map (·.1)).Nodup
 |.set S n=>h.SetOf (intKind P w) a S n
 |.ins C e fs=>H e=some (.own a)/\fs.length<=1000/\e≠a/\h.get? a=some (PySem.W.instObj C e)/\
  ∃d,h.Ns1 e d/\(∀f,a0y (fs.lookup f) (d f))/\PySem.Within d (fs.map (·.1))
 |.own _=>∃o,h.get? a=some o
 |.xd fs=>∃d,h.Ns1 a d/\∀f,a0y (fs.lookup f) (d f)
 |.rng lo r=>∃t u v,h.get? a=some {cls:=.type "range",data:=.fields #[.int lo t,.int r u,.int 1 v]}
 |.frz o u=>h.get? a=some o/\ObjOk H h a u
 |.tbl s=>∃g:Array ao,h.get? a=some {cls:=.none,data:=.fields g}/\TriplesOk g.toList/\∀p∈s,eR p.1 g.toList=none\/∃c j L t,eR p.1 g.toList=some (.ref c)/\H c=some (.frz j (.own c))/\j.data=.fields L/\L[1]?=some (.str p.2 t)
 |.met f x=>h.get? a=some (PySem.W.methodObj (.ref f)<|.ref x)
 |.ext φ=>φ h/\(∃o,h.get? a=some o)/\∀k l:bt,φ k->(∀o,k.get? a=some o->l.get? a=some o)->φ l
def ZQ:HO->Prop
 |.tup _=>True
 |.frz o _=>∃L,o.data=.fields L
 |_=>False
def gJ (H:Hp)(h:bt):Prop:=∀a o,H a=some o->ObjOk P w H h a o
end
section
variable{P:ba} {w:be} {H H':Hp} {h h':bt} {a:a5} {o:HO}
def ObjOk.lt (x:ObjOk P w H h a o):a<h.objs.size:=by
 cases o with
 |lst Y=>obtain⟨_,_,_,_,e⟩:=x;exact aAf e
 |tup Y=>obtain⟨_,_,_,p⟩:=x;exact p.lt
 |dK N=>obtain⟨_,_,_,_,o,_,_,e,_⟩:=x;exact aAf e
 |dT N=>obtain⟨_,_,_,_,o,_,_,e,_⟩:=x;exact aAf e
 |set S n=>obtain⟨o,_,_,_,e,_⟩:=x;exact aAf e
 |ins C b fs=>obtain⟨_,_,_,e,_⟩:=x;exact aAf e
 |own y=>obtain⟨_,e⟩:=x;exact aAf e
 |xd fs=>obtain⟨_,⟨_,_,_,e,_⟩,_⟩:=x;exact aAf e
 |rng lo d=>obtain⟨_,_,_,e⟩:=x;exact aAf e
 |frz g u=>obtain⟨e,_⟩:=x;exact aAf e
 |tbl i=>obtain⟨_,e,_⟩:=x;exact aAf e
 |met f y=>exact aAf (show h.get? a=some _ from x)
 |ext φ=>obtain⟨_,⟨_,e⟩,_⟩:=x;exact aAf e
theorem Paired.af0 {α β:Type}{F G:α->β->Prop}:∀{l₁:List α} {l₂:List β},Paired F l₁ l₂->(∀a b,F a b->G a b)->Paired G l₁ l₂
 |_,_,.nil,_=>.nil
 |_,_,.cons r t,f=>.cons (f _ _ r) (Paired.af0 t f)
def ObjOk.ac0 (x:ObjOk P w H h a o)(k:∀b u,(b=a\/H b=some (.own a))->h.get? b=some u->h'.get? b=some u)
  (I:∀b,H b=some (.own a)->H' b=some (.own a)) (B:∀b u,ZQ u->H b=some u->H' b=some u):ObjOk P w H' h' a o:=by
 induction o with
 |lst Y=>obtain⟨z,l,n,r,e⟩:=x;exact⟨z,l,n,r,k _ _ (.inl rfl) e⟩
 |tup Y=>obtain⟨z,l,r,g,e,c⟩:=x;exact⟨z,l,r,g,k _ _ (.inl rfl) e,c⟩
 |dK N=>obtain⟨z,y,L,r,g,i,j,e,c⟩:=x;exact⟨z,y,L,r,g,i,j,k _ _ (.inl rfl) e,c⟩
 |dT N=>obtain⟨z,y,Y,r,g,i,j,e,c⟩:=x;exact⟨z,y,Y,Paired.af0 r λp q z=>⟨z.1,B _ _ trivial z.2.1,z.2.2⟩,g,i,j,k _ _ (.inl rfl) e,c⟩
 |set S n=>obtain⟨g,i,j,t,e,c⟩:=x;exact⟨g,i,j,t,k _ _ (.inl rfl) e,c⟩
 |ins C dx fs=>obtain⟨d,z,ne,e,m,⟨s,i,j,A,c⟩,r⟩:=x;exact⟨I _ d,z,ne,k _ _ (.inl rfl) e,m,⟨s,i,j,k _ _ (.inr d) A,c⟩,r⟩
 |own y=>obtain⟨g,e⟩:=x;exact⟨g,k _ _ (.inl rfl) e⟩
 |xd fs=>obtain⟨m,⟨s,i,j,e,c⟩,r⟩:=x;exact⟨m,⟨s,i,j,k _ _ (.inl rfl) e,c⟩,r⟩
 |rng lo hi=>obtain⟨t,u,v,e⟩:=x;exact⟨t,u,v,k _ _ (.inl rfl) e⟩
 |frz g u J=>obtain⟨e,q⟩:=x;exact⟨k _ _ (.inl rfl) e,J q⟩
 |tbl tb=>obtain⟨O,e,t,f⟩:=x;exact⟨O,k a _ (.inl rfl) e,t,λp Q=>(f p Q).imp id λ⟨c,T,L,t,U,A,E⟩=>⟨c,T,L,t,U,B _ _ ⟨L,E.1⟩ A,E⟩⟩
 |met f y=>have e:h.get? a=some (PySem.W.methodObj (.ref f)<|.ref y):=x;show h'.get? a=some (PySem.W.methodObj (.ref f)<|.ref y);exact k a _ (.inl rfl) e
 |ext φ=>obtain⟨p,⟨o,e⟩,st⟩:=x;exact⟨st _ _ p λo q=>k _ _ (.inl rfl) q,⟨o,k _ _ (.inl rfl) e⟩,st⟩
def gJ.lt (x:gJ P w H h)(e:H a=some o):a<h.objs.size:=(x a o e).lt
def gJ.fresh (x:gJ P w H h)(e:h.objs.size<=a):H a=none:=by
 cases q:H a with
 |none=>rfl
 |some u=>exact absurd (aAv (x.lt q) e) (aBv _)
def gJ.kept (x:gJ P w H h)(k:∀b u,h.get? b=some u->h'.get? b=some u):gJ P w H h':=λa o e=>(x a o e).ac0 (λb u _ q=>k b u q) (λ_ q=>q) λ_ _ _ q=>q
def gJ.laid (x:gJ P w H h)(k:∀b u,h.get? b=some u->h'.get? b=some u)(i:h.objs.size<=a)(d:ObjOk P w (upd H a o) h' a o):gJ P w (upd H a o) h':=λb u e=>by
 have f:=x.fresh i;by_cases g:b=a
 .subst g;rw[j8]at e;cases e;exact d
 .rw[m9 g]at e;exact(x b u e).ac0 (λc v _ q=>k c v q) (λc q=>by rw[m9 (u9 q f)];exact q) λc Y _ q=>by rw[m9 (u9 q f)];exact q
end
def Rd (H:Hp)(a:a5)(u:HO):Prop:=H a=some u\/∃o,H a=some (.frz o u)
def Rd.ok (r:Rd H a u)(x:gJ P w H h):ObjOk P w H h a u:=by
 rcases r with r|⟨o,r⟩
 .exact x a u r
 .obtain⟨_,q⟩:=x a _ r;exact q
def Mut:Option HO->Prop
 |some (.lst _)=>True
 |some (.dK _)=>True
 |some (.dT _)=>True
 |some (.set _ _)=>True
 |some (.ins _ _ _)=>True
 |some (.ext _)=>True
 |_=>False
section
variable{P:ba} {w:be} {H:Hp} {h h':bt} {x e:a5} {o':HO}
def gJ.write (ok:gJ P w H h)(g:Mut (H x))(o:e=x\/H e=some (.own x))(k:∀b u,b≠e->h.get? b=some u->h'.get? b=some u)(m:∃u,h'.get? e=some u)
  (n:ObjOk P w (upd H x o') h' x o'):gJ P w (upd H x o') h':=λb u q=>by
 have a:∀c y,H c=some (.own y)->c≠x:=λc y r z=>by subst z;rw[r]at g;exact g
 have d:∀c u,ZQ u->H c=some u->c≠x:=λc u f r z=>by subst z;rw[r]at g;cases u<;>first|exact g|exact f
 by_cases i:b=x
 .subst i;rw[j8]at q;cases q;exact n
 .rw[m9 i]at q;by_cases j:b=e
  .have p:H b=some (.own x):=by
    rcases o with z|z
    .exact absurd (j.trans z) i
    .rw[j];exact z
   rw[q]at p;cases p;obtain⟨v,s⟩:=m;exact⟨v,by rw[j];exact s⟩
  .refine(ok b u q).ac0 (λc v l r=>k c v ?_ r) (λc r=>by rw[m9 (a c b r)];exact r) λc Y f r=>by rw[m9 (d c Y f r)];exact r
   rcases l with rfl|l
   .exact j
   .rintro rfl;rcases o with z|z
    .exact a c b l z
    .rw[l]at z;cases z;exact i rfl
end
structure Un (fs ex:List Addr)(H H':Hp)(h h':Heap):Prop where
 keep:∀b o,h.get? b=some o->H b=none->b∉fs->b∉ex->h'.get? b=some o
 slot:∀b o,h.get? b=some o->H b=none->b∈fs->b∉ex->∃sl,h'.get? b=some {o with slots:=sl}
 free:∀b o,h.get? b=some o->H b=none->b∉ex->H' b=none
 there:∀b o,h.get? b=some o->b∉ex->∃o',h'.get? b=some o'
 tups:∀b Y,H b=some (.tup Y)->H' b=some (.tup Y)
 frzs:∀b o u,H b=some (.frz o u)->H' b=some (.frz o u)
 tbls:∀b tb,H b=some (.tbl tb)->H' b=some (.tbl tb)
section
variable{fs xn ex ex':List a5} {H H1 H2:Hp} {h h1 h2 h':bt} {a x e:a5} {o:HO}
def Un.any (u:Un fs ex H H1 h h1)(q:h.get? b=some d)(n:H b=none)(f:b∉ex):∃sl,h1.get? b=some {d with slots:=sl}:=by
 by_cases g:b∈fs
 .exact u.slot b d q n g f
 .exact⟨d.slots,u.keep b d q n g f⟩
def Un.kept (k:∀b u,h.get? b=some u->h'.get? b=some u):Un fs ex H H h h':=
 ⟨λb d q _ _ _=>k b d q,λb d q _ _ _=>⟨d.slots,k b d q⟩,λ_ _ _ n _=>n,λb d q _=>⟨d,k b d q⟩,λ_ _ q=>q,λ_ _ _ q=>q,λ_ _ q=>q⟩
def Un.refl:Un fs ex H H h h:=Un.kept λ_ _ q=>q
def Un.laid (k:∀b u,h.get? b=some u->h'.get? b=some u)(f:h.objs.size<=a)(d:H a=none):Un fs ex H (upd H a o) h h' where
 keep:=λb u q _ _ _=>k b u q
 slot:=λb u q _ _ _=>⟨u.slots,k b u q⟩
 free:=λb u q n _=>by rw[m9 (aAl<|aAv (aAf q) f)];exact n
 there:=λb u q _=>⟨u,k b u q⟩
 tups:=λb Y q=>by rw[m9 (u9 q d)];exact q
 frzs:=λb u Y q=>by rw[m9 (u9 q d)];exact q
 tbls:=λb g q=>by rw[m9 (u9 q d)];exact q
def Un.write (d:Mut (H x))(m:e=x\/H e=some (.own x))(k:∀b u,b≠e->h.get? b=some u->h'.get? b=some u)(f:∃u,h'.get? e=some u):Un fs ex H (upd H x o) h h':=by
 have i:∀b,H b=none->b≠x:=λb n z=>by subst z;rw[n]at d;exact d
 have j:∀b,H b=none->b≠e:=λb n z=>by
  subst z;rcases m with r|r
  .exact i b n r
  .rw[n]at r;cases r
 have g:∀b u,H b=some u->¬Mut (some u)->b≠x:=λb u q p z=>by subst z;rw[q]at d;exact p d
 refine⟨λb u q n _ _=>k b u (j b n) q,λb u q n _ _=>⟨u.slots,k b u (j b n) q⟩,λb u q n _=>by rw[m9 (i b n)];exact n,λb u q _=>?_,
  λb Y q=>by rw[m9 (g b _ q λz=>z)];exact q,λb u Y q=>by rw[m9 (g b _ q λz=>z)];exact q,λb s q=>by rw[m9 (g b _ q λz=>z)];exact q⟩
 by_cases l:b=e
 .subst l;exact f
 .exact⟨u,k b u l q⟩
end
def trk (h:bt)(H:Hp):List a5:=(aAQ h.objs.size).filter λa=>(H a).isSome
def sZ (h:bt)(H:Hp):bt:=PySem.W.hideAll h (trk h H)
def IS (h:bt)(H:Hp):(sZ h H).objs.size=h.objs.size:=PySem.W.hideAll_size _ _
def SX (e:h.get? b=some o)(n:H b=none):(sZ h H).get? b=some o:=
 PySem.W.hideAll_get _ e λa=>by have q:(H b).isSome=true:=(aBS.mp a).2;rw[n]at q;simp at q
def XG (e:(sZ h H).get? b=some o):h.get? b=some o/\H b=none:=by
 have a:h.get? b=some o:=PySem.W.of_hideAll (trk h H) e;refine⟨a,?_⟩;cases q:H b with
 |none=>rfl
 |some x=>have d:b∈trk h H:=aBS.mpr ⟨aBA.mpr (aAf a),by simp[q]⟩;have z:(sZ h H).get? b=none:=PySem.W.hideAll_none (trk h H) d;rw[z]at e;cases e
def XH (g h:bt)(L:a5):List (a5×Obj):=(aAQ h.objs.size).filterMap λa=>if a=L\/(g.get? a).isSome=true then none else(h.get? a).map λo=>(a,o)
def rest (g h:bt)(L d:a5):List (a5×Obj):=(XH g h L).filter λp=>decide (p.1≠d)
structure Mod (K:PySem.W.Frag)(mg:cV)(base:Heap):Prop where
 kin:K.In base
 glob:base.Ns mainGlobals mg
 blt:∃mb,base.Ns builtinsNs mb/\∀x:Str,x≠ "__name__"->mb x=bootBuiltins x
 nolimit:base.NoLimit
structure Cx where
 prog:Program
 w:World
 K:PySem.W.Frag
 mg:Str->Option Value
 base:Heap
 A:Around
 N:List Str
 s9:Shared
 H9:Hp
 env:Env
 outer:List Env
 stack:List Env
 ex:List Addr
 fn:Str->Bool
 calm:Bool
 pn:List (Addr×Obj)
 xe:Value->Shared->Prop
def yE (l:List Env):List a5:=l.filterMap (·.frame)
abbrev Cx.fs (X:Cx):List a5:=yE X.outer
def yD (sc:iu)(x:Str):Prop:=sc.names.lookup x=some .local\/sc.names.lookup x=some .cell\/sc.names.lookup x=some .free
def Loc (sc:iu)(x:Str):Prop:=sc.names.lookup x=some .local\/sc.names.lookup x=some .cell
def Look (env:Env)(h:bt)(m:cV)(x:Str)(u:ao):Prop:=
 (env.kindOf x=some .local/\m x=some u)\/((env.kindOf x=some .cell\/env.kindOf x=some .free)/\∃c,env.cells.lookup x=some c/\h.IsCell c (some u))
structure Cx.Ok (X:Cx):Prop where
 mod:Mod X.K X.mg X.base
 kind:X.env.scope.kind=.function
 glob:X.env.globals=mainGlobals
 blt:X.env.builtins=builtinsNs
 above:X.s9.heap.objs.size<=X.env.locals
 inj:∀x y c,X.env.cells.lookup x=some c->X.env.cells.lookup y=some c->x=y
 has:∀x,(X.env.kindOf x=some .cell\/X.env.kindOf x=some .free)->∃c,X.env.cells.lookup x=some c
 cab:∀x c,X.fn x=true->X.env.cells.lookup x=some c->X.s9.heap.objs.size<=c
 hd:X.calm=true->X.A.handled=none
 frames:X.A.frames=some X.stack
 stk:X.stack=X.outer\/(X.stack=X.env::X.outer/\X.env.frame=some X.env.locals)
 exf:∀b∈X.ex,b≠X.env.locals/\∀x c,X.env.cells.lookup x=some c->c≠b
 bs:∀b o,X.base.get? b=some o->X.s9.heap.get? b=some o/\X.H9 b=none
 bsz:X.base.objs.size<=X.s9.heap.objs.size
 noex:∀b o,X.base.get? b=some o->b∉X.ex
 exfs:∀b∈X.ex,b∉X.fs
 funs:X.s9.heap.FunFrames X.base X.outer
 frf:∀b∈X.fs,X.H9 b=none
structure Inv (X:Cx)(pins:R0)(σ:List (Option V))(H:Hp)(s:Shared):Prop where
 ok:X.Ok
 os:s.os=X.s9.os
 bare:AllBare s.gens
 base:Un X.fs X.ex X.H9 H X.s9.heap s.heap
 loc:∃m,s.heap.Ns X.env.locals m/\∀(i:Nat) (x:Str) (v:V),X.N[i]?=some x->σ[i]?=some (some v)->yD X.env.scope x->∃u,RelV v u/\Look X.env s.heap m x u
 cell:∀x c,X.env.cells.lookup x=some c->∃v,s.heap.IsCell c v
 free:H X.env.locals=none
 freeC:∀x c,X.env.cells.lookup x=some c->H c=none
 pin:∀p∈X.pn++pins,s.heap.get? p.1=some p.2/\H p.1=none/\p.1≠X.env.locals/\p.1∉X.fs/\∀v,p.2.data≠.cell v
 hok:gJ X.prog X.w H s.heap
 len:σ.length=X.N.length
section
variable{X:Cx} {pins:R0} {σ:List (Option V)} {H H':Hp} {s:aA} {h':bt}
def Cx.Ok.nofr (ok:X.Ok)(e:X.base.get? b=some o):b∉X.fs:=λa=>by have:=(ok.funs.mem a).1;rw[e]at this;cases this
def Inv.bs (I:Inv X pins σ H s):∀b o,X.base.get? b=some o->s.heap.get? b=some o/\H b=none:=λb o e=>⟨I.base.keep b o (I.ok.bs b o e).1 (I.ok.bs b o e).2 (I.ok.nofr e) (I.ok.noex b o e),I.base.free b o (I.ok.bs b o e).1 (I.ok.bs b o e).2 (I.ok.noex b o e)⟩
def Inv.bk (I:Inv X pins σ H s):∀b o,X.base.get? b=some o->s.heap.get? b=some o:=λb o e=>(I.bs b o e).1
def Inv.mod (I:Inv X pins σ H s):Mod X.K X.mg X.base:=I.ok.mod
def Inv.kIn (I:Inv X pins σ H s):X.K.In s.heap:=I.ok.mod.kin.keeps I.bk
def Inv.lt (I:Inv X pins σ H s):X.env.locals<s.heap.objs.size:=let⟨_,a,_⟩:=I.loc;a.lt
def Inv.sz (I:Inv X pins σ H s):X.s9.heap.objs.size<=s.heap.objs.size:=aAs I.ok.above (aDx I.lt)
def Inv.ag0 (I:Inv X pins σ H s)(h:s.heap.objs.size<=a):a∉X.fs:=λb=>by obtain⟨_,o,d,_⟩:=I.ok.funs.mem b;exact absurd (aAv (aAf d)<|aAs I.sz h) (aBv _)
def Inv.cne (I:Inv X pins σ H s):∀x c,X.env.cells.lookup x=some c->c≠X.env.locals:=λx c e z=>by obtain⟨v,o,a,b⟩:=I.cell x c e;obtain⟨m,⟨g,h,i,d,f,_⟩,_⟩:=I.loc;rw[z,d]at a;cases a;rw[f]at b;cases b
def Inv.funs (I:Inv X pins σ H s):s.heap.FunFrames X.base X.outer:=by
 have all:∀(l:List Env),(∀b∈yE l,b∈X.fs)->X.s9.heap.FunFrames X.base l->s.heap.FunFrames X.base l:=by
  intro l;induction l with
  |nil=>intro _ _;trivial
  |cons h r i=>intro g j;obtain⟨k,⟨L,o,a,m,n,p⟩,q⟩:=j;have d:L∈X.fs:=g L (by unfold yE;rw[aCL,a];exact aBp);obtain⟨t,e⟩:=I.base.slot L o n (I.ok.frf L d) d λz=>I.ok.exfs L z d;exact⟨k,⟨L,_,a,m,e,p⟩,i (λb f=>g b (by unfold yE;rw[aCL,a];exact aAe _ f)) q⟩
 exact all X.outer (λ_ f=>f) I.ok.funs
def Inv.stack (I:Inv X pins σ H s):s.heap.FunFrames X.base X.stack:=by
 rcases I.ok.stk with e|⟨e,a⟩
 .rw[e];exact I.funs
 .rw[e];obtain⟨m,b,_⟩:=I.loc;refine .cons (by rw[I.ok.kind];decide) a b ?_ I.funs;exact aEB (aAs I.ok.bsz I.ok.above)
def Inv.ab4 (I:Inv X pins σ H s):∀b∈yE X.stack,b∈X.env.locals::X.fs:=λb a=>by
 rcases I.ok.stk with e|⟨e,d⟩
 .rw[e]at a;exact aAe _ a
 .rw[e]at a;unfold yE at a;rw[aCL,d]at a;exact a
def Inv.ad5 (I:Inv X pins σ H s):∀b∈yE X.stack,H b=none:=λb a=>by
 rcases aAd.mp (I.ab4 b a)with e|a
 .rw[e];exact I.free
 .obtain⟨_,o,d,_⟩:=I.ok.funs.mem a;exact I.base.free b o d (I.ok.frf b a) λz=>I.ok.exfs b z a
def Inv.step {g':Array GenState}{t':Nat}{d':Drawn}{ch:List a5}(I:Inv X pins σ H s)
  (E:∀b∈ch,(b∈X.ex\/X.s9.heap.objs.size<=b)/\b≠X.env.locals/\(∀x c,X.env.cells.lookup x=some c->c≠b)/\∀p∈X.pn++pins,p.1≠b)
  (g:∀b o,b≠X.env.locals->b∉X.fs->b∉ch->s.heap.get? b=some o->H b=none->h'.get? b=some o)
  (slot:∀b o,b≠X.env.locals->b∈X.fs->b∉ch->s.heap.get? b=some o->H b=none->∃sl,h'.get? b=some {o with slots:=sl}) (f:∀b o,b∉ch->s.heap.get? b=some o->H b=none->H' b=none)
  (y:∀b o,b∉ch->s.heap.get? b=some o->∃J,h'.get? b=some J)
  (L:∀b Y,H b=some (.tup Y)->H' b=some (.tup Y)) (N:∀b o u,H b=some (.frz o u)->H' b=some (.frz o u)) (O:∀b tb,H b=some (.tbl tb)->H' b=some (.tbl tb))
  (ns:∀m,s.heap.Ns X.env.locals m->h'.Ns X.env.locals m) (T:gJ X.prog X.w H' h') (hg:AllBare g'):
  Inv X pins σ H' {s with heap:=h',gens:=g',drawn:=d',toks:=t'}:=by
 have Q:∀b o,X.s9.heap.get? b=some o->b≠X.env.locals:=λb o e=>aAl (aAv (aAf e) I.ok.above);have t:∀b o,X.s9.heap.get? b=some o->b∉X.ex->b∉ch:=λb o e a A=>by
  rcases(E b A).1 with z|z
  .exact a z
  .exact absurd (aAv (aAf e) z) (aBv _)
 have h:∀x c,X.env.cells.lookup x=some c->∀v,s.heap.IsCell c v->h'.IsCell c v:=λx c e v ⟨o,C,U⟩=>by
  have j:c∉ch:=λz=>(E c z).2.2.1 x c e rfl;by_cases hc:c∈X.fs
  .obtain⟨sl,q⟩:=slot c o (I.cne x c e) hc j C (I.freeC x c e);exact⟨_,q,U⟩
  .exact⟨o,g c o (I.cne x c e) hc j C (I.freeC x c e),U⟩
 refine⟨I.ok,I.os,hg,⟨λb o e n A a=>?_,λb o e n A a=>?_,λb o e n a=>?_,λb o e a=>?_,λb Y e=>L b Y (I.base.tups b Y e),λb o Y e=>N b o Y (I.base.frzs b o Y e),λb ps e=>?_⟩,?_,λx c e=>?_,?_,λx c e=>?_,λp hp=>?_,T,I.len⟩
 .exact g b o (Q b o e) A (t b o e a) (I.base.keep b o e n A a) (I.base.free b o e n a)
 .obtain⟨sl,B⟩:=I.base.slot b o e n A a;obtain⟨sl',e2⟩:=slot b _ (Q b o e) A (t b o e a) B (I.base.free b o e n a);exact⟨sl',e2⟩
 .obtain⟨J,B⟩:=I.base.there b o e a;exact f b J (t b o e a) B (I.base.free b o e n a)
 .obtain⟨J,B⟩:=I.base.there b o e a;exact y b J (t b o e a) B
 .exact O b ps (I.base.tbls b ps e)
 .obtain⟨m,hn,hl⟩:=I.loc;refine⟨m,ns m hn,λi x v B e2 e3=>?_⟩;obtain⟨u,r,l⟩:=hl i x v B e2 e3;refine⟨u,r,?_⟩;rcases l with l|⟨k,c,e,z⟩
  .exact .inl l
  .exact .inr ⟨k,c,e,h x c e _ z⟩
 .obtain⟨v,z⟩:=I.cell x c e;exact⟨v,h x c e v z⟩
 .obtain⟨m,⟨o,_,_,C,_⟩,_⟩:=I.loc;exact f _ o (λz=>(E _ z).2.1 rfl) C I.free
 .obtain⟨v,o,C,U⟩:=I.cell x c e;exact f c o (λz=>(E c z).2.2.1 x c e rfl) C (I.freeC x c e)
 .obtain⟨e,n,ne,nf,d⟩:=I.pin p hp;have j:p.1∉ch:=λz=>(E p.1 z).2.2.2 p hp rfl;exact⟨g p.1 p.2 ne nf j e n,f p.1 p.2 j e n,ne,nf,d⟩
def Inv.un {t':Nat}(I:Inv X pins σ H s)(u:Un X.fs [] H H' s.heap h')(a:gJ X.prog X.w H' h'):Inv X pins σ H' {s with heap:=h',toks:=t'}:=by
 obtain⟨m,⟨o,p,q,h,r⟩,_⟩:=id I.loc;obtain⟨t,j⟩:=u.any h I.free (by simp);exact I.step (g':=s.gens) (d':=s.drawn) (ch:=[]) (λ_ z=>nomatch z) (λb o _ d _ e n=>u.keep b o e n d (by simp)) (λb o _ d _ e n=>u.slot b o e n d (by simp)) (λb o _ e n=>u.free b o e n (by simp)) (λb o _ e=>u.there b o e (by simp)) u.tups u.frzs u.tbls (λv k=>by obtain⟨x,f,g,i,l⟩:=k;rw[h]at i;cases i;exact⟨_,f,g,j,l⟩) a I.bare
def Inv.call {g':Array GenState}{t':Nat}{d':Drawn}{ch:List a5}(I:Inv X pins σ H s)(u:Un (yE X.stack) ch H H' s.heap h')(d:gJ X.prog X.w H' h')(l:AllBare g')
  (i:∀b∈ch,(b∈X.ex\/X.s9.heap.objs.size<=b)/\b≠X.env.locals/\(∀x c,X.env.cells.lookup x=some c->c≠b)/\∀p∈X.pn++pins,p.1≠b):
  Inv X pins σ H' {s with heap:=h',gens:=g',drawn:=d',toks:=t'}:=by
 obtain⟨m,⟨o,y,A,j,r⟩,_⟩:=id I.loc;obtain⟨B,f⟩:=u.any j I.free λz=>(i _ z).2.1 rfl;exact I.step (ch:=ch) i (λb o f q a e n=>u.keep b o e n (λz=>(aAd.mp<|I.ab4 b z).elim f q) a) (λb o _ _ a e n=>u.any e n a) (λb o a e n=>u.free b o e n a) (λb o a e=>u.there b o e a) u.tups u.frzs u.tbls (λC t=>by obtain⟨E,g,h,k,v⟩:=t;rw[j]at k;cases k;exact⟨_,g,h,f,v⟩) d l
def Inv.turned {t':Nat}{it:a5}(I:Inv X pins σ H s)(k:∀b o,b≠it->s.heap.get? b=some o->h'.get? b=some o)(g:H it=none)(f:it≠X.env.locals)
  (h:it∈X.ex\/X.s9.heap.objs.size<=it) (i:∀x c,X.env.cells.lookup x=some c->c≠it) (j:∀p∈X.pn++pins,p.1≠it):Inv X pins σ H {s with heap:=h',toks:=t'}:=by
 have d:∀b u,H b=some u->b≠it:=λb u e z=>by rw[z,g]at e;cases e
 refine I.step (g':=s.gens) (d':=s.drawn) (ch:=[it]) (λb l=>?_) (λb o _ _ a e _=>k b o (λz=>a (by simp[z])) e) (λb o _ _ a e _=>⟨o.slots,k b o (λz=>a (by simp[z])) e⟩) (λ_ _ _ _ n=>n)
  (λb o a e=>⟨o,k b o (λz=>a (by simp[z])) e⟩) (λ_ _ e=>e) (λ_ _ _ e=>e) (λ_ _ e=>e) (λm t=>?_) (λb u e=>?_) I.bare
 .have e:b=it:=by simpa using l
  subst e;exact⟨h,f,i,j⟩
 .obtain⟨o,w,y,A,r⟩:=t;exact⟨o,w,y,k _ o (aCA f) A,r⟩
 .refine(I.hok b u e).ac0 (λc v a q=>k c v ?_ q) (λ_ q=>q) λ_ _ _ q=>q;rcases a with z|z
  .rw[z];exact d b u e
  .exact d c _ z
def Inv.tok (I:Inv X pins σ H s)(t:Nat):Inv X pins σ H {s with toks:=t}:=I.un (h':=s.heap) (t':=t) Un.refl I.hok
def Inv.kept (I:Inv X pins σ H s)(k:∀b u,s.heap.get? b=some u->h'.get? b=some u):Inv X pins σ H {s with heap:=h',toks:=t'}:=I.un (Un.kept k) (I.hok.kept k)
def Inv.laid (I:Inv X pins σ H s)(k:∀b u,s.heap.get? b=some u->h'.get? b=some u)(d:s.heap.objs.size<=a)(e:ObjOk X.prog X.w (upd H a o) h' a o):
 Inv X pins σ (upd H a o) {s with heap:=h',toks:=t'}:=I.un (Un.laid k d<|I.hok.fresh d) (I.hok.laid k d e)
def Inv.write (I:Inv X pins σ H s)(f:Mut (H x))(g:e=x\/H e=some (.own x))(k:∀b u,b≠e->s.heap.get? b=some u->h'.get? b=some u)(a:∃u,h'.get? e=some u)(d:ObjOk X.prog X.w (upd H x o) h' x o):Inv X pins σ (upd H x o) {s with heap:=h',toks:=t'}:=I.un (Un.write f g k a) (I.hok.write f g k a d)
def Inv.ad4 (I:Inv X pins σ H s)(h:∀p∈a,s.heap.get? p.1=some p.2/\H p.1=none/\p.1≠X.env.locals/\p.1∉X.fs/\∀v,p.2.data≠.cell v):Inv X a σ H s:=
 ⟨I.ok,I.os,I.bare,I.base,I.loc,I.cell,I.free,I.freeC,λp b=>(aAL.mp b).elim (λz=>I.pin p (aBu _ z)) (h p),I.hok,I.len⟩
def zV {N:List Str}(d:N.Nodup){i j:Nat}{x:Str}(a:N[i]?=some x)(b:N[j]?=some x):i=j:=by obtain⟨g,e⟩:=aAw.mp a;obtain⟨h,f⟩:=aAw.mp b;exact(List.getElem_inj d).mp (e.trans f.symm)
def vI {M:Model}{A:bc}{E:E8}{i:Nat}{x:Str}{v:V}{u:ao}{Q:Unit->aA->Prop}(I:Inv X pins σ H s)(hN:X.N.Nodup)(U:X.N[i]?=some x)(B:Loc X.env.scope x)(r:RelV v u)
  (h:∀s',Inv X pins (σ.set i (some v)) H s'->(∃a,Heap.SameBut a s.heap s'.heap/\(a=X.env.locals\/X.env.cells.lookup x=some a))->Q () s') (hf:X.fn x=true\/X.env.scope.names.lookup x=some .local:=by first|exact .inl rfl|exact .inr rfl|assumption):av M A (storeName X.env x u) Q E s:=by
 obtain⟨m,hn,hl⟩:=id I.loc;have Y:(X.env.scope.kind==.class||(X.env.scope.kind==.module&&X.env.locals !=X.env.globals))=false:=by rw[I.ok.kind];rfl
 have J:i<σ.length:=by rw[I.len];exact(aAw.mp U).1
 have cne:=I.cne;have g:∀{a:a5} {h':bt},(∃o,s.heap.get? a=some o/\H a=none)->Heap.SameBut a s.heap h'->gJ X.prog X.w H h':=λ{a h'} ha f b ob e=>by
  obtain⟨_,_,jr⟩:=ha;refine(I.hok b ob e).ac0 (λc w' t q=>(f.2 c ?_).trans q) (λ_ q=>q) λ_ _ _ q=>q;rintro rfl;rcases t with rfl|t
  .rw[jr]at e;cases e
  .rw[jr]at t;cases t
 rcases B with L|L
 .refine wpAny_storeName_local L hn (λh' hn' f=>?_) Y;obtain⟨oL,_,_,hoL,_⟩:=id hn;refine h _ ⟨I.ok,I.os,I.bare,⟨λb o e n O B=>?_,λb o e n O B=>?_,I.base.free,λb o e B=>?_,I.base.tups,I.base.frzs,I.base.tbls⟩,⟨_,hn',λj y v' l C e3=>?_⟩,λy c e=>?_,I.free,I.freeC,λp hp=>?_,g ⟨oL,hoL,I.free⟩ f,by simpa using I.len⟩ ⟨_,f,.inl rfl⟩
  .exact(f.2 b (aAl<|aAv (aAf e) I.ok.above)).trans (I.base.keep b o e n O B)
  .obtain⟨sl,l⟩:=I.base.slot b o e n O B;exact⟨sl,(f.2 b (aAl<|aAv (aAf e) I.ok.above)).trans l⟩
  .obtain⟨o',l⟩:=I.base.there b o e B;exact⟨o',(f.2 b (aAl<|aAv (aAf e) I.ok.above)).trans l⟩
  .by_cases T:j=i
   .subst T;rw[U]at l;cases l;rw[aBI J]at C;cases C;exact⟨u,r,.inl ⟨L,by simp⟩⟩
   .rw[aCD (aCA T)]at C;obtain⟨u',r',q⟩:=hl j y v' l C e3;refine⟨u',r',?_⟩;rcases q with⟨k,e⟩|⟨k,c,e,z⟩
    .refine .inl ⟨k,?_⟩;have:y≠x:=λe=>T (zV hN l<|e▸U);simp[this,e]
    .exact .inr ⟨k,c,e,z.sameBut f (cne y c e)⟩
  .obtain⟨w',z⟩:=I.cell y c e;exact⟨w',z.sameBut f (cne y c e)⟩
  .obtain⟨e,n,ne,nf,d⟩:=I.pin p hp;exact⟨(f.2 p.1 ne).trans e,n,ne,nf,d⟩
 .have xp:X.fn x=true:=by
   rcases hf with z|z
   .exact z
   .rw[z]at L;cases L
  obtain⟨c,t⟩:=I.ok.has x (.inl L);obtain⟨w',z⟩:=I.cell x c t;refine wpAny_storeName_cell I.ok.kind L t z (λh' hc' f=>?_);obtain⟨oc,dc,hocd⟩:=id z;refine h {s with heap:=h'} ⟨I.ok,I.os,I.bare,⟨λb o e n O B=>?_,λb o e n O B=>?_,I.base.free,λb o e B=>?_,I.base.tups,I.base.frzs,I.base.tbls⟩,⟨m,hn.sameBut f (aCA<|cne x c t),λj y v' l C e3=>?_⟩,λy c' e=>?_,I.free,I.freeC,λp hp=>?_,g ⟨oc,dc,I.freeC x c t⟩ f,by simpa using I.len⟩ ⟨c,f,.inr t⟩
  .exact(f.2 b (aAl<|aAv (aAf e)<|I.ok.cab x c xp t)).trans (I.base.keep b o e n O B)
  .obtain⟨sl,l⟩:=I.base.slot b o e n O B;exact⟨sl,(f.2 b (aAl<|aAv (aAf e)<|I.ok.cab x c xp t)).trans l⟩
  .obtain⟨o',l⟩:=I.base.there b o e B;exact⟨o',(f.2 b (aAl<|aAv (aAf e)<|I.ok.cab x c xp t)).trans l⟩
  .by_cases T:j=i
   .subst T;rw[U]at l;cases l;rw[aBI J]at C;cases C;exact⟨u,r,.inr ⟨.inl L,c,t,hc'⟩⟩
   .rw[aCD (aCA T)]at C;obtain⟨u',r',q⟩:=hl j y v' l C e3;refine⟨u',r',?_⟩;rcases q with q|⟨k,c',e,z'⟩
    .exact .inl q
    .refine .inr ⟨k,c',e,z'.sameBut f ?_⟩;rintro rfl;exact T (zV hN l<|I.ok.inj _ _ _ e t▸U)
  .by_cases hcc:c'=c
   .subst hcc;exact⟨_,hc'⟩
   .obtain⟨w2,z2⟩:=I.cell y c' e;exact⟨w2,z2.sameBut f hcc⟩
  .obtain⟨e,n,ne,nf,d⟩:=I.pin p hp;refine⟨(f.2 p.1 ?_).trans e,n,ne,nf,d⟩;intro q;rw[q,dc]at e;have q':oc=p.2:=aAm e;exact d w' (by rw[<-q'];exact hocd)
def M8 {E:E8}{Q:Unit->aA->Prop}(I:Inv X pins σ H s)(a:X.N.Nodup)(b:X.N[i]?=some x)(d:Loc X.env.scope x)(r:RelV v u)(h:∀s',Inv X pins (σ.set i (some v)) H s'->Q () s')(e:X.fn x=true\/X.env.scope.names.lookup x=some .local:=by first|exact .inl rfl|exact .inr rfl|assumption):av M A (storeName X.env x u) Q E s:=
 vI I a b d r (λs' f _=>h s' f) e
def Inv.af6 (I:Inv X pins σ H s)(d:s'.os=s.os)(u:Un (yE X.stack) ch H H' s.heap s'.heap)(a:gJ X.prog X.w H' s'.heap)(f:AllBare s'.gens)(g:∀b∈ch,(b∈X.ex\/X.s9.heap.objs.size<=b)/\b≠X.env.locals/\(∀x c,X.env.cells.lookup x=some c->c≠b)/\∀p∈X.pn++pins,p.1≠b):Inv X pins σ H' s':=by obtain⟨h',g',d',t',h⟩:=s';have e:h=s.os:=d;subst e;exact I.call (g':=g') (t':=t') (d':=d') u a f g
end
abbrev XK:=ao->Option a5->Hp->Prop
abbrev St:=List (Option V)
abbrev VK:=V->Hp->Prop
abbrev TE:=St->Hp->VK->Prop
abbrev TT:=St->Hp->(Bool->Hp->Prop)->Prop
abbrev TA:=St->Hp->(List V->Hp->Prop)->Prop
structure Ends where
 nx:St->Hp->Prop
 rt:VK
 bk:St->Hp->Prop:=λ_ _=>False
 ct:St->Hp->Prop:=λ_ _=>False
abbrev TS:=Ends->St->Hp->Prop
def EP (X:Cx)(a:R0)(σ:St)(Q:VK)(u:ao)(s':aA):Prop:=∃v b,Inv X a σ b s'/\RelV v u/\Q v b
def TP (X:Cx)(a:R0)(σ:St)(Q:Bool->Hp->Prop)(b:Bool)(s':aA):Prop:=∃d,Inv X a σ d s'/\Q b d
def AP (X:Cx)(a:R0)(σ:St)(Q:List V->Hp->Prop)(d:List ao)(s':aA):Prop:=∃L b,Inv X a σ b s'/\p9 L d/\Q L b
def SP (X:Cx)(a:R0)(D:Ends)(f:Flow)(s':aA):Prop:=
 match f with
 |.next=>∃d b,Inv X a d b s'/\D.nx d b
 |.brk=>∃d b,Inv X a d b s'/\D.bk d b
 |.cont=>∃d b,Inv X a d b s'/\D.ct d b
 |.ret u=>∃v d b,Inv X a d b s'/\RelV v u/\D.rt v b
def PE (X:Cx)(e:cf)(t:TE):Prop:=
 ∀(a:R0) (s:aA) (σ:St) (H:Hp) (Q:VK),Inv X a σ H s->t σ H Q->av (a9 X.prog X.w) X.A (cv e X.env) (EP X a σ Q) X.xe s
def PT (X:Cx)(e:cf)(t:TT):Prop:=
 ∀(a:R0) (s:aA) (σ:St) (H:Hp) (Q:Bool->Hp->Prop),Inv X a σ H s->t σ H Q->av (a9 X.prog X.w) X.A (isTrue e X.env<|cv e X.env) (TP X a σ Q) X.xe s
def PW (X:Cx)(e:cf)(t:TT):Prop:=
 ∀(b:Sem ao) (a:R0) (s:aA) (σ:St) (H:Hp) (Q:Bool->Hp->Prop),Inv X a σ H s->t σ H Q->av (a9 X.prog X.w) X.A (isTrue e X.env b) (TP X a σ Q) X.xe s
def PW.pt (h:PW X e t):PT X e t:=h _
def PA (X:Cx)(es:List cf)(t:TA):Prop:=
 ∀(b:Pos) (a:R0) (s:aA) (σ:St) (H:Hp) (Q:List V->Hp->Prop),Inv X a σ H s->t σ H Q->av (a9 X.prog X.w) X.A (spliced<|cp b<|az es X.env) (AP X a σ Q) X.xe s
def PS (X:Cx)(st:bM)(t:TS):Prop:=
 ∀(a:R0) (s:aA) (σ:St) (H:Hp) (D:Ends),Inv X a σ H s->t D σ H->av (a9 X.prog X.w) X.A (exec st X.env) (SP X a D) X.xe s
def tL (X:Cx)(st:List bM)(t:TS):Prop:=
 ∀(a:R0) (s:aA) (σ:St) (H:Hp) (D:Ends),Inv X a σ H s->t D σ H->av (a9 X.prog X.w) X.A (execs st X.env) (SP X a D) X.xe s
def G5 {α:Type}{t:Sem α}{Q b:α->aA->Prop}{M:Model}{A:bc}{E:E8}{s:aA}(h:av M A t Q E s)(d:∀a s,Q a s->b a s):av M A t b E s:=aCI h d λ_ _ x=>x
section
variable{X:Cx}
def a1a (i:Nat):TE:=λσ H Q=>∃v,σ[i]?=some (some v)/\Q v H
def tC (v:V):TE:=λ_ H Q=>Q v H
def M1 (k:X.N[i]?=some x)(n:yD X.env.scope x)(f:(x==kd)=false:=by decide)(o:(x==km)=false:=by decide):PE X (.Name x p) (a1a i):=by
 intro d s σ H Q I h;obtain⟨v,e,h⟩:=h;obtain⟨m,q,t⟩:=I.loc;obtain⟨u,r,l⟩:=t i x v k e n;have a:EP X d σ Q u s:=⟨v,H,I,r,h⟩;rcases l with⟨b,w⟩|⟨b,c,g,j⟩
 .exact wpAny_Name (wpAny_loadName_local I.ok.kind b q w a) f
 .rcases b with b|b
  .exact wpAny_Name (wpAny_loadName_cell I.ok.kind b g j a) f
  .exact wpAny_Name (wpAny_loadName_free I.ok.kind b g j a o) f
def gz {i j a}:PE X (.Constant (.int i) j a) (tC (.int i)):=λ_ _ _ H _ I h=>wpAny_Constant_int ⟨.int i,H,I.tok _,⟨_,rfl⟩,h⟩
def a1l {b j a}:PE X (.Constant (.bool b) j a) (tC (.bl b)):=λ_ _ _ H _ I h=>Constant_bool ⟨.bl b,H,I,rfl,h⟩
def pk {j a}:PE X (.Constant .none j a) (tC .non):=λ_ _ _ H _ I h=>Constant_none ⟨.non,H,I,rfl,h⟩
def Gl (X:Cx)(x:Str):Prop:=X.env.kindOf x=some .globalImplicit
def wZ {E:E8}{Q:E8}(I:Inv X a σ H s)(b:Gl X x)(d:X.mg x=some u)(h:Q u s)(e:(x==kd)=false:=by decide):av (a9 X.prog X.w) X.A (cv (.Name x f) X.env) Q E s:=
 Calls.Name_function_global I.ok.kind b (Calls.loadGlobal_global (by rw[I.ok.glob];exact I.mod.glob.keeps I.bk) d h) e
def Q0 {E:E8}{Q:E8}(I:Inv X a σ H s)(b:Gl X x)(d:X.mg x=none)(e:cu x=some u)(h:Q u s)(f:x≠ "__name__":=by decide)(g:(x==kd)=false:=by decide):av (a9 X.prog X.w) X.A (cv (.Name x i) X.env) Q E s:=by obtain⟨l,j,k⟩:=I.mod.blt;exact Calls.Name_function_global I.ok.kind b (Calls.loadGlobal_builtin (by rw[I.ok.glob];exact I.mod.glob.keeps I.bk) d (by rw[I.ok.blt];exact j.keeps I.bk) ((k x f).trans e) h) g
def XZ (a:Gl X x)(b:X.mg x=some u)(r:RelV v u)(d:(x==kd)=false:=by decide):PE X (.Name x e) (tC v):=
 λ_ _ _ H _ I h=>wZ I a b ⟨v,H,I,r,h⟩ d
def UN (a:Gl X x)(b:X.mg x=none)(d:cu x=some u)(r:RelV v u)(e:x≠ "__name__":=by decide)(f:(x==kd)=false:=by decide):PE X (.Name x g) (tC v):=
 λ_ _ _ H _ I h=>Q0 I a b d ⟨v,H,I,r,h⟩ e f
variable{a b:cf} {ta tb:TE} {pos:Pos}
def tB (t:TE):TT:=λσ H Q=>t σ H λx d=>∃c,x=.bl c/\Q c d
def uw {e:cf}{t:TE}(h:PE X e t)(g:∀whole,isTrue e X.env whole=(do let v<-whole;standAt e.pos;hV [v] (truthy v)):=by intro _;rfl):PT X e (tB t):=by intro f s σ H Q I i;refine isTrue_plain (G5 (h f s σ H _ I i) λv n ⟨x,j,k,l,m⟩=>?_) (g _);obtain⟨d,rfl,q⟩:=m;cases l;exact aCb ⟨j,k,q⟩
variable{tA tB':TT} {rest:List cf}
def a3v (t u:TT):TT:=λσ H Q=>t σ H λc d=>if c=true then u σ d Q else Q false d
def tOr (t u:TT):TT:=λσ H Q=>t σ H λc d=>if c=true then Q true d else u σ d Q
def a2m (t:TT):TT:=λσ H Q=>t σ H λc d=>Q (!c) d
def VQ (f:PT X a tA):PW X (.BoolOp .And [a] pos) tA:=by
 intro g d s σ H Q I h;refine isTrue_and (G5 (f d s σ H Q I h) λc i e=>?_);cases c with
 |true=>exact isTrue_and_nil e
 |false=>exact e
def uk (f:PT X a tA):PW X (.BoolOp .Or [a] pos) tA:=by
 intro g d s σ H Q I h;refine isTrue_or (G5 (f d s σ H Q I h) λc i e=>?_);cases c with
 |false=>exact isTrue_or_nil e
 |true=>exact e
def qj (i:PT X a tA)(j:PW X (.BoolOp .And (b::rest) pos) tB'):PW X (.BoolOp .And (a::b::rest) pos) (a3v tA tB'):=by
 intro k d s σ H Q I h;refine isTrue_and (G5 (i d s σ H _ I h) λc l ⟨e,f,g⟩=>?_);cases c with
 |true=>exact j k d l σ e Q f g
 |false=>exact⟨e,f,g⟩
def a0z (i:PT X a tA)(j:PW X (.BoolOp .Or (b::rest) pos) tB'):PW X (.BoolOp .Or (a::b::rest) pos) (tOr tA tB'):=by
 intro k d s σ H Q I h;refine isTrue_or (G5 (i d s σ H _ I h) λc l ⟨e,f,g⟩=>?_);cases c with
 |true=>exact⟨e,f,g⟩
 |false=>exact j k d l σ e Q f g
def cx (e:PT X a tA):PT X (.UnaryOp .Not a pos) (a2m tA):=by intro d s σ H Q I h;exact isTrue_not (e d s σ H (λc f=>Q (!c) f) I h)
end
def P4 (K:kc)(H:Hp)(a:a5)(Y:List V):Prop:=
 Rd H a (.lst Y)\/
  ∃(o:Obj) (b:Array ao) (n:Nat),K.lookup a=some o/\o.cls=.type "list"/\o.dict=none/\o.data=.seq b n/\b.size<=sizeLine/\p9 Y b.toList
def Z0 (K:kc)(H:Hp)(a:a5)(Y:List V):Prop:=
 Rd H a (.tup Y)\/
  ∃(o:Obj) (b:Array ao) (n:Nat),K.lookup a=some o/\o.cls=.type "tuple"/\o.data=.seq b n/\b.size<=sizeLine/\p9 Y b.toList
def a3o:ao->Option V
 |.none=>some .non
 |.bool b=>some (.bl b)
 |.int i _=>some (.int i)
 |.str x _=>some (.str x)
 |.bytes b _=>some (.byt b)
 |.float b _=>some (.flt b)
 |.ref a=>some (.ref a)
 |.type n=>some (.ty n)
 |_=>none
def RelV.abs (r:RelV x u):a3o u=some x:=by
 cases x with
 |non=>cases r;rfl
 |bl _=>cases r;rfl
 |int _=>obtain⟨t,rfl⟩:=r;rfl
 |str _=>obtain⟨t,rfl⟩:=r;rfl
 |byt _=>obtain⟨t,rfl⟩:=r;rfl
 |flt _=>obtain⟨t,rfl⟩:=r;rfl
 |ref _=>cases r;rfl
 |ty _=>cases r;rfl
def RelV.inj {x y:V}{u:ao}(r:RelV x u)(q:RelV y u):x=y:=aAm (r.abs.symm.trans q.abs)
theorem p9.inj:∀{Y ys:List V} {a:List ao},p9 Y a->p9 ys a->Y=ys
 |_,_,_,.nil,.nil=>rfl
 |_,_,_,.cons r t,.cons b d=>by rw[r.inj b,p9.inj t d]
section
variable{X:Cx} {pins:R0} {σ:St} {H:Hp} {s:aA} {a:a5} {Y ys:List V}
def P4.of {K:kc}(h:H a=some (.lst Y)):P4 K H a Y:=.inl (.inl h)
def Z0.of {K:kc}(h:H a=some (.tup Y)):Z0 K H a Y:=.inl (.inl h)
def Inv.list (I:Inv X pins σ H s)(h:P4 X.K H a Y):∃b:List ao,p9 Y b/\PlainL s.heap a b.toArray/\Y.length<=sizeLine:=by
 rcases h with h|⟨o,b,n,d,f,g,i,j,r⟩
 .obtain⟨z,b,n,r,e⟩:=h.ok I.hok;exact⟨b,r,⟨_,n,e,rfl,rfl,rfl⟩,z⟩
 .refine⟨b.toList,r,⟨o,n,I.kIn a o d,f,g,by simpa using i⟩,?_⟩;have e:=r.length;simp only[aBj]at e
  lia
def Inv.tuple (I:Inv X pins σ H s)(h:Z0 X.K H a Y):∃b:List ao,p9 Y b/\IsTup s.heap a b.toArray/\Y.length<=sizeLine:=by
 rcases h with h|⟨o,b,n,d,f,g,i,r⟩
 .obtain⟨z,b,r,p⟩:=h.ok I.hok;exact⟨b,r,p,z⟩
 .refine⟨b.toList,r,⟨o,I.kIn a o d,f,n,by simpa using g⟩,?_⟩;have e:=r.length;simp only[aBj]at e
  lia
def Inv.ab9 (I:Inv X pins σ H s)(h:P4 X.K H a Y)(h':P4 X.K H a ys):Y=ys:=by
 obtain⟨f,r,⟨o,n,e,_,_,d⟩,_⟩:=I.list h;obtain⟨b,j,⟨l,m,g,_,_,i⟩,_⟩:=I.list h';rw[e]at g;cases g;rw[d]at i;injection i with k _;have:f=b:=by simpa using kb aFK k
 subst this;exact r.inj j
def Inv.ab3 (I:Inv X pins σ H s)(h:Z0 X.K H a Y)(h':Z0 X.K H a ys):Y=ys:=by
 obtain⟨f,r,⟨o,e,_,n,d⟩,_⟩:=I.tuple h;obtain⟨b,j,⟨l,g,_,m,i⟩,_⟩:=I.tuple h';rw[e]at g;cases g;rw[d]at i;injection i with k _;have:f=b:=by simpa using kb aFK k
 subst this;exact r.inj j
end
abbrev Cx.ac2 (X:Cx)(E:E8):Cx:={X with xe:=E}
abbrev Cx.nox (X:Cx):Cx:=X.ac2 λ_ _=>False
def Cx.Ok.ac2 {X:Cx}(ok:X.Ok)(E:E8):(X.ac2 E).Ok:=
 ⟨ok.mod,ok.kind,ok.glob,ok.blt,ok.above,ok.inj,ok.has,ok.cab,ok.hd,ok.frames,ok.stk,ok.exf,ok.bs,ok.bsz,ok.noex,ok.exfs,ok.funs,ok.frf⟩
def Cx.Ok.aa8 {X:Cx}{E:E8}(ok:(X.ac2 E).Ok):X.Ok:=
 ⟨ok.mod,ok.kind,ok.glob,ok.blt,ok.above,ok.inj,ok.has,ok.cab,ok.hd,ok.frames,ok.stk,ok.exf,ok.bs,ok.bsz,ok.noex,ok.exfs,ok.funs,ok.frf⟩
section
variable{X:Cx} {pins:R0} {σ:St} {H:Hp} {s:aA} {E:E8}
def Inv.ac2 (I:Inv X pins σ H s)(E:E8):Inv (X.ac2 E) pins σ H s:=⟨I.ok.ac2 E,I.os,I.bare,I.base,I.loc,I.cell,I.free,I.freeC,I.pin,I.hok,I.len⟩
def Inv.aa8 (I:Inv (X.ac2 E) pins σ H s):Inv X pins σ H s:=⟨I.ok.aa8,I.os,I.bare,I.base,I.loc,I.cell,I.free,I.freeC,I.pin,I.hok,I.len⟩
def SP.aa8 (h:SP (X.ac2 E) pins D f s'):SP X pins D f s':=by
 cases f with
 |next=>obtain⟨a,b,I,q⟩:=h;exact⟨a,b,I.aa8,q⟩
 |brk=>obtain⟨a,b,I,q⟩:=h;exact⟨a,b,I.aa8,q⟩
 |cont=>obtain⟨a,b,I,q⟩:=h;exact⟨a,b,I.aa8,q⟩
 |ret u=>obtain⟨v,a,b,I,r,q⟩:=h;exact⟨v,a,b,I.aa8,r,q⟩
def tL.nox {st:List bM}{t:TS}(h:tL X.nox st t):tL X st t:=λpins s σ H D I a=>aCI (h pins s σ H D (I.ac2 _) a) (λ_ _ q=>q.aa8) λ_ _ z=>aAh z
end
section
variable{X:Cx} {st:bM} {rest:List bM} {t u:TS} {e:cf} {te:TE} {pos:Pos}
def a0x:TS:=λD σ H=>D.nx σ H
def a2o (t u:TS):TS:=λD σ H=>t {D with nx:=u D} σ H
def YE:tL X [] a0x:=λ_ _ σ H _ I h=>aEG ⟨σ,H,I,h⟩
def AS (b:PS X st t)(d:tL X rest u):tL X (st::rest) (a2o t u):=by
 intro a s σ H D I h;refine aEv (G5 (b a s σ H {D with nx:=u D} I h) λf g q=>?_);cases f with
 |next=>obtain⟨i,j,k,q⟩:=q;exact d a g i j D k q
 |ret v=>exact q
 |brk=>exact q
 |cont=>exact q
def oM (b:PS X st t):tL X [st] t:=by
 intro a s σ H D I h;refine aEv (G5 (b a s σ H D I h) λf d q=>?_);cases f with
 |next=>exact aEG q
 |ret v=>exact q
 |brk=>exact q
 |cont=>exact q
def Inv.quiet (I:Inv X a σ H s):interactive X.env=false:=by simp[interactive,I.ok.kind]
def a0b (te:TE):TS:=λD σ H=>te σ H λ_ a=>D.nx σ a
def jP (b:PE X e te)(d:dA e none pos.line X.env=pure false:=by rfl):PS X (.Expr e pos) (a0b te):=by intro a s σ H D I h;exact wpAny_Expr_any (G5 (b a s σ H _ I h) λv j ⟨x,f,g,k,i⟩=>⟨σ,f,g,i⟩) I.quiet d
def a4c (te:TE):TS:=λD σ H=>te σ H D.rt
def wL (b:PE X e te):PS X (.Return (some e) pos) (a4c te):=by intro a s σ H D I h;exact wpAny_Return_some (G5 (b a s σ H _ I h) λv j ⟨x,d,f,g,i⟩=>⟨x,σ,d,f,g,i⟩)
def a3q (c:TT)(t u:TS):TS:=λD σ H=>c σ H λb a=>if b=true then t D σ a else u D σ a
def a0g {c:cf}{a b:List bM}{g:TT}(m:PT X c g)(n:tL X a t)(o:tL X b u):PS X (.If c a b pos) (a3q g t u):=by
 intro f s σ H D I h;refine wpAny_If (G5 (m f s σ H _ I h) λd i ⟨j,k,l⟩=>?_);cases d with
 |true=>exact n f i σ j D k l
 |false=>exact o f i σ j D k l
def iy:TS:=λ_ _ _=>False
def QZ:PS X st iy:=λ_ _ _ _ _ _ h=>h.elim
end
abbrev TG:=V->St->Hp->(St->Hp->Prop)->Prop
abbrev fq:=List V->St->Hp->(St->Hp->Prop)->Prop
def PG (X:Cx)(a:cf)(t:TG):Prop:=
 ∀(b:R0) (s:aA) (σ:St) (H:Hp) (v:V) (u:ao) (Q:St->Hp->Prop),Inv X b σ H s->RelV v u->t v σ H Q->
  av (a9 X.prog X.w) X.A (gB a X.env u) (λ_ f=>∃d e,Inv X b d e f/\Q d e) X.xe s
def xj (X:Cx)(f:List cf)(t:fq):Prop:=
 ∀(a:R0) (s:aA) (σ:St) (H:Hp) (L:List V) (b:List ao) (Q:St->Hp->Prop),Inv X a σ H s->p9 L b->t L σ H Q->
  av (a9 X.prog X.w) X.A (assignInOrder ((d3 f X.env).map (·.2)) b) (λ_ g=>∃d e,Inv X a d e g/\Q d e) X.xe s
abbrev UX:=V->V->V->Hp->(Hp->Prop)->Prop
def a1w (X:Cx)(t:UX):Prop:=
 ∀(a:R0) (s:aA) (σ:St) (H:Hp) (o i v:V) (b d u:ao) (Q:Hp->Prop),Inv X a σ H s->RelV o b->RelV i d->RelV v u->t o i v H Q->
  av (a9 X.prog X.w) X.A (setItem b d u) (λ_ f=>∃e,Inv X a σ e f/\Q e) X.xe s
section
variable{X:Cx} {pos:Pos}
def YG (i:Nat):TG:=λv σ H Q=>Q (σ.set i<|some v) H
def XN (b:X.N.Nodup)(d:X.N[i]?=some x)(e:Loc X.env.scope x)(f:X.fn x=true\/X.env.scope.names.lookup x=some .local:=by first|exact .inl rfl|exact .inr rfl|assumption):PG X (.Name x pos) (YG i):=by intro a s σ H v u Q I r h;exact wpAny_assign_Name (M8 I b d e r (λj g=>⟨_,H,g,h⟩) f)
def a2r:fq:=λL σ H Q=>L=[]/\Q σ H
def a1u (t:TG)(u:fq):fq:=λL σ H Q=>∃v r,L=v::r/\t v σ H λa b=>u r a b Q
def VV:xj X [] a2r:=by intro a s σ H L b Q I r h;obtain⟨e,h⟩:=h;subst e;cases r;exact assignInOrder_nil ⟨σ,H,I,h⟩
def TU {e:cf}{es:List cf}{t:TG}{u:fq}(d:PG X e t)(f:xj X es u)
  (g:(d3 (e::es) X.env).map (·.2)=gB e X.env::(d3 es X.env).map (·.2):=by rfl):xj X (e::es) (a1u t u):=by
 intro a s σ H L o Q I r h;obtain⟨v,p,i,h⟩:=h;subst i;cases r with
 |cons r j=>rw[g];refine aFb (G5 (d a s σ H _ _ _ I r h) λ_ k ⟨b,l,m,n⟩=>?_);exact f a k b l _ _ Q m j n
def a2v (a b:TE)(t:UX):TG:=λv σ H Q=>a σ H λo d=>b σ d λi e=>t o i v e λf=>Q σ f
def gk {o i:cf}{e f:TE}{t:UX}(g:PE X o e)(j:PE X i f)(k:a1w X t)
  (l:∀v,gB (.Subscript o i pos) X.env v=(do
   let b<-hV [v] (cv o X.env)
   let d<-hV [v,b] (cv i X.env)
   standAt pos
   hV [v,b,d] (setItem b d v)
   release [v,b,d] []):=by intro _;rfl):PG X (.Subscript o i pos) (a2v e f t):=by
 intro a s σ H v u Q I r h;rw[l];refine aAa (aAN<|G5 (g a s σ H _ I h) λb m ⟨x,n,p,q,w⟩=>?_);refine aAa (aAN<|G5 (j a m σ n _ p w) λd z ⟨y,A,B,C,E⟩=>?_);refine aAa (aEC<|aAa<|aAN<|G5 (k a z σ A x y v b d u _ B q C r E) λ_ O ⟨J,L,N⟩=>?_);exact wpAny_release ⟨σ,J,L,N⟩
def a1q (a:TE)(g:TG):TS:=λD σ H=>a σ H λx b=>g x σ b D.nx
def MC {b e:cf}{d:TE}{g:TG}(f:PE X e d)(i:PG X b g)(j:h9 [b] e pos.line X.env=pure false:=by rfl)(k:ia [b] e X.env=pure none:=by rfl)
  (l:(d3 [b] X.env).map (·.2)=[gB b X.env]:=by rfl):PS X (.Assign [b] e pos) (a1q d g):=by
 intro a s σ H D I h;refine wpAny_Assign_stores (G5 (f a s σ H _ I h) λv m ⟨x,n,o,p,r⟩=>?_) j k;rw[l];exact G5 (i a m σ n x v _ o p r) λ_ t q=>q
def ME {i:Nat}{x:Str}{e:cf}{d:TE}{a:Pos}(f:X.N.Nodup)(g:X.N[i]?=some x)(j:Loc X.env.scope x)(k:PE X e d)(l:dA e (some (.Name x a)) pos.line X.env=pure false:=by rfl)(m:X.fn x=true\/X.env.scope.names.lookup x=some .local:=by first|exact .inl rfl|exact .inr rfl|assumption):
  PS X (.Assign [.Name x a] e pos) (a1q d (YG i)):=by
 intro b s σ H D I h;refine aEi (G5 (k b s σ H _ I h) λv t ⟨y,n,o,p,q⟩=>?_) l;exact M8 o f g j p (λu r=>⟨_,n,r,q⟩) m
def a3d (i j:Nat)(ta:TA):TS:=λD σ H=>ta σ H λL a=>∃v w,L=[v,w]/\D.nx ((σ.set i<|some v).set j (some w)) a
def ZU {i j:Nat}{x y:Str}{a b:cf}{ta:TA}{l m pt:Pos}{n r BX}(O:X.calm=true)(z:X.N.Nodup)(Q:X.N[i]?=some x)(T:X.N[j]?=some y)(U:i≠j)
  (B:X.env.scope.names.lookup x=some .local) (C:X.env.scope.names.lookup y=some .local) (Y:PA X [a,b] ta)
  (hw:ia [.Tuple [.Name x l,.Name y m] n pt] (.Tuple [a,b] r BX) X.env=pure (some [x,y]))
  (hs:h9 [.Tuple [.Name x l,.Name y m] n pt] (.Tuple [a,b] r BX) pos.line X.env=pure false:=by rfl):
  PS X (.Assign [.Tuple [.Name x l,.Name y m] n pt] (.Tuple [a,b] r BX) pos) (a3d i j ta):=by
 intro d s σ H D I h;rw[exec_Assign_arm];refine aAa (aEC ?_);rw[hs];refine aAa (aAb ?_);rw[ka (by decide)];refine aAa (Tuple_<|G5 (Y _ d s σ H _ I h) λus f ⟨L,E,I1,r1,t⟩=>?_);obtain⟨v,w,e1,t⟩:=t;subst e1;obtain⟨g,k,rfl,rv,ym⟩:∃g k,us=[g,k]/\RelV v g/\RelV w k:=by
  cases r1 with
  |cons p q=>
   cases q with
   |cons p' q'=>cases q';exact⟨_,_,rfl,p,p'⟩
 refine aAY ?_ (by show 2<=sizeLine;decide);have I2:Inv X d σ E {f with heap:=f.heap.push {cls:=.type "tuple",data:=.seq [g,k].toArray}}:=I1.kept (t':=f.toks) λb o e=>aAc _ e;rw[hw];refine aAa (aAb ?_);show av (a9 X.prog X.w) X.A (do rule "assign.swapped-stores";let items<-unpackItems (.ref f.heap.objs.size) 2 none;assignInOrder [λv=>bindName X.env y v,λv=>bindName X.env x v] items.reverse;pure Flow.next) _ _ _;refine aAa (aDC<|aAa<|unpackItems_tuple (items:=#[g,k]) (I.ok.hd O) (IsTup.new f.heap _) λh' u=>?_);have I3:=I2.kept (h':=h') (t':=f.toks) λb o e=>u b o (aAl<|aAf e) e;show av _ _ (assignInOrder [λv=>bindName X.env y v,λv=>bindName X.env x v] [k,g]>>=λ_=>pure Flow.next) _ _ _;refine aAa (aFb<|wpAny_bindName<|M8 I3 z T (.inl C) ym (λs2 I4=>?_)<|.inr C);refine aFb (wpAny_bindName<|M8 I4 z Q (.inl B) rv (λs3 J=>assignInOrder_nil (aAb ?_))<|.inr B);rw[List.set_comm _ _ (aCA U)]at J;exact⟨_,E,J,t⟩
end
section
variable{X:Cx} {pos:Pos}
def uq (c:TT)(tb:TS):TS:=λD σ H=>∃W:Nat->St->Hp->Prop,(∃m,W m σ H)/\∀m σ H,W m σ H->
 c σ H λb a=>if b=true then∃N:St->Hp->Prop,(∀d e,N d e->∃f,f<m/\W f d e)/\tb {D with nx:=N,ct:=N,bk:=D.nx} σ a else D.nx σ a
def SA {c:cf}{body:List bM}{q:TT}{tb:TS}(r:PassesOwn (a9 X.prog X.w) X.A X.env X.xe)(C:PT X c q)(E:tL X body tb):PS X (.While c body [] pos) (uq q tb):=by
 intro a s σ H D I h;obtain⟨W,⟨J,L⟩,turn⟩:=h;refine wpAny_While (codeAny_whileLoop (λn O=>∃t u,Inv X a t u O/\W n t u) ?_ J ⟨σ,H,I,L⟩);rintro n Q ⟨d,x,T,U⟩;refine aCY r (G5 (C a Q d x _ T<|turn n d x U) λb Y ⟨y,z,i⟩=>?_);cases b with
 |true=>
  obtain⟨N,B,i⟩:=i;rw[jk rfl];refine aCY r (G5 (E a Y d y _ z i) λf s3 j=>?_);cases f with
  |next=>obtain⟨e,g,k,l⟩:=j;obtain⟨m,o,p⟩:=B e g l;exact⟨m,o,e,g,k,p⟩
  |cont=>obtain⟨e,g,k,l⟩:=j;obtain⟨m,o,p⟩:=B e g l;exact⟨m,o,e,g,k,p⟩
  |brk=>exact j
  |ret v=>exact j
 |false=>rw[ka aBg];exact aEG ⟨d,y,z,i⟩
end
structure It where
 go:Nat->Hp->Prop
 yld:Nat->Hp->V->Hp->Prop
 stop:Nat->Hp->Prop
def sT (X:Cx)(pins:R0)(H:Hp)(b:a5):Prop:=
 H b=none/\b≠X.env.locals/\b∉X.fs/\(b∈X.ex\/X.s9.heap.objs.size<=b)/\(∀x c,X.env.cells.lookup x=some c->c≠b)/\∀p∈X.pn++pins,p.1≠b
def Inv.af3 (I:Inv X a σ H s)(d:s.heap.objs.size<=b)(f:H' b=none):sT X a H' b:=by
 refine⟨f,aCR (aAv I.lt d),I.ag0 d,.inr (aAs I.sz d),λx c e z=>?_,λp g z=>?_⟩
 .obtain⟨v,q⟩:=I.cell x c e;exact absurd (aAv q.lt (by rw[z];exact d)) (aBv _)
 .exact absurd (aAv (aAf (I.pin p g).1) (by rw[z];exact d)) (aBv _)
structure Turn (P:Program)(w:World)(K:PySem.W.Frag)(tg:Expr)(J:It)(fp:List Addr)(it:Addr)(tn:Nat->Heap->Prop):Prop where
 mem:it∈fp
 obj:∀i h,tn i h->∀b∈fp,∃o,h.get? b=some o/\∀v,o.data≠.cell v
 keep:∀i h h',tn i h->(∀b∈fp,∀o,h.get? b=some o->h'.get? b=some o)->tn i h'
 item:∀(X:Cx),X.prog=P->X.w=w->X.K=K->X.calm=true->∀(i:Nat) (pins:R0) (s:Shared) (σ:St) (H:Hp) (E:E8),Inv X pins σ H s->(∀b∈fp,sT X pins H b)->tn i s.heap->J.go i H->
  wpAny (model P w) X.A (pyNext (.ref it)) (λr s1=>∃u,r=some u/\
   wpAny (model P w) X.A (letOwnedTupleGo tg (.ref it) u) (λ_ s2=>∃x H',Inv X pins σ H' s2/\RelV x u/\J.yld i H x H'/\tn (i+1) s2.heap/\∀b∈fp,H' b=none) E s1) E s
 done:∀(X:Cx),X.prog=P->X.w=w->X.K=K->X.calm=true->∀(i:Nat) (pins:R0) (s:Shared) (σ:St) (H:Hp) (E:E8),Inv X pins σ H s->(∀b∈fp,sT X pins H b)->tn i s.heap->J.stop i H->
  wpAny (model P w) X.A (pyNext (.ref it)) (λr s1=>r=none/\Inv X pins σ H s1) E s
 self:∀(A:Around) (i:Nat) (s:Shared) (Q:E8) (E:E8),tn i s.heap->Q (.ref it) s->wpAny (model P w) A (pyIter (.ref it)) Q E s
abbrev TI:=St->Hp->(It->Hp->Prop)->Prop
def PIE (X:Cx)(a:R0)(σ:St)(j:cf)(R:It->Hp->Prop)(d:ao)(f:aA):Prop:=
 ∃(g:a5) (h:List a5) (i:Nat->bt->Prop) (J:It) (e:Hp),d=.ref g/\Inv X a σ e f/\Turn X.prog X.w X.K j J h g i/\i 0 f.heap/\(∀b∈h,sT X a e b)/\R J e
def PI (X:Cx)(b iter:cf)(d:TI):Prop:=
 ∀(a:R0) (s:aA) (σ:St) (H:Hp) (R:It->Hp->Prop),Inv X a σ H s->d σ H R->
  av (a9 X.prog X.w) X.A (cv iter X.env) (λv e=>av (a9 X.prog X.w) X.A (pyIter v) (PIE X a σ b R) X.xe e) X.xe s
def RA {E : ao → aA → Prop} {Q : Unit → aA → Prop} (b : s.heap.get? it = some o) (d : o.cls = .type n) (e : o.data = .fields L) (f : ["enumerate", "zip", "dict_itemiterator", "dict_reverseitemiterator", "odict_iterator", "itertools.zip_longest", "itertools.pairwise"].contains n = false) (a : Q () s) : av M A (letOwnedTupleGo g (.ref it) u) Q E s := by
  unfold letOwnedTupleGo;cases g <;> first
    | exact aAb a
    | (cases u <;> first
        | exact aAb a
        | (refine aAa (wpAny_load b ?_)
           rw [d, e];show av M A (if (["enumerate", "zip", "dict_itemiterator", "dict_reverseitemiterator", "odict_iterator", "itertools.zip_longest", "itertools.pairwise"].contains n && L[0]? == some (dm _)) = true then _ else _) Q E s;rw [ka (by intro h; rw [f, Bool.false_and] at h; cases h)];exact aAb a))
def Itl (K:kc)(a:a5):It:=
 ⟨λi H=>∃Y x,P4 K H a Y/\Y[i]?=some x,λi H x b=>b=H/\∀Y,P4 K H a Y->Y[i]?=some x,λi H=>∃Y,P4 K H a Y/\Y.length<=i⟩
def Itt (K:kc)(a:a5):It:=
 ⟨λi H=>∃Y x,Z0 K H a Y/\Y[i]?=some x,λi H x b=>b=H/\∀Y,Z0 K H a Y->Y[i]?=some x,λi H=>∃Y,Z0 K H a Y/\Y.length<=i⟩
def JI {P:ba}{w:be}{K:kc}{U:cf}(a it:a5):Turn P w K U (Itl K a) [it] it (λi h=>h.IsListIter it a i)where
 mem:=by simp
 obj:=λi h st b g=>by
  have e:b=it:=by simpa using g
  subst e;obtain⟨o,e,c,d⟩:=st;exact⟨o,e,λv z=>by rw[d]at z;cases z⟩
 keep:=λi h l st k=>st.at λo e=>k it (by simp) o e
 item:=by intro X q r t T i f s σ H E I m st y;subst q r t;obtain⟨Y,x,n,A⟩:=y;obtain⟨B,C,p,hz⟩:=I.list n;obtain⟨u,hu,ru⟩:=C.get A;obtain⟨J,L,f2,N,O,Q⟩:=m it (by simp);refine wpAny_pyNext_list_item st p.isList (x:=u) (by simpa using hu) λl j sb=>?_;have I1:Inv X f σ H {s with heap:=l}:=I.turned (t':=s.toks) (λb o g e=>(sb.2 b g).trans e) J L N O Q;obtain⟨o,e,c,d⟩:=id j;exact⟨u,rfl,RA (s:={s with heap:=l}) e c d (by decide) ⟨x,H,I1,ru,⟨rfl,λys hy=>by rw[I.ab9 hy n];exact A⟩,j,λb g=>(m b g).1⟩⟩
 done:=by intro X q r t T i f s σ H E I m st y;subst q r t;obtain⟨Y,n,A⟩:=y;obtain⟨B,C,p,hz⟩:=I.list n;obtain⟨J,L,f2,N,O,Q⟩:=m it (by simp);have hl:=C.length;exact wpAny_pyNext_list_end (I.ok.hd T) st p.isList (by simp;lia) λl eb=>⟨rfl,I.turned (t':=s.toks) (λb o g e=>eb b o g e) J L N O Q⟩
 self:=λ_ _ _ _ _ st h=>wpAny_pyIter_listiter st h
def EC {P:ba}{w:be}{K:kc}{U:cf}(a it:a5):Turn P w K U (Itt K a) [it] it (λi h=>h.IsTupleIter it a i)where
 mem:=by simp
 obj:=λi h st b g=>by
  have e:b=it:=by simpa using g
  subst e;obtain⟨o,e,c,d⟩:=st;exact⟨o,e,λv z=>by rw[d]at z;cases z⟩
 keep:=λi h m st k=>st.at λo e=>k it (by simp) o e
 item:=by intro X r t y T i f s σ H E I n st A;subst r t y;obtain⟨Y,x,q,B⟩:=A;obtain⟨j,C,p,hz⟩:=I.tuple q;obtain⟨u,hu,ru⟩:=C.get B;obtain⟨J,L,f2,N,O,Q⟩:=n it (by simp);refine wpAny_pyNext_tuple_item st (show s.heap.IsTuple a j.toArray from p) (x:=u) (by simpa using hu) λm l sb=>?_;have I1:Inv X f σ H {s with heap:=m}:=I.turned (t':=s.toks) (λb o g e=>(sb.2 b g).trans e) J L N O Q;obtain⟨o,e,c,d⟩:=id l;exact⟨u,rfl,RA (s:={s with heap:=m}) e c d (by decide) ⟨x,H,I1,ru,⟨rfl,λys hy=>by rw[I.ab3 hy q];exact B⟩,l,λb g=>(n b g).1⟩⟩
 done:=by intro X r t y T i f s σ H E I n st A;subst r t y;obtain⟨Y,q,B⟩:=A;obtain⟨j,C,p,hz⟩:=I.tuple q;obtain⟨J,L,f2,N,O,Q⟩:=n it (by simp);have hl:=C.length;exact wpAny_pyNext_tuple_end (I.ok.hd T) st (show s.heap.IsTuple a j.toArray from p) (by simp;lia) λm eb=>⟨rfl,I.turned (t':=s.toks) (λb o g e=>eb b o g e) J L N O Q⟩
 self:=λ_ _ _ _ _ st h=>wpAny_pyIter_tupleiter st h
section
variable{X:Cx} {tg:cf}
def a0h (K:kc)(d:TE):TI:=λσ H R=>d σ H λx b=>∃a,x=.ref a/\(∃Y,P4 K b a Y)/\R (Itl K a) b
def a4d (K:kc)(d:TE):TI:=λσ H R=>d σ H λx b=>∃a,x=.ref a/\(∃Y,Z0 K b a Y)/\R (Itt K a) b
def WF (i:PE X l j):PI X tg l (a0h X.K j):=by
 intro d s σ H R I h;refine G5 (i d s σ H _ I h) λv f ⟨x,k,g,m,n⟩=>?_;obtain⟨a,e,⟨Y,r⟩,q⟩:=n;subst e;cases m;obtain⟨t,w,p,y⟩:=g.list r;refine aDE p.isList ?_;refine⟨f.heap.objs.size,[f.heap.objs.size],_,_,k,rfl,g.kept (t':=f.toks) λb o e=>aAc _ e,JI a _,⟨_,aAp _ rfl,rfl,rfl⟩,λb u=>?_,q⟩;have e:b=f.heap.objs.size:=by simpa using u
 subst e;exact g.af3 (aAj _) (g.hok.fresh<|aAj _)
def ay {l:cf}{j:TE}(k:PE X l j):PI X tg l (a4d X.K j):=by
 intro d s σ H R I h;refine G5 (k d s σ H _ I h) λv f ⟨x,m,g,n,r⟩=>?_;obtain⟨a,e,⟨Y,t⟩,q⟩:=r;subst e;cases n;obtain⟨i,w,p,y⟩:=g.tuple t;refine wpAny_pyIter_tuple (show f.heap.IsTuple a i.toArray from p) ?_;refine⟨f.heap.objs.size,[f.heap.objs.size],_,_,m,rfl,g.kept (t':=f.toks) λb o e=>aAc _ e,EC a _,⟨_,aAp _ rfl,rfl,rfl⟩,λb u=>?_,q⟩;have e:b=f.heap.objs.size:=by simpa using u
 subst e;exact g.af3 (aAj _) (g.hok.fresh<|aAj _)
def a3h (e:TI)(g:TG)(tb:TS):TS:=λD σ H=>e σ H λJ f=>∃W:Nat->Nat->St->Hp->Prop,(∃m,W 0 m σ f)/\∀i m σ H,W i m σ H->
 (J.stop i H/\D.nx σ H)\/(J.go i H/\∃N:St->Hp->Prop,(∀b a,N b a->∃d,d<m/\W (i+1) d b a)/\∀x a,J.yld i H x a->g x σ a λh j=>tb {D with nx:=N,ct:=N,bk:=D.nx} h j)
def pV (a:List a5)(h:bt):List (a5×Obj):=a.filterMap λb=>(h.get? b).map λo=>(b,o)
def cK (a:b∈d)(e:h.get? b=some o):(b,o)∈pV d h:=aCd.mpr ⟨b,a,by rw[e];rfl⟩
def JZ (a:p∈pV d h):p.1∈d/\h.get? p.1=some p.2:=by
 obtain⟨b,f,e⟩:=aCd.mp a;cases q:h.get? b with
 |none=>rw[q]at e;cases e
 |some o=>rw[q]at e;have g:(b,o)=p:=aAm e;subst g;exact⟨f,q⟩
def Inv.pinned (I:Inv X a σ H s)(i:∀b∈f,sT X a H b)(j:∀b∈f,∃o,s.heap.get? b=some o/\∀v,o.data≠.cell v):Inv X (a++pV f s.heap) σ H s:=
 I.ad4 λp k=>(aAL.mp k).elim (λz=>I.pin p (aAH _ z)) λz=>by obtain⟨g,e⟩:=JZ z;obtain⟨l,m,n,_⟩:=i p.1 g;obtain⟨o,h,d⟩:=j p.1 g;rw[e]at h;cases h;exact⟨e,l,m,n,d⟩
def Inv.ab2 (I:Inv X (a++d) σ H s):Inv X a σ H s:=I.ad4 λp b=>I.pin p (aAH _<|aBu _ b)
def lz (B:PassesOwn (a9 X.prog X.w) X.A X.env X.xe)(hc:X.calm=true)(hi:PI X tg iter wi)(hg:PG X tg g)(j:tL X body tb)(hs:∀x,dC iter X.env x=pure x:=by intro _;rfl):PS X (.For tg iter body [] pos) (a3h wi g tb):=by
 intro a s σ H D I h;refine wpAny_For (G5 (hi a s σ H _ I h) λv s1 h1=>G5 h1 λitv s2 h2=>?_) hs;obtain⟨it,C,tn,J,H2,e,I2,T,ki,f2,W,⟨m0,w0⟩,turn⟩:=h2;subst e;have k:∀{t:Hp},(∀b∈C,t b=none)->∀b∈C,sT X a t b:=λhn b j=>⟨hn b j,(f2 b j).2⟩;refine codeAny_forLoop_any (λn s'=>∃i E t,Inv X a E t s'/\tn i s'.heap/\(∀b∈C,t b=none)/\W i n E t) ?_ m0 ⟨0,σ,H2,I2,ki,λb j=>(f2 b j).1,w0⟩;rintro n s3 ⟨i,L,Y,I3,O,Q,w3⟩;rcases turn i n L Y w3 with⟨stop,qn⟩|⟨go,N,hN,step⟩
 .refine aCY B (G5 (T.done X rfl rfl rfl hc i a s3 L Y X.xe I3 (k Q) O stop) λr s4 ⟨hr,I4⟩=>?_);subst hr;exact aEG ⟨L,Y,I4,qn⟩
 .refine aCY B (G5 (T.item X rfl rfl rfl hc i a s3 L Y X.xe I3 (k Q) O go) λr s4 ⟨u,hr,h4⟩=>?_);subst hr;refine aCY B (G5 h4 λ_ s5 ⟨x,H5,I5,r5,y5,z,fr5⟩=>?_);have I5':=I5.pinned (k fr5) (T.obj _ _ z);refine aCY B (G5 (hg _ s5 L H5 x u _ I5' r5<|step x H5 y5) λ_ s6 ⟨σ6,H6,I6,q6⟩=>?_);refine aCY B (G5 (j _ s6 σ6 H6 _ I6 q6) λf s7 y=>?_);have again:∀{l:St} {p:Hp},Inv X (a++pV C s5.heap) l p s7->N l p->∃m,m<n/\∃i E t,Inv X a E t s7/\tn i s7.heap/\(∀b∈C,t b=none)/\W i m E t:=λ{l p} q U=>by obtain⟨m',hm,w7⟩:=hN l p U;refine⟨m',hm,i+1,l,p,q.ab2,T.keep _ _ _ z λb j o e=>(q.pin (b,o)<|aAH _<|aAH _<|cK j e).1,λb j=>?_,w7⟩;obtain⟨o,e,d⟩:=T.obj _ _ z b j;exact(q.pin (b,o)<|aAH _<|aAH _<|cK j e).2.1
  cases f with
  |next=>obtain⟨l,p,q,U⟩:=y;exact again q U
  |cont=>obtain⟨l,p,q,U⟩:=y;exact again q U
  |brk=>obtain⟨l,p,q,y⟩:=y;exact⟨l,p,q.ab2,y⟩
  |ret v=>obtain⟨x7,l,p,q,r7,y⟩:=y;exact⟨x7,l,p,q.ab2,r7,y⟩
end
abbrev R2:=V->V->Hp->VK->Prop
def nS (X:Cx)(f:ao->ao->Sem ao)(r:R2):Prop:=
 ∀(a:R0) (s:aA) (σ:St) (H:Hp) (x y:V) (v u:ao) (Q:VK),Inv X a σ H s->RelV x v->RelV y u->r x y H Q->
  av (a9 X.prog X.w) X.A (f v u) (EP X a σ Q) X.xe s
def UnR (X:Cx)(f:ao->Sem ao)(r:V->Hp->VK->Prop):Prop:=
 ∀(a:R0) (s:aA) (σ:St) (H:Hp) (x:V) (v:ao) (Q:VK),Inv X a σ H s->RelV x v->r x H Q->
  av (a9 X.prog X.w) X.A (f v) (EP X a σ Q) X.xe s
def BQ (X:Cx)(f:ao)(r:List V->Hp->VK->Prop):Prop:=
 ∀(a:R0) (s:aA) (σ:St) (H:Hp) (Y:List V) (b:List ao) (Q:VK),Inv X a σ H s->p9 Y b->r Y H Q->
  av (a9 X.prog X.w) X.A (call f b) (EP X a σ Q) X.xe s
def tUn (r:V->Hp->VK->Prop)(ta:TE):TE:=λσ H Q=>ta σ H λx a=>r x a Q
def rI (C:Int->Int->Prop)(g:Int->Int->V):R2:=λx y H Q=>∃i j,x=.int i/\y=.int j/\C i j/\Q (g i j) H
def ZJ (g:Int->Int->V):R2:=λx y H Q=>∃i j,x=.int i/\y=.int j/\Q (g i j) H
def rU (g:Int->V):V->Hp->VK->Prop:=λx H Q=>∃i,x=.int i/\Q (g i) H
section
variable{X:Cx} {a b c:cf} {ta tb tc:TE} {pos:Pos}
def MF (j:PE X a ta)(k:PE X b tb){d:R0}{s:aA}{σ:St}{H:Hp}{R:V->V->Hp->Prop}(I:Inv X d σ H s)
  (h:ta σ H λx i=>tb σ i λy e=>R x y e) {Q:E8} {f:ao->ao->Sem ao}
  (l:∀v u g x y e,Inv X d σ e g->RelV x v->RelV y u->R x y e->av (a9 X.prog X.w) X.A (f v u) Q X.xe g):
  av (a9 X.prog X.w) X.A (cv a X.env) (λv m=>av (a9 X.prog X.w) X.A (cv b X.env) (λu n=>av (a9 X.prog X.w) X.A (f v u) Q X.xe n) X.xe m) X.xe s:=by
 refine G5 (j d s σ H _ I h) λv o ⟨x,i,p,q,r⟩=>?_;refine G5 (k d o σ i _ p r) λu g ⟨y,e,t,z,B⟩=>?_;exact l v u g x y e t q z B
def a0v {r:V->Hp->VK->Prop}(e:UnR X (unaryOp op) r)(f:PE X a ta):PE X (.UnaryOp op a pos) (tUn r ta):=by intro d s σ H Q I h;exact UnaryOp_ (G5 (f d s σ H _ I h) λv g ⟨x,i,j,k,l⟩=>e d g σ i x v Q j k l)
def opI {f:ao->ao->Sem ao}{C:Int->Int->Prop}{g:Int->Int->Int}
  (rule:∀(i j:Int) (t u:Tok) (s:aA) (Q:E8) (E:E8),C i j->Q (.int (g i j) s.toks) {s with toks:=s.toks+1}->av (a9 X.prog X.w) X.A (f (.int i t) (.int j u)) Q E s):
  nS X f (rI C λi j=>.int (g i j)):=by
 intro d s σ H x y v u Q I e k h;obtain⟨i,j,rfl,rfl,l,q⟩:=h;obtain⟨t,rfl⟩:=e;obtain⟨m,rfl⟩:=k;exact rule i j t m s _ _ l ⟨.int (g i j),H,I.tok _,⟨_,rfl⟩,q⟩
def a1k {f:ao->ao->Sem ao}{g:Int->Int->Int}
  (rule:∀(i j:Int) (t u:Tok) (s:aA) (Q:E8) (E:E8),Q (.int (g i j) s.toks) {s with toks:=s.toks+1}->av (a9 X.prog X.w) X.A (f (.int i t) (.int j u)) Q E s):
  nS X f (ZJ λi j=>.int (g i j)):=by
 intro d s σ H x y v u Q I e k h;obtain⟨i,j,rfl,rfl,q⟩:=h;obtain⟨t,rfl⟩:=e;obtain⟨l,rfl⟩:=k;exact rule i j t l s _ _ ⟨.int (g i j),H,I.tok _,⟨_,rfl⟩,q⟩
def iq {f:ao->ao->Sem ao}{g:Int->Int->Bool}
  (rule:∀(i j:Int) (t u:Tok) (s:aA) (Q:E8) (E:E8),Q (.bool (g i j)) s->av (a9 X.prog X.w) X.A (f (.int i t) (.int j u)) Q E s):
  nS X f (ZJ λi j=>.bl (g i j)):=by
 intro d s σ H x y v u Q I e k h;obtain⟨i,j,rfl,rfl,q⟩:=h;obtain⟨t,rfl⟩:=e;obtain⟨l,rfl⟩:=k;exact rule i j t l s _ _ ⟨.bl (g i j),H,I,rfl,q⟩
def a2s (i j:Int):Prop:=0<=j/\j<=1000000/\i.natAbs<2^64
def kz:nS X (d7 .Add) (ZJ λi j=>.int (i+j)):=a1k λ_ _ _ _ _ _ _ q=>add_int q
def qw:nS X (d7 .Sub) (ZJ λi j=>.int (i-j)):=a1k λ_ _ _ _ _ _ _ q=>sub_int q
def WJ:nS X (d7 .Mod) (rI (λ_ j=>j≠0) λi j=>.int (i.fmod j)):=opI λ_ _ _ _ _ _ _ d q=>mod_int' d q
def my:nS X (d7 .Pow) (rI a2s λi j=>.int (i^j.toNat)):=opI λ_ _ _ _ _ _ _ d q=>pow_int_small d.1 d.2.1 d.2.2 q
def unI {f:ao->Sem ao}{g:Int->Int}
  (rule:∀(i:Int) (t:Tok) (s:aA) (Q:E8) (E:E8),Q (.int (g i) s.toks) {s with toks:=s.toks+1}->av (a9 X.prog X.w) X.A (f (.int i t)) Q E s):
  UnR X f (rU λi=>.int (g i)):=by
 intro d s σ H x v Q I e h;obtain⟨i,rfl,q⟩:=h;obtain⟨t,rfl⟩:=e;exact rule i t s _ _ ⟨.int (g i),H,I.tok _,⟨_,rfl⟩,q⟩
def tw:UnR X (unaryOp .USub) (rU λi=>.int (-i)):=unI λ_ _ _ _ _ q=>neg_int q
end
section
variable{X:Cx} {a b c:cf} {ta tb tc:TE} {pos:Pos}
def kj (I:Inv X d σ H s)(q:Q (.bl k) H)(e:k=f):EP X d σ Q (.bool f) s:=by subst e;exact⟨.bl k,H,I,rfl,q⟩
def a0s:nS X (ek .Lt) (ZJ λi j=>.bl (decide (i<j))):=iq λ_ _ _ _ _ _ _ q=>lt_int q
def xk:nS X (ek .LtE) (ZJ λi j=>.bl (decide (i<=j))):=iq λ_ _ _ _ _ _ _ q=>le_int q
def zy:nS X (ek .Gt) (ZJ λi j=>.bl (decide (j<i))):=iq λ_ _ _ _ _ _ _ q=>gt_int q
def ZY:nS X (ek .Is) (λx y H Q=>y=.non/\Q (.bl (decide (x=.non))) H):=by
 intro d s σ H x y v u Q I e f h;obtain⟨rfl,q⟩:=h;cases f;refine is_none_gen (kj I q ?_);cases x<;>first
  |(cases e;rfl)
  |(obtain⟨t,rfl⟩:=e;rfl)
def SQ (b:cf)(h:op≠.In:=by decide)(d:op≠.NotIn:=by decide):ik op b=false:=by
 have e:(op==CmpOp.In)=false:=by cases op<;>first|rfl|exact absurd rfl h
 have f:(op==CmpOp.NotIn)=false:=by cases op<;>first|rfl|exact absurd rfl d
 cases b<;>simp[ik,e,f]
def CM:(sizeLine:Nat)<2^63:=by rw[aFr];decide
def vals1 (r:p9 [x] d):∃u,d=[u]/\RelV x u:=by
 cases r with
 |cons e f=>cases f;exact⟨_,rfl,e⟩
def vals2 (r:p9 [x,y] e):∃u d,e=[u,d]/\RelV x u/\RelV y d:=by
 cases r with
 |cons f g=>
  cases g with
  |cons h i=>cases i;exact⟨_,_,rfl,f,h⟩
def QG:BQ X (.builtin "abs") (λY H Q=>∃i,Y=[.int i]/\Q (.int (if i<0 then-i else i)) H):=by intro d s σ H Y e Q I r h;obtain⟨i,rfl,q⟩:=h;obtain⟨u,rfl,t,rfl⟩:=vals1 r;exact call_abs_int λu f=>⟨.int (if i<0 then-i else i),H,I.tok _,⟨_,rfl⟩,q⟩
end
section
variable{prog:ba} {w:be} {A:bc} {E:E8} {s:aA} {K:kc} {x dx C f:a5} {mA:cV} {name:Str} {v:ao}
end
section
variable{P:ba} {w:be} {H H':Hp} {h h':bt} {a C dx:a5} {fs xn:List (Str×V)}
end
section
variable{X:Cx} {pins:R0} {σ:St} {H:Hp} {s:aA} {a C dx:a5} {fs:List (Str×V)} {f:Str} {v:V} {A:bc} {E:E8}
end
section
variable{X:Cx} {o e value:cf} {f:Str} {pos pos' tpos:Pos} {ta tv:TE}
end
section
variable{X:Cx} {pins:R0} {σ:St} {H:Hp} {s:aA} {A:bc} {E:E8} {Q:E8} {c:ao} {b:Bool}
end
structure Room (k:Nat)(A:Around):Prop where
 hd:A.handled=none
 dp:A.depth+3*k+5<recursionLimit
 un:A.units+16*k+200<cLine
def Room.mono (r:Room k A)(h:j<=k):Room j A:=⟨r.hd,by have:=r.dp;lia,by have:=r.un;lia⟩
def Room.deeper (r:Room (k+1) A)(env:Env):Room k (A.deeper env):=
 ⟨r.hd,by have:=r.dp;show A.depth+1+3*k+5<_;lia,by have:=r.un;show A.units+3+16*k+200<_;lia⟩
def Room.depth (r:Room k A):A.depth<recursionLimit:=by have:=r.dp;lia
def Room.units (r:Room k A):A.units+64<cq:=by have:=r.un;lia
def a3e:TA:=λ_ H Q=>Q [] H
def xz (ta:TE)(tr:TA):TA:=λσ H Q=>ta σ H λx a=>tr σ a λY b=>Q (x::Y) b
section
variable{X:Cx} {e:cf} {es:List cf} {te:TE} {t:TA} {pos:Pos}
def cG:PA X [] a3e:=λ_ _ _ _ H Q I h=>aFo ⟨[],H,I,.nil,h⟩
def L8 (b:PE X e te)(d:PA X es t)(f:az (e::es) X.env=(false,cv e X.env)::az es X.env:=by rfl):PA X (e::es) (xz te t):=by intro pos a s σ H Q I h;rw[f];show av _ _ (spliced ((false,cv e X.env)::cp pos (az es X.env))) _ _ s;refine aFc (G5 (b a s σ H _ I h) λu g ⟨x,i,j,k,l⟩=>?_);exact G5 (d pos a g σ i _ j l) λq r ⟨Y,m,n,o,p⟩=>⟨x::Y,m,n,.cons k o,p⟩
def a3a (t:TA):TE:=λσ H Q=>t σ H λY a=>Y.length<=sizeLine/\∀p,a p=none->Q (.ref p) (upd a p<|.tup Y)
def a3y (t:TA):TE:=λσ H Q=>t σ H λY a=>Y.length<=sizeLine/\∀p,a p=none->Q (.ref p) (upd a p<|.lst Y)
def tx {i}(h:PA X es t):PE X (.Tuple es i pos) (a3a t):=by intro a s σ H Q I j;refine wpAny_Tuple_spliced (G5 (h pos a s σ H _ I j) λk d ⟨Y,f,g,r,z,q⟩=>⟨by rw[<-r.length];exact z,?_⟩);have l:f d.heap.objs.size=none:=g.hok.fresh (aAj _);refine⟨.ref d.heap.objs.size,upd f d.heap.objs.size (.tup Y),g.laid (t':=d.toks) (λb u e=>aAc _ e) (aAj _) ?_,rfl,q _ l⟩;exact⟨z,k,r,⟨_,aAp _ rfl,rfl,_,rfl⟩⟩
def QH (h:PA X es t):PE X (.List es pos) (a3y t):=by intro a s σ H Q I i;refine wpAny_List_spliced (G5 (h pos a s σ H _ I i) λj d ⟨Y,f,g,r,z,q⟩=>⟨by rw[<-r.length];exact z,?_⟩);have k:f d.heap.objs.size=none:=g.hok.fresh (aAj _);refine⟨.ref d.heap.objs.size,upd f d.heap.objs.size (.lst Y),g.laid (t':=d.toks) (λb u e=>aAc _ e) (aAj _) ?_,rfl,q _ k⟩;exact⟨z,j,0,r,aAp _ rfl⟩
end
abbrev Sp:=List V->Hp->VK->XK->Prop
abbrev UA:=List Env->Hp->aA->XK->ao->aA->Prop
structure Env0 (P:Program)(w:World)(K:PySem.W.Frag)(mg:cV)(base:Heap)(A:Around)(outer:List Env)(s:Shared)(H:Hp):Prop where
 frames:A.frames=some outer
 mod:Mod K mg base
 bs:∀b o,base.get? b=some o->s.heap.get? b=some o/\H b=none
 bsz:base.objs.size<=s.heap.objs.size
 funs:s.heap.FunFrames base outer
 frf:∀b∈yE outer,H b=none
 hok:gJ P w H s.heap
 bare:AllBare s.gens
def CE (a:List Env)(P:ba)(w:be)(H:Hp)(s:aA)(Q:VK)(u:ao)(s':aA):Prop:=
 ∃v b,s'.os=s.os/\AllBare s'.gens/\Un (yE a) [] H b s.heap s'.heap/\gJ P w b s'.heap/\RelV v u/\Q v b
def CR (b:UA)(a:List Env)(P:ba)(w:be)(H:Hp)(s:aA)(Q:VK)(E:XK)(r:Result)(s':aA):Prop:=
 match r with
 |.ok (.ret u)=>CE a P w H s Q u s'
 |.ok _=>False
 |.error e=>b a H s E e s'
structure FnOk (P:Program)(w:World)(K:PySem.W.Frag)(mg:cV)(base:Heap)(CX:UA)(k:Nat)(f:Addr)(fd:FuncData)(ps:List Str)(sp:Sp):Prop where
 len:∀L H Q E,sp L H Q E->L.length=ps.length
 run:∀(A:Around) (outer:List Env) (s:Shared) (H:Hp) (args:Args) (us:List Value) (L:List V) (Q:VK) (E:XK),Room k A->Env0 P w K mg base A outer s H->BindsTo s fd args (ps.zip us)->p9 L us->sp L H Q E->
  codeAny (model P w) A (.call (.ref f) args) (CR CX outer P w H s Q E) s
def FnOk.imp {P:ba}{w:be}{K:kc}{mg:cV}{base:bt}{e:UA}{k:Nat}{f:a5}{fd:dq}{ps:List Str}{g b:Sp}(F:FnOk P w K mg base e k f fd ps g)
  (h:∀L H Q E,b L H Q E->g L H Q E):FnOk P w K mg base e k f fd ps b:=
 ⟨λL H Q E q=>F.len L H Q E (h _ _ _ _ q),λA a s H d i L Q E j l m n o=>F.run A a s H d i L Q E j l m n (h _ _ _ _ o)⟩
section
variable{X:Cx} {pins:R0} {σ:St} {H:Hp} {s s':aA}
def Inv.af1 (I:Inv X pins σ H s):Env0 X.prog X.w X.K X.mg X.base X.A X.stack s H:=
 ⟨I.ok.frames,I.ok.mod,I.bs,aAs I.ok.bsz I.sz,I.stack,I.ad5,I.hok,I.bare⟩
def Inv.after (I:Inv X pins σ H s)(h:CE X.stack X.prog X.w H s Q u s'):EP X pins σ Q u s':=by obtain⟨v,i,os,a,un,e,r,q⟩:=h;obtain⟨j,g,d,t,f⟩:=s';obtain rfl:f=s.os:=os;exact⟨v,i,I.call (h':=j) (g':=g) (d':=d) (t':=t) (ch:=[]) un e a (λb z=>absurd z (by simp)),r,q⟩
end
def yq (b:Sp)(a:List V)(E:XK)(t:TA):TE:=λσ H Q=>t σ H λL d=>b (L++a) d Q E
def Binds (K:kc)(fd:dq)(ps:List Str)(ds:List ao):Prop:=
 ∀(s:aA) (us:List ao),K.In s.heap->(us++ds).length=ps.length->BindsTo s fd ⟨us,[]⟩ (ps.zip<|us++ds)
def Binds.all {K:kc}{fd:dq}{ps:List Str}(h:∀a:List ao,a.length=ps.length->bindArgs fd ⟨a,[]⟩=pure (ps.zip a)):Binds K fd ps []:=λs a _ b=>by rw[aBk]at b⊢;exact .of_eq (h a b)
def FB (d:UA)(X:Cx)(E:XK):Prop:=∀(a:R0) (σ:St) (H:Hp) (s:aA) (e:ao) (b:aA),Inv X a σ H s->d X.stack H s E e b->X.xe e b
section
variable{X:Cx} {CX:UA} {k:Nat} {f C:a5} {fd:dq} {ps:List Str} {sp:Sp} {dvs:List V} {ds:List ao} {E:XK} {x m:Str} {p pos apos:Pos} {e o:cf} {es:List cf} {ta:TE} {t:TA}
def jz (F:FnOk X.prog X.w X.K X.mg X.base CX k f fd ps sp)(i:Room k X.A)(j:Binds X.K fd ps ds)(l:p9 dvs ds)(n:FB CX X E)(I:Inv X a σ H s)(r:p9 L b)(h:sp (L++dvs) H Q E):av (a9 X.prog X.w) X.A (call (.ref f) b) (EP X a σ Q) X.xe s:=by
 have g:p9 (L++dvs) (b++ds):=r.append l;have q:(b++ds).length=ps.length:=by rw[<-g.length];exact F.len _ _ _ _ h
 refine wpAny_call (aDS (F.run X.A X.stack s H ⟨b,[]⟩ (b++ds) (L++dvs) Q E i I.af1 (j s b I.kIn q) g h) λr v d=>?_);cases r with
 |error e=>exact n a σ H s e v I d
 |ok y=>
  cases y with
  |ret u=>exact I.after d
  |next=>exact aAh d
  |brk=>exact aAh d
  |cont=>exact aAh d
def xM (F:FnOk X.prog X.w X.K X.mg X.base CX k f fd ps sp)(d:Room k X.A)(g:Gl X x)(i:X.mg x=some (.ref f))(j:PySem.W.keepIn X.K (.ref f)=true)(l:Binds X.K fd ps ds)(n:p9 dvs ds)(u:FB CX X E)
  (v:PA X (e::es) t) (y:(x==kd)=false:=by decide) (z:az (e::es) X.env=(false,cv e X.env)::az es X.env:=by rfl) (B:(cp pos (az es X.env)).any (·.1)=false:=by rfl):
  PE X (.Call (.Name x p) (e::es) [] pos) (yq sp dvs E t):=by
 intro a s σ H Q I h;refine aAZ (wZ I g i ?_ y);refine PySem.W.callWith_K (h₀:=X.base) I.ok.mod.kin j (G5 (v pos a s σ H _ I h) λJ N ⟨L,O,b,r,q⟩=>⟨b.kIn,?_⟩) z B;exact jz F d l n u b r q
structure Mk (K:PySem.W.Frag)(C f:Addr):Prop where
 makes:PySem.W.makesIn K C=true
 init:PySem.W.findIn K (.ref C) "__init__"=some (some (.ref f))
 fn:PySem.W.isFn K (.ref f)=true
 kp:PySem.W.keepIn K (.ref C)=true
end
section
variable{X:Cx} {CX:UA} {k:Nat} {f C:a5} {fd:dq} {ps ks:List Str} {sp:Sp} {E:XK} {x m:Str} {p pos apos kpos:Pos} {e o:cf} {es:List cf} {kws:List Keyword} {te ta:TE} {t tk:TA} {nm:Option Str}
variable{g:List ao->List ao->List ao} {gV:List V->List V->List V}
end
structure FnScope (N P:List Str)(sc:Scope):Prop where
 kind:sc.kind=.function
 co:sc.isCoroutine=false
 gen:sc.isGenerator=false
 nd:N.Nodup
 pre:N.take P.length=P
 par:∀x∈P,sc.names.lookup x=some .local\/sc.names.lookup x=some .cell
 nofree:∀y∈sc.names,y.2≠.free
theorem tW {kindOf:Str->Option ee}{x:Str}:∀{binds:List (Str×ao)} {m:cV},(∀v,(x,v)∉binds)->bindL kindOf binds m x=m x
 |[],_,_=>rfl
 |(n,v)::r,m,h=>by
  unfold bindL;rw[tW λw a=>h w (aAe _ a)];split
  .have:x≠n:=by rintro rfl;exact h v aBp
   simp[this]
  .rfl
theorem uW {kindOf:Str->Option ee}{x:Str}:∀{binds:List (Str×ao)} {m:cV},(∀v,(x,v)∉binds)->bindC kindOf binds m x=m x
 |[],_,_=>rfl
 |(n,v)::r,m,h=>by
  unfold bindC;rw[uW λw a=>h w (aAe _ a)];split
  .rfl
  .have:x≠n:=by rintro rfl;exact h v aBp
   simp[this]
theorem uR {kindOf:Str->Option ee}{x:Str}{v:ao}:∀{P:List Str} {L:List ao} {i:Nat} {m:cV},P.Nodup->P[i]?=some x->L[i]?=some v->kindOf x=some .local->
  bindL kindOf (P.zip L) m x=some v
 |[],_,_,_,_,h,_,_=>by simp at h
 |_::_,[],_,_,_,_,h,_=>by simp at h
 |p::P,w::L,0,m,d,a,b,e=>by simp at a b;subst a;subst b;show bindL kindOf ((p,w)::P.zip L) m p=_;unfold bindL;rw[tW λv f=>(aAI.mp d).1 (aDX f).1,jk e];simp
 |p::P,w::L,i+1,m,d,a,b,e=>by show bindL kindOf ((p,w)::P.zip L) m x=_;unfold bindL;exact uR (i:=i) (aAI.mp d).2 (by simpa using a) (by simpa using b) e
theorem uD {kindOf:Str->Option ee}{x:Str}{v:ao}:∀{P:List Str} {L:List ao} {i:Nat} {m:cV},P.Nodup->P[i]?=some x->L[i]?=some v->kindOf x≠some .local->
  bindC kindOf (P.zip L) m x=some v
 |[],_,_,_,_,h,_,_=>by simp at h
 |_::_,[],_,_,_,_,h,_=>by simp at h
 |p::P,w::L,0,m,d,a,b,e=>by simp at a b;subst a;subst b;show bindC kindOf ((p,w)::P.zip L) m p=_;unfold bindC;rw[uW λv f=>(aAI.mp d).1 (aDX f).1,ka e];simp
 |p::P,w::L,i+1,m,d,a,b,e=>by show bindC kindOf ((p,w)::P.zip L) m x=_;unfold bindC;exact uD (i:=i) (aAI.mp d).2 (by simpa using a) (by simpa using b) e
def start (N:List Str)(L:List V):St:=L.map some++aCT (N.length-L.length) none
def DA (d:UA)(P:ba)(w:be)(K:kc)(mg:cV)(base:bt)(N:List Str)(qual:Str)(a:iu)(f:a5)(cd:ao)(A:bc)(outer:List Env)(s:aA)(H:Hp)(E:XK):Cx where
 prog:=P
 w:=w
 K:=K
 mg:=mg
 base:=base
 A:=A.deeper (envOfC qual a s.heap.objs.size f cd)
 N:=N
 s9:=s
 H9:=H
 env:=envOfC qual a s.heap.objs.size f cd
 outer:=outer
 stack:=envOfC qual a s.heap.objs.size f cd::outer
 ex:=[]
 calm:=true
 fn:=λ_=>true
 pn:=[]
 xe:=λe g=>av (a9 P w) (A.deeper<|envOfC qual a s.heap.objs.size f cd) (leaving (envOfC qual a s.heap.objs.size f cd) e) (λ_ b=>d outer H s E e b) (λh b=>d outer H s E h b) g
def BG {sc:iu}{n:Nat}{x:Str}(h:sc.names.lookup x=some .cell):∃c,(dz n sc.names []).lookup x=some c:=by have q:=PySem.W.cellsFrom_some sc.names n [] (.inl h);exact aFp.mp q
def LO {O:UA}{P:ba}{w:be}{K:kc}{mg:cV}{base:bt}{N ps:List Str}{qual:Str}{d:iu}{f:a5}{cd:ao}{A:bc}{g:List Env}{s Q:aA}{H:Hp}{E:XK}{J:List ao}{L:List V}
  (S:FnScope N ps d) (Y:A.handled=none) (l:Env0 P w K mg base A g s H) (hl:L.length=ps.length) (r:p9 L J)
  (x:InCallC s s.heap.objs.size (bindL (envOfC qual d s.heap.objs.size f cd).kindOf (ps.zip J) λ_=>none) (dz (s.heap.objs.size+1) d.names []) (bindC (envOfC qual d s.heap.objs.size f cd).kindOf (ps.zip J) λ_=>none) Q):
  Inv (DA O P w K mg base N qual d f cd A g s H E) [] (start N L) H Q:=by
 have br:ps.length<=N.length:=by have:=kb List.length S.pre;rw[aBV]at this;lia
 obtain⟨C,tk,rfl,T⟩:=x.done;have m:∀b:a5,b∉(DA O P w K mg base N qual d f cd A g s H E).ex:=λb z=>absurd (show b∈([]:List a5)from z) (by simp);refine⟨⟨l.mod,S.kind,rfl,rfl,aAj _,λy z c C j=>?_,λy o=>?_,λy c _ h=>?_,λ_=>Y,aFR l.frames,.inr ⟨rfl,rfl⟩,λb z=>absurd z (m b),l.bs,l.bsz,λb _ _=>m b,λb z=>absurd z (m b),l.funs,l.frf⟩,
  rfl,l.bare,Un.kept T,⟨_,x.toInCall.ns,λi y v C j h3=>?_⟩,λy c h=>⟨_,x.cell y c h⟩,l.hok.fresh (aAj _),λy c h=>?_,λp t=>absurd (show p∈([]:R0)from t) (by simp),l.hok.kept T,?_⟩
 .exact name_of_addr x.apart (PySem.mem_of_lookup C) (PySem.mem_of_lookup j)
 .have o:d.names.lookup y=some .cell\/d.names.lookup y=some .free:=o;rcases o with o|o
  .exact BG o
  .exact absurd rfl (S.nofree _<|PySem.mem_of_lookup o)
 .exact aDx (x.above y c<|PySem.mem_of_lookup h)
 .have I:i<L.length:=by
   unfold start at j;by_cases I:i<L.length
   .exact I
   .rw[aAA (by simpa using I)]at j;rw[aBC]at j;split at j<;>cases j
  have ha:L[i]?=some v:=by
   unfold start at j;rw[aAS (by simpa using I),aAE]at j;cases e:L[i]? with
   |none=>rw[e]at j;cases j
   |some a=>rw[e]at j;cases j;rfl
  obtain⟨u,U,rv⟩:=r.get ha;have t:ps[i]?=some y:=by rw[<-S.pre,List.getElem?_take_of_lt (by lia)];exact C
  have B:ps.Nodup:=by rw[<-S.pre];exact S.nd.sublist (List.take_sublist _ _)
  refine⟨u,rv,?_⟩;rcases S.par y (aAu t)with k|k
  .exact .inl ⟨k,uR B t U k⟩
  .obtain⟨c,e⟩:=BG (n:=s.heap.objs.size+1) k;refine .inr ⟨.inl k,c,e,?_⟩;have q:=x.cell y c e;rw[uD B t U (by show d.names.lookup y≠_;rw[k];decide)]at q;exact q
 .exact l.hok.fresh (aDx<|x.above y c<|PySem.mem_of_lookup h)
 .unfold start;show _=N.length;rw[aAC,aAi,aCv]
  lia
def YS {p:UA}{P:ba}{w:be}{K:kc}{mg:cV}{base:bt}{k:Nat}{f:a5}{name qual:Str}{g:Arguments}{body:List bM}{a:iu}{dV kV i pm T ct oc:ao}{an od:Option a5}
  {B:Array (Option ao)} {N ps:List Str} {C:Sp} (lk:K.lookup f=some ⟨oc,od,.func (PySem.W.fnOf name qual g body a dV kV i pm an T ct),B⟩) (eh:PySem.W.codeIn K T qual=true) (S:FnScope N ps a)
  (len:∀L H Q E,C L H Q E->L.length=ps.length)
  (ve:∀(A:bc) (d:List Env) (s:aA) (H:Hp) (L:List V) (Q:VK) (E:XK),Room k (A.deeper (envOfC qual a s.heap.objs.size f T))->C L H Q E->
   ∃t,tL (DA p P w K mg base N qual a f T A d s H E) body t/\t {nx:=λ_ H'=>Q .non H',rt:=Q} (start N L) H):
  FnOk P w K mg base p (k+1) f (PySem.W.fnOf name qual g body a dV kV i pm an T ct) ps C:=by
 refine⟨len,λA d s H args us L Q E O j hb r l=>?_⟩;have hl:=len _ _ _ _ l;have KX:K.In s.heap:=j.mod.kin.keeps λb o e=>(j.bs b o e).1;have U:s.heap.NoLimit:=j.mod.nolimit.keeps λb o e=>(j.bs b o e).1;have nv:∀y∈ps.zip us,a.names.lookup y.1=some .local\/(a.names.lookup y.1=some .cell/\((dz (s.heap.objs.size+1) a.names []).lookup y.1).isSome=true):=λ⟨n,v⟩ hy=>by
  rcases S.par n (aDX hy).1 with q|q
  .exact .inl q
  .exact .inr ⟨q,PySem.W.cellsFrom_some _ _ _ (.inl q)⟩
 refine codeAny_call_function O.depth (KX _ _ lk) rfl S.co S.gen rfl (PySem.W.codeRec_of KX eh) (hb _ _ _ _ ?_);refine wpAny_newFunctionEnv_cells S.kind nv λenv he s1 x=>?_;subst he;refine⟨U.keeps x.toInCall.keep,codeAny_func ?_⟩;obtain⟨t,ht,hq⟩:=ve A d s H L Q E (O.deeper _) l;have I:Inv (DA p P w K mg base N qual a f T A d s H E) [] (start N L) H s1:=LO S O.hd j hl r x;refine aCI (ht [] s1 (start N L) H _ I hq) (λfl Y h=>?_) λe Y h=>h;have m:∀{z:St} {H':Hp} {v:V} {u:ao},Inv (DA p P w K mg base N qual a f T A d s H E) [] z H' Y->RelV v u->Q v H'->CE d P w H s Q u Y:=
  λ{z H' v u} J rv q=>⟨v,H',J.os,J.bare,J.base,J.hok,rv,q⟩
 cases fl with
 |ret u=>obtain⟨v,z,H',J,rv,q⟩:=h;exact m J rv q
 |next=>obtain⟨z,H',J,q⟩:=h;exact m (v:=V.non) (u:=Value.none) J rfl q
 |brk=>obtain⟨_,_,_,q⟩:=h;exact aAh q
 |cont=>obtain⟨_,_,_,q⟩:=h;exact aAh q
section
variable{X:Cx} {x:Str} {p pos:Pos} {e:cf} {es:List cf} {t:TA} {id T:String} {r:List V->Hp->VK->Prop}
end
end L2
namespace HT
open PySem PyProof.Rows
def lexLt:List Int->List Int->Bool
 |[],[]=>false
 |[],_::_=>true
 |_::_,[]=>false
 |x::Y,y::a=>if x=y then lexLt Y a else decide (x<y)
def I9 (x y:Int)(Y ys:List Int):lexLt (x::Y) (y::ys)=if x=y then lexLt Y ys else decide (x<y):=rfl
def Z9:lexLt [] []=false:=rfl
def N0 (y:Int)(ys:List Int):lexLt [] (y::ys)=true:=rfl
def D5 (x:Int)(Y:List Int):lexLt (x::Y) []=false:=rfl
def BI (A:bc)(s:aA)(a:Int)(t:Tok)(c:Int)(u:Tok):∃e,SeqAt.EqAt A s (.int a t) (.int c u) e/\(e=true↔a=c):=
 ⟨(a==c),aFd a t c u,by simp⟩
def AC (A:bc)(s:aA)(a:Int)(t:Tok)(c:Int)(u:Tok)(prog:ba)(w:be)(E:E8)(Q:E8)(h:Q (.bool (decide (a<c))) s):
  av (a9 prog w) A (richCompare .Lt (.int a t) (.int c u)) Q E s:=
 (PyProof.Rows.lt_int h:av (a9 prog w) A (ek .Lt (.int a t) (.int c u)) Q E s)
section
open PySem.SeqAt
open PySem.AutoSeq1 (wpAny_loadPart')
open PySem.MeetsSeq PySem.MeetsSeq2 PySem.MeetsSeq3
def sW (l b:a5)(items m:Array ao)(n n2:Nat)(dd vf:Option a5)(sl ue:Array (Option ao))(ns z:List Int)(T:IntsAre items.toList ns)(U:IntsAre m.toList z):
  Meets (Builtin.«tuple.__lt__» ⟨[.ref l,.ref b],[]⟩)
   (λ_ R s=>s.heap.get? l=some {cls:=.type "tuple",dict:=dd,data:=.seq items n,slots:=sl}/\s.heap.get? b=some {cls:=.type "tuple",dict:=vf,data:=.seq m n2,slots:=ue}/\
    R (.ok (.ret (.bool (lexLt ns z)))) s):=
 .of_wp λj w A R s h=>by
  obtain⟨B,g,d,C,os⟩:=s;obtain⟨hl,hb,h⟩:=h;have f2:=AutoSeq1.sub_tuple_tuple;have z1:items.size=ns.length:=by rw[<-T.length];simp
  have z2:m.size=z.length:=by rw[<-U.length];simp
  wp_walk using aEH hl,aEH hb,aCC _ (λrest b I=>b.1=none/\I=⟨B,g,d,C,os⟩/\∃(L E:List ao) (o p:List Int),rest=L.zip E/\
   IntsAre L o/\IntsAre E p/\o.length+m.size=p.length+items.size/\R (.ok (.ret (.bool (lexLt o p)))) ⟨B,g,d,C,os⟩) _
  case turn=>
   rintro⟨y,x⟩ rest b I ⟨J,rfl,L,E,o,p,i,N,H,f,k⟩;cases N with
   |nil=>rw[List.zip_nil_left]at i;cases i
   |cons a t r=>
    cases H with
    |nil=>rw[List.zip_nil_right]at i;cases i
    |cons c u v=>
     rw[aCc]at i;injection i with O ag;injection O with hy hx;subst hy hx;rw[I9]at k;simp only[aAr]at f;obtain⟨e,he,Y⟩:=BI A.in1 ⟨B,g,d,C,os⟩ a t c u;refine aAa (he j w _ _ ?_);cases e with
     |true=>
      rw[jk (Y.mp rfl)]at k
      wp_walk
      exact⟨rfl,rfl,_,_,_,_,ag,r,v,by lia,k⟩
     |false=>
      rw[ka (λq=>absurd (Y.mpr q) aBg)]at k;have Q:=AC A.in1 ⟨B,g,d,C,os⟩ a t c u j w
      wp_walk using Q
      exact⟨_,rfl,by simpa using k⟩
  case fin=>
   rintro⟨b1,b2⟩ I ⟨J,rfl,L,E,o,p,i,N,H,f,k⟩;simp only at J;subst J;have hv:lexLt o p=decide (items.size<m.size):=by
    cases N with
    |nil=>
     cases H with
     |nil=>simp only[aAR]at f;rw[Z9];exact(decide_eq_false (by lia)).symm
     |cons c u hw=>simp only[aAR,aAr]at f;rw[N0];exact(decide_eq_true (by lia)).symm
    |cons a t hv=>
     cases H with
     |nil=>simp only[aAR,aAr]at f;rw[D5];exact(decide_eq_false (by lia)).symm
     |cons c u hw=>rw[aCc]at i;cases i
   rw[hv]at k
   wp_walk
   exact⟨_,rfl,by simpa[Builtin.Tuple.tupleCompareSizes]using k⟩
  case h=>exact⟨rfl,rfl,items.toList,m.toList,ns,z,rfl,T,U,by lia,h⟩
end
section
variable{prog:ba} {w:be} {A:bc} {E:E8} {s:aA}
def lt_tupInts {Q:E8}(p:IsTup s.heap l items)(q:IsTup s.heap b e)(r:IntsAre items.toList ns)(t:IntsAre e.toList d)(u:A.units<cq)(h:Q (.bool (lexLt ns d)) s):av (a9 prog w) A (ek .Lt (.ref l) (.ref b)) Q E s:=by
 obtain⟨⟨v,y,f,z⟩,g,i,n,j⟩:=id p;obtain⟨⟨k,B,data2,C⟩,m,o,H,a⟩:=id q;simp only at i j o a;subst i j o a;exact richCompare_meets_room (op:=.Lt) ⟨_,g,rfl⟩ ⟨_,m,rfl⟩ PySem.F.slot_tuple_lt PySem.F.entry_tuple_lt (PySem.F.args_tuple_lt_2 _ _) (sW l b items e n H y B z C ns d r t)
  ⟨g,m,show aDD (lexLt ns d)≠Value.notImplemented/\Q (.bool (lexLt ns d)) s from⟨(λx=>nomatch x),h⟩⟩ u
def cat_tup {Q:E8}(u:IsTup s.heap t L.toArray)(v:IsTup s.heap b ws.toArray)(h:L≠[])(x:ws=[]->Q (.ref t) s)(y:ws≠[]->Q (.ref s.heap.objs.size) {s with heap:=s.heap.push {cls:=.type "tuple",data:=.seq (L++ws).toArray}})(z:L.length+ws.length<=sizeLine):av (a9 prog w) A (d7 .Add (.ref t) (.ref b)) Q E s:=by
 obtain⟨⟨cls,i,data,j⟩,d,k,n,l⟩:=id u;obtain⟨⟨m,o,data2,p⟩,f,q,r,a⟩:=id v;simp only at k l q a;subst k l q a;have e:L.toArray++ws.toArray=(L++ws).toArray:=by simp
 by_cases g:ws=[]
 .exact aFL ⟨_,d,rfl⟩ ⟨_,f,rfl⟩ aFx seq_tuple_add PySem.F.slot_tuple_add PySem.F.entry_tuple_add (PySem.F.args_tuple_add_2 _ _)
   (tuple_addW1 t b L.toArray ws.toArray n r i o j p (by simpa using h) (by simp[g])) ⟨d,f,x g⟩
 .refine aFL ⟨_,d,rfl⟩ ⟨_,f,rfl⟩ aFx seq_tuple_add PySem.F.slot_tuple_add PySem.F.entry_tuple_add (PySem.F.args_tuple_add_2 _ _)
   (tuple_addW2 t b L.toArray ws.toArray n r i o j p (by simpa using h) (by simpa using g) (by rw[aAq,aAq];exact z)) ⟨d,f,?_⟩
  rw[e];exact y g
def sIx (n d:Nat):Option Int->Nat
 |none=>d
 |some v=>if v<0 then(v+(n:Int)).toNat else min v.toNat n
def yy (n d:Nat):sIx n d none=d:=rfl
def sIx_nat (n d k:Nat):sIx n d (some (k:Int))=min k n:=by show(if(k:Int)<0 then((k:Int)+(n:Int)).toNat else min (k:Int).toNat n)=min k n;rw[ka (by lia),aBx]
def gy (n d:Nat)(b:d<=n)(o:Option Int):sIx n d o<=n:=by
 cases o with
 |none=>exact b
 |some v=>
  show(if v<0 then(v+(n:Int)).toNat else min v.toNat n)<=n;by_cases a:v<0
  .rw[jk a];lia
  .rw[ka a];exact Nat.min_le_right _ _
def HQ (v:Int)(n d:Nat):(if v<0 then max (v+(n:Int)) 0 else min v (n:Int))=((sIx n d (some v):Nat):Int):=by
 show(if v<0 then max (v+(n:Int)) 0 else min v (n:Int))=(((if v<0 then(v+(n:Int)).toNat else min v.toNat n):Nat):Int);by_cases a:v<0
 .simp only[jk a];lia
 .simp only[ka a];lia
def FJ (lo a:Option Int)(n:Nat):aDK lo a 1 (n:Int)=(((sIx n 0 lo:Nat):Int),((sIx n n a:Nat):Int)):=by
 have b:¬((1:Int)<0):=by lia
 unfold aDK;simp only[b,if_false];refine aEY ?_ ?_
 .cases lo with
  |none=>rfl
  |some v=>exact HQ v n 0
 .cases a with
  |none=>rfl
  |some v=>exact HQ v n n
def FK (i j:Nat):aCU (i:Int) (j:Int) 1=j-i:=by
 unfold aCU;have a:(1:Int)>0:=by lia
 simp only[a,if_true,Int.ediv_one];split<;>lia
def qY {Q:Option Int->aA->Prop}(p:IsPart v o)(h:Q o s):av (a9 prog w) A (Builtin.Slice.slicePartIndex v) Q E s:=by
 cases p with
 |none=>exact slicePart_none h
 |int i t=>exact slicePart_int h
def lK {sl:a5}{d e:ao}{lo a:Option Int}{n:Nat}{Q:Int×Int×Nat->aA->Prop}(g:s.heap.IsSliceOf sl d e .none)(i:IsPart d lo)(j:IsPart e a)
  (h:Q (((sIx n 0 lo:Nat):Int),1,sIx n n a-sIx n 0 lo) s):av (a9 prog w) A (aES (.ref sl) (pure (n:Int))) Q E s:=by
 obtain⟨os,b,k,f⟩:=id g;unfold aES Builtin.Slice.sliceFields;refine aAa (aAa<|aCV b f (x:=d) rfl<|aAa<|aCV b f (x:=e) rfl<|aAa<|aCV b f (x:=.none) rfl<|aAb ?_);refine aAa (slicePart_none ?_);show av _ _ (if((1:Int)==0)=true then _ else _) _ _ s;rw[ka (by decide)];refine aAa (qY i<|aAa<|qY j<|aAa<|aAb ?_);show av _ _ (match aDK lo a 1 (n:Int)with|(lo,a)=>pure (lo,(1:Int),aCU lo a 1)) _ _ s;rw[FJ lo a n];show av _ _ (pure (((sIx n 0 lo:Nat):Int),(1:Int),aCU ((sIx n 0 lo:Nat):Int) ((sIx n n a:Nat):Int) 1)) _ _ s;rw[FK];exact aAb h
def MR (Y:Array ao)(i k:Nat):((aAQ k).filterMap λ(m:Nat)=>Y[((i:Int)+(m:Int)*1).toNat]?).toArray=((Y.toList.drop i).take k).toArray:=by
 have e:(λ(m:Nat)=>Y[((i:Int)+(m:Int)*1).toNat]?)=λm=>Y[i+m]?:=by
  funext m
  have:((i:Int)+(m:Int)*1).toNat=i+m:=by lia
  rw[this]
 rw[e];have:=pick_run Y i k;rw[aDp]at this;have a:((λx=>Y[x]?)∘λx=>i+x)=λm=>Y[i+m]?:=rfl;rw[a]at this;rw[this]
def getItem_tuple_cut {t sl:a5}{items:Array ao}{i j:ao}{lo a:Option Int}{Q:E8}(b:IsTup s.heap t items)(k:s.heap.IsSliceOf sl i j .none)(l:IsPart i lo)(n:IsPart j a)
  (o:¬(sIx items.size 0 lo=0/\sIx items.size items.size a=items.size))
  (h:Q (.ref s.heap.objs.size) {s with heap:=s.heap.push {cls:=.type "tuple",data:=.seq ((items.toList.drop (sIx items.size 0 lo)).take (sIx items.size items.size a-sIx items.size 0 lo)).toArray}})
  (r:items.size<=sizeLine):av (a9 prog w) A (getItem (.ref t) (.ref sl)) Q E s:=by
 have d:sizeOk (.seq ((items.toList.drop<|sIx items.size 0 lo).take (sIx items.size items.size a-sIx items.size 0 lo)).toArray):=by
  show((items.toList.drop<|sIx items.size 0 lo).take (sIx items.size items.size a-sIx items.size 0 lo)).toArray.size<=sizeLine;rw[aAq,aBV,aDO,aBj]
  lia
 have u:sIx items.size items.size a<=items.size:=gy _ _ (aAj _) a;obtain⟨os,e,p,v⟩:=id k;have f:s.TypeIs (.ref sl) "slice":=⟨os,e,p⟩;unfold getItem;try with_reducible refine aAN ?_
 first|refine aAa (aAb ?_)|skip
 refine aAa (wpAny_sequenceKey b.typeIs (by decide) ?_);refine aAa (aCe (name:=aDe "__getitem__") b.typeIs aCH
  (aBn aCH b.typeIs entry_tuple_getitem ?_ (args_tuple_getitem _ _)))
 show av _ _ (aDH (.ref t)>>=_) _ _ s;refine aAa (tupleItemsOf_ b ?_);refine aAa (aDT f ?_);rw[jk (by decide)];refine aAa (lK k l n ?_);have g:¬((((sIx items.size 0 lo:Nat):Int)==0&&(1:Int)==1&&(sIx items.size items.size a-sIx items.size 0 lo)==items.size)=true):=by intro q;rw[aAO,aAO]at q;have x:((sIx items.size 0 lo:Nat):Int)=0:=eq_of_beq q.1.1;have y:sIx items.size items.size a-sIx items.size 0 lo=items.size:=eq_of_beq q.2;exact o ⟨by lia,by lia⟩
 show av _ _ (if(((sIx items.size 0 lo:Nat):Int)==0&&(1:Int)==1&&(sIx items.size items.size a-sIx items.size 0 lo)==items.size)=true then _ else _) _ _ s;rw[ka g,MR];first
  |exact aAa (m:=aCZ _) (aAY (aAb ⟨_,rfl,aAb h⟩) d)
  |exact aAa (m:=aCZ _) (aAY (aAa<|aAb<|aAb ⟨_,rfl,aAb h⟩) d)
  |exact aAa (aAa (m:=aCZ _)<|aAY (aAb<|aAb ⟨_,rfl,aAb h⟩) d)
  |exact aAa (aAa (m:=aCZ _)<|aAY (aAb ⟨_,rfl,aAb h⟩) d)
end
end HT
namespace L2
open PySem PySem.Spec PyProof.Rows
abbrev TO:=St->Hp->(Option Int->Hp->Prop)->Prop
def PO (X:Cx)(e:Option cf)(t:TO):Prop:=
 ∀(a:R0) (s:aA) (σ:St) (H:Hp) (Q:Option Int->Hp->Prop),Inv X a σ H s->t σ H Q->
  av (a9 X.prog X.w) X.A (evalPart e X.env) (λu d=>∃o b,Inv X a σ b d/\IsPart u o/\Q o b) X.xe s
def VF:TO:=λ_ H Q=>Q none H
def a0r (t:TE):TO:=λσ H Q=>t σ H λx a=>∃i,x=.int i/\Q (some i) a
section
variable{X:Cx} {e:cf} {te:TE} {lo hi:Option cf} {tl th:TO} {pos p2:Pos}
def YC:PO X none VF:=by intro a s σ H Q I h;rw[evalPart_none];exact aAb ⟨none,H,I,.none,h⟩
def UI (h:PE X e te):PO X (some e) (a0r te):=by intro a s σ H Q I b;rw[evalPart_some];refine G5 (h a s σ H _ I b) λu k ⟨x,d,f,g,j⟩=>?_;obtain⟨i,rfl,q⟩:=j;obtain⟨t,rfl⟩:=g;exact⟨some i,d,f,.int i t,q⟩
def pj (X:Cx)(r:V->Option Int->Option Int->Hp->VK->Prop):Prop:=
 ∀(a:R0) (s:aA) (σ:St) (H:Hp) (x:V) (v b d:ao) (lo hi:Option Int) (f:a5) (Q:VK),Inv X a σ H s->RelV x v->s.heap.IsSliceOf f b d .none->IsPart b lo->IsPart d hi->r x lo hi H Q->
  ∃T id,typeLookup (.type T) "__getitem__"=pure (some<|.builtin id)/\s.TypeIs v T/\av (a9 X.prog X.w) X.A (getItem v<|.ref f) (EP X a σ Q) X.xe s
def pj.or {r b:V->Option Int->Option Int->Hp->VK->Prop}(h:pj X r)(h':pj X b):pj X (λx lo hi H Q=>r x lo hi H Q\/b x lo hi H Q):=by
 intro a s σ H x v d f lo hi g Q I i j k l q;rcases q with q|q
 .exact h a s σ H x v d f lo hi g Q I i j k l q
 .exact h' a s σ H x v d f lo hi g Q I i j k l q
def tSl (r:V->Option Int->Option Int->Hp->VK->Prop)(te:TE)(tl th:TO):TE:=λσ H Q=>te σ H λx a=>tl σ a λl b=>th σ b λu d=>r x l u d Q
def OJ {r:V->Option Int->Option Int->Hp->VK->Prop}(j:pj X r)(k:PE X e te)(m:PO X lo tl)(n:PO X hi th):PE X (.Subscript e (.Slice lo hi none p2) pos) (tSl r te tl th):=by intro a s σ H Q I h;refine Subscript_ (G5 (k a s σ H _ I h) λv o ⟨x,p,t,y,z⟩=>?_);refine wpAny_Slice (G5 (m a o σ p _ t z) λf B ⟨l,C,E,J,L⟩=>G5 (n a B σ C _ E L) λg d ⟨u,i,N,O,U⟩=>?_);rw[evalPart_none];refine aAb ?_;have Y:Inv X a σ i {d with heap:=d.heap.push {cls:=.type "slice",data:=.fields #[f,g,.none]}}:=N.kept (t':=d.toks) λb ob q=>aAc _ q;obtain⟨T,id,hT,ht,hg⟩:=j a {d with heap:=d.heap.push {cls:=.type "slice",data:=.fields #[f,g,.none]}} σ i x v f g l u d.heap.objs.size Q Y y (Heap.IsSliceOf.new ..) J O U;show av (a9 X.prog X.w) X.A (subscriptTail e (.Slice lo hi none p2) v<|.ref d.heap.objs.size) (EP X a σ Q) X.xe {d with heap:=d.heap.push {cls:=.type "slice",data:=.fields #[f,g,.none]}};exact tail_any (ops:=[.ref d.heap.objs.size,v]) ht hT hg (by with_unfolding_all rfl)
def yS (Y:List V)(lo hi:Option Int):List V:=(Y.drop<|HT.sIx Y.length 0 lo).take (HT.sIx Y.length Y.length hi-HT.sIx Y.length 0 lo)
def nB (Y:List V)(lo hi:Option Int):(yS Y lo hi).length<=Y.length:=by
 unfold yS;rw[aBV,aDO]
 lia
def xw (K:kc):V->Option Int->Option Int->Hp->VK->Prop:=λx lo hi H Q=>∃a Y,x=.ref a/\Z0 K H a Y/\
 ¬(HT.sIx Y.length 0 lo=0/\HT.sIx Y.length Y.length hi=Y.length)/\∀p,H p=none->Q (.ref p) (upd H p<|.tup (yS Y lo hi))
def iz:pj X (xw X.K):=by
 intro g s σ H x v u w lo hi y Q I k l m n h;obtain⟨a,Y,rfl,p,t,q⟩:=h;cases k;obtain⟨f,r,i,j⟩:=I.tuple p;have d:f.toArray.size=Y.length:=by rw[aAq];exact r.length.symm
 refine⟨"tuple",_,aCH.lookup,i.typeIs,?_⟩;refine HT.getItem_tuple_cut i l m n (by rw[d];exact t) ?_ (by rw[d];exact j);rw[d];refine⟨.ref s.heap.objs.size,_,I.laid (t':=s.toks) (o:=.tup (yS Y lo hi)) (λb z q=>aAc _ q) (aAj _) ?_,rfl,q _ (I.hok.fresh<|aAj _)⟩;exact⟨aAs (nB Y lo hi) j,_,(r.drop<|HT.sIx Y.length 0 lo).take (HT.sIx Y.length Y.length hi-HT.sIx Y.length 0 lo),IsTup.new _ _⟩
def a1e (K:kc):R2:=λx y H Q=>∃a b Y d,x=.ref a/\y=.ref b/\Z0 K H a Y/\Z0 K H b d/\Y≠[]/\Y.length+d.length<=sizeLine/\
 (d=[]->Q (.ref a) H)/\(d≠[]->∀p,H p=none->Q (.ref p) (upd H p<|.tup (Y++d)))
def p9.ac3 (r:p9 Y a):a=[]↔Y=[]:=by
 cases r with
 |nil=>simp
 |cons _ _=>simp
def HI:nS X (d7 .Add) (a1e X.K):=by intro g s σ H x y v u Q I j k h;obtain⟨a,b,Y,l,rfl,rfl,m,n,p,i,r,t⟩:=h;cases j;cases k;obtain⟨A,f,B,_⟩:=I.tuple m;obtain⟨C,d,p2,_⟩:=I.tuple n;refine HT.cat_tup B p2 (λz=>p (f.ac3.mp z)) (λz=>⟨.ref a,H,I,rfl,r (d.ac3.mp z)⟩) (λz=>?_) (by rw[<-f.length,<-d.length];exact i);refine⟨.ref s.heap.objs.size,_,I.laid (t':=s.toks) (o:=.tup (Y++l)) (λb E q=>aAc _ q) (aAj _) ?_,rfl,t (λw=>z (d.ac3.mpr w)) _ (I.hok.fresh<|aAj _)⟩;exact⟨by rw[aAC];exact i,_,f.append d,IsTup.new _ _⟩
end
def YW (n:Nat)(i:Int):Option Nat:=if 0<=i then(if i<n then some i.toNat else none)else if-(n:Int)<=i then some (i+n).toNat else none
def rP {α:Type}(Y:List α)(i:Int):Option α:=(YW Y.length i).bind λj=>Y[j]?
def VI (h:YW n i=some j):seqIndex? i n=some j/\j<n/\-(n:Int)<=i/\i<n:=by
 unfold YW at h;by_cases b:0<=i
 .rw[jk b]at h;by_cases a:i<n
  .rw[jk a]at h;have e:i.toNat=j:=aAm h;exact⟨by rw[seqIndex_of b a,e],by lia,by lia,a⟩
  .rw[ka a]at h;cases h
 .rw[ka b]at h;by_cases a:-(n:Int)<=i
  .rw[jk a]at h;have e:(i+n).toNat=j:=aAm h;exact⟨by rw[seqIndex_neg (by lia) a,e],by lia,a,by lia⟩
  .rw[ka a]at h;cases h
def GD {α:Type}{Y:List α}{i:Int}{v:α}(h:rP Y i=some v):∃j,seqIndex? i Y.length=some j/\Y[j]?=some v/\j<Y.length/\-(Y.length:Int)<=i/\i<Y.length:=by
 unfold rP at h;cases e:YW Y.length i with
 |none=>rw[e]at h;cases h
 |some j=>rw[e]at h;obtain⟨a,b,d,f⟩:=VI e;exact⟨j,a,h,b,d,f⟩
def VB (b:cf):Prop:=∀o i,subscripted b false o i=operate [o,i] (getItem o i)
def IxR (X:Cx)(r:R2):Prop:=
 ∀(d a:cf) (b:R0) (s:aA) (σ:St) (H:Hp) (x y:V) (v u:ao) (Q:VK),Inv X b σ H s->RelV x v->RelV y u->r x y H Q->
  subscripted a false v u=operate [v,u] (getItem v u)->av (a9 X.prog X.w) X.A (subscriptTail d a v u) (EP X b σ Q) X.xe s
def MtR (X:Cx)(id:String)(r:V->List V->Hp->VK->Prop):Prop:=
 ∀(a:R0) (s:aA) (σ:St) (H:Hp) (x:V) (Y:List V) (v:ao) (b:List ao) (Q:VK),Inv X a σ H s->RelV x v->p9 Y b->r x Y H Q->
  av (a9 X.prog X.w) X.A (call (.builtin id) (v::b)) (EP X a σ Q) X.xe s
section
variable{X:Cx} {a b:cf} {ta tb:TE} {pos:Pos}
def a2u (K:kc):R2:=λx y H Q=>∃p Y i v,x=.ref p/\y=.int i/\P4 K H p Y/\rP Y i=some v/\Q v H
def a2n (K:kc):R2:=λx y H Q=>∃p Y i v,x=.ref p/\y=.int i/\Z0 K H p Y/\rP Y i=some v/\Q v H
def VX:IxR X (a2u X.K):=by
 intro g k d s σ H x y v u Q I C E h o;obtain⟨p,Y,i,z,rfl,rfl,J,L,q⟩:=h;cases C;obtain⟨t,rfl⟩:=E;obtain⟨l,r,m,hz⟩:=I.list J;obtain⟨j,f,N,h3,O,T⟩:=GD L;obtain⟨w,A,U⟩:=r.get N;have hl:=r.length;have hn:=CM;have e:EP X d σ Q w s:=⟨z,H,I,U,q⟩;by_cases B:0<=i
 .have n:i.toNat=j:=by rw[seqIndex_of B T]at f;exact aAm f
  exact item_listR m.isList B (by lia) (by rw[n];simpa using A) e o
 .have n:(i+(l.toArray.size:Int)).toNat=j:=by rw[seqIndex_neg (by lia) O]at f;rw[aAq,<-hl];exact aAm f
  exact subscriptTail_builtinR (x:=w) m.isList.typeIs slot_list_getitem.lookup
   (wpAny_getItem_list_neg (Q:=λr s'=>r=w/\EP X d σ Q r s') m.isList (by lia) (by rw[aAq]<;>lia) (by lia) (by rw[n];simpa using A) ⟨rfl,e⟩) o
def rz:IxR X (a2n X.K):=by
 intro e f d s σ H x y v u Q I l m h n;obtain⟨p,Y,i,z,rfl,rfl,o,A,q⟩:=h;cases l;obtain⟨t,rfl⟩:=m;obtain⟨B,r,k,T⟩:=I.tuple o;obtain⟨j,C,E,U,h4,h5⟩:=GD A;obtain⟨w,J,L⟩:=r.get E;have N:=r.length;have hn:=CM;have g:EP X d σ Q w s:=⟨z,H,I,L,q⟩;exact subscriptTail_builtinR (x:=w) k.typeIs aCH.lookup
  (getItem_tuple (j:=j) (Q:=λr O=>r=w/\EP X d σ Q r O) k (by lia) (by lia) (by rw[aAq,<-N];exact C) (by simpa using J) ⟨rfl,g⟩) n
def wT (lo d:Option Int)(n:Nat):(gn lo d none n).1=((HT.sIx n 0 lo:Nat):Int)/\(gn lo d none n).2.1=((HT.sIx n n d:Nat):Int)/\(gn lo d none n).2.2=1:=by
 refine⟨?_,?_,rfl⟩
 .cases lo with
  |none=>simp[gn,HT.sIx]
  |some i=>
   simp only[gn,HT.sIx,Option.getD_none,show(1:Int)>0 by decide,if_true];by_cases h:i<0
   .simp only[h,if_true]<;>lia
   .simp only[h,if_false]<;>lia
 .cases d with
  |none=>simp[gn,HT.sIx]
  |some i=>
   simp only[gn,HT.sIx,Option.getD_none,show(1:Int)>0 by decide,if_true];by_cases h:i<0
   .simp only[h,if_true]<;>lia
   .simp only[h,if_false]<;>lia
def sH (d:List ao)(lo e:Option Int):slicePick d.toArray lo e none=((d.drop (HT.sIx d.length 0 lo)).take (HT.sIx d.length d.length e-HT.sIx d.length 0 lo)).toArray:=by obtain⟨f,g,h⟩:=wT lo e d.toArray.size;unfold slicePick;rw[f,g,h];simp only[sliceRange_one,pick_run,aAq]<;>rfl
def a0i (K:kc):V->Option Int->Option Int->Hp->VK->Prop:=λx lo d H Q=>∃a Y,x=.ref a/\P4 K H a Y/\∀p,H p=none->Q (.ref p) (upd H p<|.lst (yS Y lo d))
def UH:pj X (a0i X.K):=by intro e s σ H x v p t lo d u Q I g i j k h;obtain⟨a,Y,rfl,l,q⟩:=h;cases g;obtain⟨m,r,f,n⟩:=I.list l;have hlen:=r.length;refine⟨"list",_,slot_list_getitem.lookup,f.isList.typeIs,?_⟩;refine wpAny_getItem_list_slice f.isList i j k .none (by simp) ?_ (by rw[aAq]<;>lia);rw[sH,<-hlen];refine⟨.ref s.heap.objs.size,_,I.laid (t':=s.toks) (o:=.lst (yS Y lo d)) (λb w q=>aAc _ q) (aAj _) ?_,rfl,q _ (I.hok.fresh<|aAj _)⟩;exact⟨aAs (nB Y lo d) n,_,0,(r.drop<|HT.sIx Y.length 0 lo).take (HT.sIx Y.length Y.length d-HT.sIx Y.length 0 lo),aAp _ rfl⟩
def a0o:V->Bool
 |.non=>true
 |.bl _=>true
 |.int _=>true
 |.str _=>true
 |_=>false
def jZ:BQ X (.builtin "len") (λY H Q=>∃p ys,Y=[.ref p]/\(P4 X.K H p ys\/Z0 X.K H p ys)/\Q (.int ys.length) H):=by
 intro j s σ H Y m Q I r h;obtain⟨p,ys,rfl,e,q⟩:=h;obtain⟨u,rfl,k⟩:=vals1 r;cases k;have n:=CM;rcases e with e|e
 .obtain⟨f,g,i,l⟩:=I.list e;have d:=g.length;exact Calls.call_len_list i.isList (by simp only[aAq]<;>lia) ⟨.int ys.length,H,I.tok _,⟨s.toks+1,by rw[aAq,d]⟩,q⟩
 .obtain⟨f,g,i,l⟩:=I.tuple e;have d:=g.length;exact len_tuple i (by simp only[aAq]<;>lia) ⟨.int ys.length,H,I.tok _,⟨s.toks+1,by rw[aAq,d]⟩,q⟩
def jM:BQ X (.type "list") (λY H Q=>∃p ys,Y=[.ref p]/\(P4 X.K H p ys\/Z0 X.K H p ys)/\∀l,H l=none->Q (.ref l) (upd H l (.lst ys))):=by
 intro j s σ H Y J Q I r h;obtain⟨p,ys,rfl,k,q⟩:=h;obtain⟨u,rfl,E⟩:=vals1 r;cases E;have m:∀(d:List ao),p9 ys d->ys.length<=sizeLine->∀(f:bt) (g:Nat),(∀b C,s.heap.get? b=some C->f.get? b=some C)->
   f.get? s.heap.objs.size=some {cls:=.type "list",dict:=none,data:=.seq d.toArray g,slots:=#[]}->EP X j σ Q (.ref s.heap.objs.size) {s with heap:=f}:=λd i t f g v e=>
  ⟨.ref s.heap.objs.size,_,I.laid (t':=s.toks) v (aAj _) (show ObjOk X.prog X.w _ f _ (.lst ys)from⟨t,d,g,i,e⟩),rfl,q _ (I.hok.fresh<|aAj _)⟩
 rcases k with k|k
 .obtain⟨d,i,y,t⟩:=I.list k;have x:=i.length;obtain⟨o,z,A,n,B⟩:=y.isList;exact call_list_seq p (.inl rfl) z A B (λf g v e=>m d i t f g v e) (by simp only[aAq]<;>lia)
 .obtain⟨d,i,y,t⟩:=I.tuple k;have x:=i.length;obtain⟨o,z,A,n,B⟩:=y;exact call_list_seq p (.inr rfl) z A B (λf g v e=>m d i t f g v e) (by simp only[aAq]<;>lia)
def tyV (K : kc) (T : String) (x : V) (H : Hp) : Prop := match x with
  | .str _ => T = "str"
  | .int _ => T = "int"
  | .ref p => (T = "list" ∧ ∃ Y, P4 K H p Y) ∨ (T = "tuple" ∧ ∃ o, K.lookup p = some o ∧ o.cls = .type "tuple" ∧ o.dict = none) ∨
      (T = "dict" ∧ ((∃ N, H p = some (.dK N)) ∨ ∃ N, H p = some (.dT N))) ∨ (T = "set" ∧ ∃ S n, H p = some (.set S n))
  | _ => False
def OL (I:Inv X k σ H s)(r:RelV x v)(g:tyV X.K T x H):
  s.TypeIs v T/\∀a,v=.ref a->∃l,s.heap.get? a=some l/\l.dict=none:=by
 cases x with
 |str z=>obtain⟨t,rfl⟩:=r;cases(show T= "str"from g);exact⟨typeIs_str s z t,λ_ e=>nomatch e⟩
 |int i=>obtain⟨t,rfl⟩:=r;cases(show T= "int"from g);exact⟨typeIs_int s i t,λ_ e=>nomatch e⟩
 |ref p=>
  cases r;rcases g with⟨rfl,Y,q⟩|⟨rfl,o,d,u,h⟩|⟨rfl,d⟩|⟨rfl,S,n,d⟩
  .obtain⟨w,_,m,_⟩:=I.list q;refine⟨m.isList.typeIs,λa e=>?_⟩;cases e;obtain⟨o,n,e,c,h,_⟩:=m;exact⟨o,e,h⟩
  .refine⟨⟨o,I.kIn p o d,u⟩,λa e=>?_⟩;cases e;exact⟨o,I.kIn _ o d,h⟩
  .have z:∃o,s.heap.get? p=some o/\o.ExactDict:=by
    rcases d with⟨N,d⟩|⟨N,d⟩
    .obtain⟨_,_,_,_,o,_,_,e,f,_⟩:=I.hok p _ d;exact⟨o,e,f⟩
    .obtain⟨_,_,_,_,o,_,_,e,f,_⟩:=I.hok p _ d;exact⟨o,e,f⟩
   obtain⟨o,e,f⟩:=z;refine⟨⟨o,e,f.1⟩,λa j=>?_⟩;cases j;exact⟨o,e,f.2.1⟩
  .obtain⟨o,_,_,_,e,f,_⟩:=I.hok p _ d;refine⟨⟨o,e,f.1⟩,λa j=>?_⟩;cases j;exact⟨o,e,f.2.1⟩
 |_=>exact aAh g
def a3r (K:kc)(T:String)(r:V->List V->Hp->VK->Prop)(e:TE):TE:=λσ H Q=>e σ H λx d=>tyV K T x d/\r x [] d Q
def tBM (K:kc)(T:String)(r:V->List V->Hp->VK->Prop)(e:TE)(t:TA):TE:=λσ H Q=>e σ H λx d=>tyV K T x d/\t σ d λY f=>r x Y f Q
variable{o e:cf} {es:List cf} {to:TE} {t:TA} {name:Str} {apos au:Pos} {T id:String} {r:V->List V->Hp->VK->Prop}
def FW (j:PlainAttrs T)(slot:Slot T name id)(f:typeOf (.builtin id)=pure (.type "method_descriptor"))(k:MtR X id r)(l:PE X o to)
  (m:eY o name X.env (cv o X.env)=cv o X.env:=by rfl) (n:(apos.endLine==au.line)=true:=by rfl):PE X (.Call (.Attribute o name apos) [] [] au) (a3r X.K T r to):=by
 intro d s σ H Q I h;refine wpAny_Call_method0_late m n (G5 (l d s σ H _ I h) λv p ⟨x,q,g,i,u,w⟩=>?_);obtain⟨y,z⟩:=OL g i u;exact⟨T,id,j,slot,f,y,z,aFD rfl (PySem.evalArgs_none<|k d p σ q x [] v [] Q g i .nil w)⟩
def ZG (k:PlainAttrs T)(slot:Slot T name id)(f:typeOf (.builtin id)=pure (.type "method_descriptor"))(l:MtR X id r)(m:PE X o to)(n:PA X (e::es) t)
  (p:eY o name X.env (cv o X.env)=cv o X.env:=by rfl)
  (q:((cp au (az (e::es) X.env)).all (λx=>!x.1)&&(backToKw au (keywordEach [] X.env)).all (λx=>x.1.isSome)
   &&decide ((e::es).length+([]:List Keyword).length+(if([]:List Keyword).isEmpty then 0 else 1)<30))=true:=by rfl)
  (u:(apos.endLine==au.line)=true:=by rfl) (w:az (e::es) X.env=(false,cv e X.env)::az es X.env:=by rfl) (y:(cp au (az es X.env)).any (·.1)=false:=by rfl):
  PE X (.Call (.Attribute o name apos) (e::es) [] au) (tBM X.K T r to t):=by
 intro d s σ H Q I h;refine wpAny_Call_method_late p q u rfl (G5 (m d s σ H _ I h) λv z ⟨x,A,g,i,B,C⟩=>?_);obtain⟨E,J⟩:=OL g i B;refine⟨T,id,k,slot,f,E,J,?_⟩;have j:=n au d z σ A _ g C;rw[w]at j⊢;refine aFD (by show(false||(cp au<|az es X.env).any (·.1))=false;rw[y]<;>rfl) (Calls.evalArgs_plain ?_);exact G5 j λN O ⟨L,U,Y,r2,q2⟩=>l d O σ U x L v N Q Y i r2 q2
end
def MtM (X:Cx)(id:String)(r:V->List V->Hp->VK->Prop):Prop:=
 ∀(a:R0) (s:aA) (σ:St) (H:Hp) (x:V) (Y:List V) (v:ao) (b:List ao) (Q:VK),Inv X a σ H s->RelV x v->p9 Y b->r x Y H Q->
  av (a9 X.prog X.w) X.A (call (.builtin id) (v::b)) (EP X a σ Q) X.xe s
theorem p9.one:∀{x:V} {a:List ao},p9 [x] a->∃u,a=[u]/\RelV x u
 |_,_,.cons r .nil=>⟨_,rfl,r⟩
theorem p9.zero:∀{a:List ao},p9 [] a->a=[]
 |_,.nil=>rfl
def p9.dropLast (h:p9 Y a):p9 Y.dropLast a.dropLast:=by
 induction h with
 |nil=>exact .nil
 |cons r t b=>
  cases t with
  |nil=>exact .nil
  |cons q d=>exact .cons r b
def DV {α:Type}(l:List α):l.eraseIdx (l.length-1)=l.dropLast:=by
 induction l with
 |nil=>rfl
 |cons a r d=>
  cases r with
  |nil=>rfl
  |cons b r=>
   have e:(a::b::r).length-1=((b::r).length-1)+1:=by
    have f:(a::b::r).length=r.length+2:=rfl;have g:(b::r).length=r.length+1:=rfl
    lia
   rw[e,aFs,d]
   all_goals rfl
section
variable{X:Cx} {pins:R0} {σ:St} {H:Hp} {s:aA} {l b:a5} {Y ys zs:List V}
def Inv.ae8 {a its':List ao}{n:Nat}{f:Array ao->Array ao}{t':Nat}(I:Inv X pins σ H s)(d:H l=some (.lst Y))
  (e:s.heap.get? l=some {cls:=.type "list",data:=.seq a.toArray n}) (g:f a.toArray=its'.toArray) (h:p9 ys its') (hz:ys.length<=sizeLine):
  Inv X pins σ (upd H l (.lst ys)) {s with heap:=s.heap.update l (aBQ f),toks:=t'}:=by
 have q:=PySem.IsL.update e f;rw[g]at q;refine I.write (x:=l) (e:=l) (by rw[d];exact trivial) (.inl rfl) (λk u i j=>(aAF s.heap (aBQ f)<|aCA i).trans j) ⟨_,q⟩ ?_;exact⟨hz,its',_,h,q⟩
def Inv.af8 (I:Inv X pins σ H s)(d:p9 ys a)(hz:ys.length<=sizeLine):
  Inv X pins σ (upd H s.heap.objs.size (.lst ys)) {s with heap:=s.heap.push {cls:=.type "list",data:=.seq a.toArray},toks:=t'}:=
 I.laid (λ_ _ q=>aAc _ q) (aAj _) ⟨hz,a,0,d,aAp _ rfl⟩
def Inv.fresh (I:Inv X pins σ H s):H s.heap.objs.size=none:=I.hok.fresh (aAj _)
def Inv.ae5 (I:Inv X pins σ H s)(d:H l=some (.lst Y)):Y.length<=sizeLine/\∃(a:List ao) (n:Nat),p9 Y a/\Y.length=a.length/\s.heap.get? l=some {cls:=.type "list",data:=.seq a.toArray n}:=by obtain⟨z,a,n,r,e⟩:=I.hok l _ d;exact⟨z,a,n,r,r.length,e⟩
def RJ (h:n<=sizeLine):aDa n=false:=by unfold aDa;exact decide_eq_false (by lia)
end
section
variable{X:Cx}
def XI:V->List V->Hp->VK->Prop:=λx L H Q=>∃l Y y,x=.ref l/\L=[y]/\H l=some (.lst Y)/\Y.length<sizeLine/\Q .non (upd H l<|.lst (Y++[y]))
def uX:MtM X "list.append" XI:=by
 intro b s σ H x L v j Q I f g h;obtain⟨l,Y,y,rfl,rfl,d,k,q⟩:=h;cases f;obtain⟨u,rfl,i⟩:=g.one;obtain⟨z,a,n,r,m,e⟩:=I.ae5 d;refine call_meets F.slot_list_append ⟨_,e,rfl⟩ F.entry_list_append (F.args_list_append_2 _ _) (PySem.list_append l a.toArray n u (by rw[aAq];lia)) ⟨e,?_⟩;refine⟨.non,_,I.ae8 (its':=a++[u]) d e (by simp) (r.append<|.cons i .nil) ?_,rfl,q⟩;rw[aAC,List.length_singleton]
 lia
def a3b:V->List V->Hp->VK->Prop:=λx L H Q=>∃l Y y,x=.ref l/\L=[]/\H l=some (.lst Y)/\Y[Y.length-1]?=some y/\Q y (upd H l<|.lst Y.dropLast)
def RN:MtM X "list.pop" a3b:=by
 intro f s σ H x L v t Q I i j h;obtain⟨l,Y,y,rfl,rfl,g,k,q⟩:=h;cases i;have b:=j.zero;subst b;obtain⟨z,a,n,r,m,e⟩:=I.ae5 g;obtain⟨u,o,p⟩:=r.get k;have d:a.toArray[a.toArray.size-1]?=some u:=by show a.toArray[a.length-1]?=some u;rw[<-aAB,<-m];exact o
 refine call_meets F.slot_list_pop ⟨_,e,rfl⟩ F.entry_list_pop (F.args_list_pop_1 _) (MeetsSeq.list_pop_last l a.toArray n u d (by rw[aAq];lia)) ⟨e,?_⟩;refine⟨y,_,I.ae8 (its':=a.dropLast) g e ?_ r.dropLast ?_,p,q⟩
 .show a.toArray.eraseIdxIfInBounds (a.toArray.size-1)=a.dropLast.toArray;rw[aAq,List.eraseIdxIfInBounds_toArray,DV]
 .rw[aFS]
  lia
def sk:V->List V->Hp->VK->Prop:=λx L H Q=>∃l Y,x=.ref l/\L=[]/\H l=some (.lst Y)/\Q .non (upd H l<|.lst [])
def PX:MtM X "list.clear" sk:=by intro d s σ H x L v j Q I g i h;obtain⟨l,Y,rfl,rfl,f,q⟩:=h;cases g;have a:=i.zero;subst a;obtain⟨z,b,n,r,k,e⟩:=I.ae5 f;refine call_meets F.slot_list_clear ⟨_,e,rfl⟩ F.entry_list_clear (F.args_list_clear_1 _) (AutoSeq1.list_clear_list_0 l b.toArray n (by rw[aAq];lia)) ⟨e,?_⟩;exact⟨.non,_,I.ae8 (its':=[]) (ys:=[]) f e rfl .nil (aAM _),rfl,q⟩
end
section
variable{prog:ba} {w:be} {A:bc} {E:E8} {s:aA}
end
section
variable{X:Cx}
end
end L2
namespace Att
open PySem PySem.W PySem.Calls PyProof.Rows
def nW:∀(ns:List Int) (L:List ao),WellAll P h L (ns.map WData.int)->IntsAre L ns:=by
 intro ns;induction ns with
 |nil=>intro L w;rw[aBH]at w;cases w;exact .nil
 |cons n ns d=>
  intro L w;rw[aAn]at w;cases w with
  |cons a b=>cases a;exact .cons _ _ (d _ b)
def script_of {l:OpenLaw}{n:Nat}(m:l.most=some n){P:Params}{h:bt}{args:List WData}{b:List ao}
  (j:l.row.toRowW.claim.pre args=true) (o:WellAll P h b args):
  ∃a L ns,b=[aDy a]/\args=[WData.list (ns.map WData.int)]/\h.get? a=some {cls:=.type "list",data:=.seq L.toArray}/\IntsAre L ns/\ns.length<=n:=by
 have i:WShape.hasAll [] args [.list .int]=true:=(pre_splitW j).1;have k:l.pre.holds [] {args:=args}=true:=(pre_splitW j).2;obtain⟨d,r,rfl,p,s⟩:=hasAllW_cons i;obtain rfl:=hasAllW_nil s;obtain⟨Y,rfl,t⟩:=hasW_list p;obtain⟨ns,rfl⟩:=items_int t;have e:ns.length<=n:=by
  unfold OpenLaw.pre at k;have f:(WTm.not<|.lt (.lit (.int (n:Int))) (.len (.arg 0))).holds [] {args:=[.list (ns.map .int)]}=true:=by have f:=(holds_andW k).1;rw[m]at f;exact f
  have g:=condW_of f (w_not<|w_lt w_lit<|w_len_list<|w_arg rfl);rw[aAi]at g;refine aEw λq=>?_;have u:(n:Int)<((ns.length:Nat):Int):=by lia
  first
   |(rw[decide_eq_true u]at g;exact absurd g (by decide))
   |(simp at g;lia)
 cases o with
 |cons v w=>
  cases w;cases v with
  |list x y=>exact⟨_,_,ns,rfl,rfl,x,nW ns _ y,e⟩
def post_true (l:OpenLaw)(args:List WData):l.row.toRowW.claim.post args (.bool true) args=true:=
 postW_of (r:=l.row.toRowW) (X:=(true==true))
  (show WShape.has [] (.bool true) .bool=true by first|rfl|decide|simp[WShape.has,WShape.arms,WShape.armsAll])
  (show(WTm.eq .res (.lit (.bool true))).value [] {args:=args,res:=some (.bool true),after:=args}=some (.bool (true==true))from w_eq_bool (w_res rfl) w_lit) rfl
section
variable{prog:ba} {w:be} {A:bc} {E:E8} {s:aA} {K:Frag}
def a4e (h:bt)(L d:a5):List (a5×Obj):=(aAQ h.objs.size).filterMap λa=>if a=L\/a=d then none else(h.get? a).map λo=>(a,o)
end
end Att
namespace L2
open PySem PySem.Spec PyProof.Rows
theorem P8:∀{L:List ao} {ns:List Int},IntsAre L ns->p9 (ns.map V.int) L
 |_,_,.nil=>.nil
 |_,_,.cons n t h=>.cons ⟨t,rfl⟩ (P8 h)
def C8 (s:bM):Arguments:=match s with
 |.FunctionDef _ a _ _ _ _ _ _ _ _=>a
 |_=>{posonlyargs:=[],args:=[],vararg:=none,kwonlyargs:=[],kw_defaults:=[],kwarg:=none,defaults:=[]}
def t0 (s:bM):List bM:=match s with
 |.FunctionDef _ _ b _ _ _ _ _ _ _=>b
 |_=>[]
def c6 (s:bM):iu:=match s with
 |.FunctionDef _ _ _ _ _ _ a _ _ _=>a
 |_=>{kind:=.function,names:=[],isGenerator:=false,isCoroutine:=false}
abbrev sG:UA:=λ_ _ _ _ _ _=>False
abbrev E0:XK:=λ_ _ _=>False
def SJ:FB sG X E0:=λ_ _ _ _ _ _ _ h=>h.elim
structure Fun (K:PySem.W.Frag)(x qual:Str)(st:Stmt)(f:Addr)(fd:FuncData):Prop where
 ex:∃(oc:Value) (od:Option Addr) (kV doc pm:Value) (an:Option Addr) (T ct:Value) (osl:Array (Option Value)),
  fd=PySem.W.fnOf x qual (C8 st) (t0 st) (c6 st) .none kV doc pm an T ct/\K.lookup f=some ⟨oc,od,.func fd,osl⟩/\PySem.W.codeIn K T qual=true
 kp:PySem.W.keepIn K (.ref f)=true
section
variable{P:ba} {w:be} {K:kc} {mg:cV} {base:bt}
def Fun.ok {x qual:Str}{st:bM}{f:a5}{fd:dq}{N ps:List Str}{k:Nat}{b:Sp}(F:Fun K x qual st f fd)(S:FnScope N ps (c6 st))(len:∀L H Q E,b L H Q E->L.length=ps.length)
  (e:∀(T:ao) (A:bc) (a:List Env) (s:aA) (H:Hp) (L:List V) (Q:VK) (E:XK),Room k (A.deeper (envOfC qual (c6 st) s.heap.objs.size f T))->b L H Q E->
   ∃t,tL (DA sG P w K mg base N qual (c6 st) f T A a s H E).nox (t0 st) t/\t {nx:=λ_ H'=>Q .non H',rt:=Q} (start N L) H):FnOk P w K mg base sG (k+1) f fd ps b:=by
 obtain⟨m,n,kV,g,o,p,T,r,i,rfl,lk,j⟩:=F.ex;refine YS lk j S len λA a s H L Q E l d=>?_;obtain⟨t,h,q⟩:=e T A a s H L Q E l d;exact⟨t,h.nox,q⟩
def Fun.binds {x qual:Str}{st:bM}{f:a5}{fd:dq}{ps:List Str}(F:Fun K x qual st f fd)
  (h:∀(kV a b:ao) (d:Option a5) (T ct:ao) (e:List ao),e.length=ps.length->bindArgs (PySem.W.fnOf x qual (C8 st) (t0 st) (c6 st) .none kV a b d T ct) ⟨e,[]⟩=pure (ps.zip e)):Binds K fd ps []:=by
 obtain⟨i,j,kV,a,b,d,T,ct,g,rfl,lk,k⟩:=F.ex;exact .all (h kV a b d T ct)
def RU {x qual:Str}{st:bM}{f:a5}{g:ao}{h d:Option a5}{b:Array (Option ao)}{kV a e T ct:ao}(l:K.lookup f=some ⟨g,h,.func (PySem.W.fnOf x qual (C8 st) (t0 st) (c6 st) .none kV a e d T ct),b⟩)
 (c:PySem.W.codeIn K T qual=true) (k:PySem.W.keepIn K (.ref f)=true):Fun K x qual st f (PySem.W.fnOf x qual (C8 st) (t0 st) (c6 st) .none kV a e d T ct):=⟨⟨g,h,kV,a,e,d,T,ct,b,rfl,l,c⟩,k⟩
end
section
variable{X:Cx}
end
def Same (H H':Hp):Prop:=∀b o,H b=some o->H' b=some o
def Same.refl (H:Hp):Same H H:=λ_ _ h=>h
def Same.trans (a:Same H d)(b:Same d e):Same H e:=λc o h=>b c o (a c o h)
def Same.seq {K:kc}{H H':Hp}{a:a5}{Y:List V}(e:Same H H')(h:P4 K H a Y):P4 K H' a Y:=by
 rcases h with(h|⟨o,h⟩)|h
 .exact .inl (.inl (e _ _ h))
 .exact .inl (.inr ⟨o,e _ _ h⟩)
 .exact .inr h
end L2
namespace DL
open PySem PySem.Spec L2
open PyProof.Rows hiding St
section
inductive D where
 |non|bl (b:Bool)|int (i:Int)|str (x:Str)|tup (Y:List D)|lst (Y:List D)|dct
mutual
def q9:D->Int
 |.int i=>hashInt i
 |.tup Y=>reduceHash (aAK (wS Y))
 |_=>0
def wS:List D->List Int
 |[]=>[]
 |x::Y=>q9 x::wS Y
end
def Q3:Nat->D->Bool
 |_,.int _=>true
 |n+1,.tup Y=>Y.all (Q3 n)
 |_,_=>false
inductive R (α:Type)where
 |ok (a:α)|ex (e:Str)|bad
def R.bind {α β:Type}:R α->(α->R β)->R β
 |.ok a,f=>f a
 |.ex e,_=>.ex e
 |.bad,_=>.bad
@[simp]def R.aa0 {α β:Type}(a:α)(f:α->R β):(R.ok a).bind f=f a:=rfl
section
variable(K:kc) (H:Hp) (O:a5->Prop)
mutual
inductive Rep:V->D->Prop
 |non:Rep .non .non
 |bl {b:Bool}:Rep (.bl b) (.bl b)
 |int {i:Int}:Rep (.int i) (.int i)
 |str {x:Str}:Rep (.str x) (.str x)
 |tup {a:Addr} {L:List V} {ds:List D} (h:Z0 K H a L) (r:Reps L ds):Rep (.ref a) (.tup ds)
 |lst {a:Addr} {L:List V} {ds:List D} (h:P4 K H a L) (n:¬O a) (r:Reps L ds):Rep (.ref a) (.lst ds)
 |dct {a:Addr} {o:Obj} (h:H a=some (.ext λh=>h.get? a=some o)) (x:o.ExactDict) (n:¬O a):Rep (.ref a) .dct
inductive Reps:List V->List D->Prop
 |nil:Reps [] []
 |cons {v:V} {d:D} {L:List V} {ds:List D} (h:Rep v d) (t:Reps L ds):Reps (v::L) (d::ds)
end
end
section
variable{K:kc}
def _root_.L2.Same.tup {a:a5}{Y:List V}(e:Same H H')(h:Z0 K H a Y):Z0 K H' a Y:=by
 rcases h with(h|⟨o,h⟩)|h
 .exact .inl (.inl (e _ _ h))
 .exact .inl (.inr ⟨o,e _ _ h⟩)
 .exact .inr h
mutual
theorem Rep.mono (f:∀a Y,Z0 K H a Y->Z0 K H' a Y)(b:∀a Y,¬O a->P4 K H a Y->¬g a/\P4 K H' a Y)(e:∀a φ,¬O a->H a=some (.ext φ)->¬g a/\H' a=some (.ext φ)):∀{v:V} {d:D},Rep K H O v d->Rep K H' g v d
 |_,_,.non=>.non
 |_,_,.bl=>.bl
 |_,_,.int=>.int
 |_,_,.str=>.str
 |_,_,.tup h r=>.tup (f _ _ h) (Reps.mono f b e r)
 |_,_,.lst h n r=>.lst (b _ _ n h).2 (b _ _ n h).1 (Reps.mono f b e r)
 |_,_,.dct h x n=>.dct (e _ _ n h).2 x (e _ _ n h).1
theorem Reps.mono (b:∀a Y,Z0 K H a Y->Z0 K H' a Y)(d:∀a Y,¬O a->P4 K H a Y->¬e a/\P4 K H' a Y)(f:∀a φ,¬O a->H a=some (.ext φ)->¬e a/\H' a=some (.ext φ)):∀{L:List V} {ds:List D},Reps K H O L ds->Reps K H' e L ds
 |_,_,.nil=>.nil
 |_,_,.cons h t=>.cons (Rep.mono b d f h) (Reps.mono b d f t)
end
def Rep.same (e:Same H H')(r:Rep K H O v d):Rep K H' O v d:=r.mono (λ_ _ h=>e.tup h) (λ_ _ n h=>⟨n,e.seq h⟩) λ_ _ n h=>⟨n,e _ _ h⟩
def Reps.same (e:Same H H')(r:Reps K H O v d):Reps K H' O v d:=r.mono (λ_ _ h=>e.tup h) (λ_ _ n h=>⟨n,e.seq h⟩) λ_ _ n h=>⟨n,e _ _ h⟩
def Rep.sub (e:∀a,b a->O a)(r:Rep K H O v d):Rep K H b v d:=r.mono (λ_ _ h=>h) (λ_ _ n h=>⟨λz=>n (e _ z),h⟩) λ_ _ n h=>⟨λz=>n (e _ z),h⟩
def Reps.sub (e:∀a,b a->O a)(r:Reps K H O v d):Reps K H b v d:=r.mono (λ_ _ h=>h) (λ_ _ n h=>⟨λz=>n (e _ z),h⟩) λ_ _ n h=>⟨λz=>n (e _ z),h⟩
theorem Reps.length:∀{L:List V} {ds:List D},Reps K H O L ds->L.length=ds.length
 |_,_,.nil=>rfl
 |_,_,.cons _ t=>by simp[Reps.length t]
theorem Reps.get:∀{L:List V} {ds:List D} {i:Nat} {d:D},Reps K H O L ds->ds[i]?=some d->∃v,L[i]?=some v/\Rep K H O v d
 |_,_,_,_,.nil,e=>by simp at e
 |_,_,0,_,.cons r _,e=>by simp at e;subst e;exact⟨_,rfl,r⟩
 |_,_,i+1,d,.cons _ t,e=>by obtain⟨u,a,b⟩:=Reps.get (i:=i) (d:=d) t (by simpa using e);exact⟨u,by simpa using a,b⟩
theorem Reps.append:∀{L ws:List V} {ds es:List D},Reps K H O L ds->Reps K H O ws es->Reps K H O (L++ws) (ds++es)
 |_,_,_,_,.nil,s=>s
 |_,_,_,_,.cons r t,s=>.cons r (Reps.append t s)
theorem Reps.take:∀{L:List V} {ds:List D} (n:Nat),Reps K H O L ds->Reps K H O (L.take n) (ds.take n)
 |_,_,0,_=>.nil
 |_,_,_+1,.nil=>.nil
 |_,_,n+1,.cons r t=>.cons r (Reps.take n t)
theorem Reps.drop:∀{L:List V} {ds:List D} (n:Nat),Reps K H O L ds->Reps K H O (L.drop n) (ds.drop n)
 |_,_,0,r=>r
 |_,_,_+1,.nil=>.nil
 |_,_,n+1,.cons _ t=>Reps.drop n t
def Reps.dropLast (r:Reps K H O L ds):Reps K H O L.dropLast ds.dropLast:=by rw[aEt,aEt,r.length];exact r.take _
def Reps.snoc (r:Reps K H O L ds)(h:Rep K H O v d):Reps K H O (L++[v]) (ds++[d]):=r.append (.cons h .nil)
theorem Reps.ints:∀(ns:List Int),Reps K H O (ns.map V.int) (ns.map D.int)
 |[]=>.nil
 |_::ns=>.cons .int (Reps.ints ns)
theorem Reps.reverse:∀{L:List V} {ds:List D},Reps K H O L ds->Reps K H O L.reverse ds.reverse
 |_,_,.nil=>.nil
 |_,_,.cons r t=>by rw[aAJ,aAJ];exact(Reps.reverse t).snoc r
end
def Kp (H:Hp)(O:a5->Prop)(H':Hp)(a:a5->Prop):Prop:=∀b o,H b=some o->¬O b->H' b=some o/\¬a b
section
def Kp.refl (H:Hp)(O:a5->Prop):Kp H O H O:=λ_ _ h n=>⟨h,n⟩
def Kp.of (s:Same H H'):Kp H O H' O:=λb o h n=>⟨s b o h,n⟩
def Kp.trans (a:Kp H O H' f)(b:Kp H' f d e):Kp H O d e:=λc o h n=>let⟨g,i⟩:=a c o h n;b c o g i
end
class Tabs where
 tbs:List (Addr×List (Pos×Str))
inductive Sl where
 |no|v (d:D)|o (Y:List D)|x (C:Value)|c (m:List D->R D) (φ:Hp->(Addr->Prop)->Addr->Prop)|d (N:List (D×D))
abbrev Ev:=List Sl
def Mt:HO->Prop
 |.lst _=>True
 |.dK _=>True
 |.dT _=>True
 |.ext _=>True
 |_=>False
def jW (K:kc)(H:Hp)(O:a5->Prop)(es:List gq)(N:List (D×D)):Prop:=
 Paired (λ(e:gq) (p:D×D)=>(∃a,e.key=.ref a/\Rep K H O (.ref a) p.1)/\(∃v,RelV v e.val/\Rep K H O v p.2)/\e.hash=q9 p.1/\Q3 7 p.1=true) es N
def KQ (a:a5)(o:Obj)(es:List gq):Prop:=(a==fo)=false/\o.ExactDict/\∃b d,o.data=.dict b d/\b.toList=es
def JG:Sl->Prop
 |.o _=>True
 |.d _=>True
 |_=>False
section
variable(K:kc) (H9 H:Hp) (O:a5->Prop)
def iG (x:Option (Option V)):Sl->Prop
 |.no=>True
 |.v d=>∃v,x=some (some v)/\Rep K H O v d
 |.o Y=>∃a L,x=some (some (V.ref a))/\O a/\H9 a=none/\H a=some (.lst L)/\Reps K H O L Y
 |.x C=>∃a o,x=some (some (V.ref a))/\H a=some (.frz o (.own a))/\o.cls=C
 |.c m φ=>∃a,x=some (some (V.ref a))/\∀b e,Kp H O b e->φ b e a
 |.d N=>∃a o f,x=some (some (V.ref a))/\O a/\H9 a=none/\H a=some (.ext λh=>h.get? a=some o)/\KQ a o f/\jW K H O f N/\(N.map (·.1)).Nodup
end
variable [Tabs]
def Tb (H:Hp):Prop:=∀p∈Tabs.tbs,H p.1=some (.tbl p.2)
structure EnvOk (K:PySem.W.Frag)(H9:Hp)(O0:Addr->Prop)(H:Hp)(O:Addr->Prop)(σ:St)(ρ:Ev):Prop where
 len:σ.length=ρ.length
 same:Same H9 H
 sub:∀a,O0 a->O a
 trk:∀a,O a->∃o,H a=some o/\Mt o
 trk0:∀a,O0 a->∃o,H9 a=some o
 tab:Tb H
 slot:∀(i:Nat) (sl:Sl),ρ[i]?=some sl->iG K H9 H O σ[i]? sl
 inj:∀(i j:Nat) (x y:Sl) (a:Addr),ρ[i]?=some x->ρ[j]?=some y->JG x->JG y->σ[i]?=some (some (V.ref a))->σ[j]?=some (some (V.ref a))->i=j
section
variable{K:kc} {O0 O O':a5->Prop}
def Tb.same (h:Tb H)(s:Same H H'):Tb H':=λp a=>s _ _ (h p a)
def EnvOk.val (E:EnvOk K a O0 H O σ ρ)(i:Nat)(d:D)(h:ρ[i]?=some (Sl.v d)):∃v,σ[i]?=some (some v)/\Rep K H O v d:=E.slot i _ h
def EnvOk.own (E:EnvOk K b O0 H O σ ρ)(i:Nat)(Y:List D)(h:ρ[i]?=some (Sl.o Y)):∃a L,σ[i]?=some (some (V.ref a))/\O a/\b a=none/\H a=some (.lst L)/\Reps K H O L Y:=E.slot i _ h
def jW.mono (f:∀{v:V} {d:D},Rep K H O v d->Rep K H' O' v d):∀{N:List (D×D)},jW K H O es N->jW K H' O' es N:=λ{_} r=>Paired.af0 r λ_ _ ⟨⟨v,a,b⟩,⟨w,e,g⟩,h⟩=>⟨⟨v,a,f b⟩,⟨w,e,f g⟩,h⟩
def iG.move (h:iG K y H O x sl)(i:∀a Y,Z0 K H a Y->Z0 K H' a Y)(j:∀a Y,¬O a->P4 K H a Y->¬O' a/\P4 K H' a Y)(z:∀a o u,H a=some (.frz o u)->H' a=some (.frz o u))(l:Kp H O H' O')(w:JG sl->∀a o,x=some (some (V.ref a))->O a->H a=some o->O' a/\H' a=some o):iG K y H' O' x sl:=by
 have p:∀a φ,¬O a->H a=some (.ext φ)->¬O' a/\H' a=some (.ext φ):=λa φ n h=>⟨(l a _ h n).2,(l a _ h n).1⟩;cases sl with
 |no=>trivial
 |v d=>obtain⟨v,b,e⟩:=h;exact⟨v,b,e.mono i j p⟩
 |o Y=>obtain⟨a,L,b,e,f,q,s⟩:=h;obtain⟨g,t⟩:=w trivial a _ b e q;exact⟨a,L,b,g,f,t,s.mono i j p⟩
 |x C=>obtain⟨a,o,b,e,f⟩:=h;exact⟨a,o,b,z _ _ _ e,f⟩
 |c m φ=>obtain⟨a,b,e⟩:=h;exact⟨a,b,λA B k=>e A B (l.trans k)⟩
 |d N=>obtain⟨a,o,E,b,e,f,q,s,g⟩:=h;obtain⟨t,I⟩:=w trivial a _ b e q;exact⟨a,o,E,b,t,f,I,s,g.1.mono λr=>r.mono i j p,g.2⟩
def iG.grow (h:iG K a H O x sl)(e:Same H H'):iG K a H' O x sl:=
 h.move (λ_ _ q=>e.tup q) (λ_ _ n q=>⟨n,e.seq q⟩) (λ_ _ _ q=>e _ _ q) (Kp.of e) λ_ _ _ _ b d=>⟨b,e _ _ d⟩
def EnvOk.grow (E:EnvOk K b O0 H O σ ρ)(e:Same H H'):EnvOk K b O0 H' O σ ρ where
 len:=E.len
 same:=E.same.trans e
 sub:=E.sub
 trk:=λa h=>let⟨o,q,m⟩:=E.trk a h;⟨o,e a o q,m⟩
 trk0:=E.trk0
 tab:=E.tab.same e
 slot:=λi d h=>(E.slot i d h).grow e
 inj:=E.inj
def EnvOk.fresh (E:EnvOk K a O0 H O σ ρ)(h:H p=none):¬O p:=λz=>by obtain⟨o,q,_⟩:=E.trk p z;rw[h]at q;cases q
def x5 {α:Type}{l:List α}{i j:Nat}{x:α}(h:i≠j):(l.set i x)[j]?=l[j]?:=aCD h
def C3 {α:Type}{l:List α}{i:Nat}{x y:α}(h:(l.set i x)[i]?=some y):y=x/\i<l.length:=by
 have a:i<l.length:=by have:=(aAw.mp h).1;simpa using this
 rw[aBI a]at h;exact⟨(aAm h).symm,a⟩
def EnvOk.put (E:EnvOk K f O0 H O σ ρ){v:Option V}{sl:Sl}(i:Nat)(no:¬JG sl)(r:iG K f H O (some v) sl):EnvOk K f O0 H O (σ.set i v) (ρ.set i sl)where
 len:=by simpa using E.len
 same:=E.same
 sub:=E.sub
 trk:=E.trk
 trk0:=E.trk0
 tab:=E.tab
 slot:=λj s h=>by
  by_cases g:i=j
  .subst g;obtain⟨e,u⟩:=C3 h;subst e;rw[aBI (by rw[E.len];exact u)];exact r
  .rw[x5 g]at h⊢;exact E.slot j s h
 inj:=λj k x y a b d m n p t=>by
  have ne:∀(l:Nat) (z:Sl),(ρ.set i sl)[l]?=some z->JG z->i≠l:=λl z q o e=>by subst e;obtain⟨e,_⟩:=C3 q;subst e;exact no o
  have w:=ne j x b m;have A:=ne k y d n;rw[x5 w]at b p;rw[x5 A]at d t;exact E.inj j k x y a b d m n p t
def EnvOk.set (E:EnvOk K a O0 H O σ ρ)(i:Nat)(r:Rep K H O v d):EnvOk K a O0 H O (σ.set i (some v)) (ρ.set i (.v d)):=E.put i (λz=>z) ⟨v,rfl,r⟩
def iG.at_ (h:iG K i H O x sl)(o:JG sl):∃a u,x=some (some (V.ref a))/\O a/\i a=none/\H a=some u/\Mt u:=by
 cases sl with
 |o Y=>obtain⟨a,L,b,e,f,g,_⟩:=h;exact⟨a,_,b,e,f,g,trivial⟩
 |d N=>obtain⟨a,u,j,b,e,f,g,_⟩:=h;exact⟨a,_,b,e,f,g,trivial⟩
 |_=>exact o.elim
def EnvOk.af2 (E:EnvOk K t O0 H O σ ρ){a:a5}{sl:Sl}(i:Nat)(u:∀(j:Nat) (y:Sl),i≠j->ρ[j]?=some y->JG y->σ[j]?≠some (some (V.ref a)))(r:iG K t H O (some (some (V.ref a))) sl):
  EnvOk K t O0 H O (σ.set i (some (V.ref a))) (ρ.set i sl)where
 len:=by simpa using E.len
 same:=E.same
 sub:=E.sub
 trk:=E.trk
 trk0:=E.trk0
 tab:=E.tab
 slot:=λj s h=>by
  by_cases d:i=j
  .subst d;obtain⟨e,z⟩:=C3 h;subst e;rw[aBI (by rw[E.len];exact z)];exact r
  .rw[x5 d]at h⊢;exact E.slot j s h
 inj:=λj k x y b n o v w g m=>by
  have at_:∀(l:Nat),i=l->(σ.set i<|some<|V.ref a)[l]?=some (some<|V.ref b)->b=a:=λl e q=>by subst e;obtain⟨e,_⟩:=C3 q;injection e with e;injection e
  by_cases d:i=j
  .by_cases f:i=k
   .exact d.symm.trans f
   .exfalso;have p:=at_ j d g;subst p;rw[x5 f]at o m;exact u k y f o w m
  .by_cases f:i=k
   .exfalso;have p:=at_ k f m;subst p;rw[x5 d]at n g;exact u j x d n v g
   .rw[x5 d]at n g;rw[x5 f]at o m;exact E.inj j k x y b n o v w g m
def l9 (h:H p=none)(o:HO):Same H (upd H p o):=λb u q=>by rw[m9 (u9 q h)];exact q
def EnvOk.ab7 (E:EnvOk K f O0 H O σ ρ)(h:H a=none)(g:K.lookup a=none)(m:Mt u):EnvOk K f O0 (upd H a u) (λb=>O b\/b=a) σ ρ:=by
 have s:=l9 h u;have ne:∀b Y,P4 K H b Y->b≠a:=λb Y q z=>by
  subst z;rcases q with(q|⟨o,q⟩)|⟨o,_,_,q,_⟩
  .rw[h]at q;cases q
  .rw[h]at q;cases q
  .rw[g]at q;cases q
 refine⟨E.len,E.same.trans s,λb z=>.inl (E.sub b z),λb z=>?_,E.trk0,E.tab.same s,λi j e=>?_,E.inj⟩
 .rcases z with z|z
  .obtain⟨o,q,m⟩:=E.trk b z;exact⟨o,s b o q,m⟩
  .subst z;exact⟨_,j8,m⟩
 .exact(E.slot i j e).move (λ_ _ q=>s.tup q) (λb Y n q=>⟨λz=>z.elim n (ne b Y q),s.seq q⟩) (λ_ _ _ q=>s _ _ q) (λb o d n=>⟨s b o d,λz=>z.elim n λe=>by subst e;rw[h]at d;cases d⟩) λ_ b o _ k l=>⟨.inl k,s _ _ l⟩
def qx (h:H a=none)(d:K.lookup a=none)(q:P4 K H b Y):b≠a:=λz=>by
 subst z;rcases q with(q|⟨o,q⟩)|⟨o,_,_,q,_⟩
 .rw[h]at q;cases q
 .rw[h]at q;cases q
 .rw[d]at q;cases q
def Reps.ab7 (h:H a=none)(e:K.lookup a=none)(r:Reps K H O v d):Reps K (upd H a u) (λb=>O b\/b=a) v d:=
 r.mono (λ_ _ q=>(l9 h u).tup q) (λb Y n q=>⟨λz=>z.elim n (qx h e q),(l9 h u).seq q⟩) λb φ n q=>⟨λz=>z.elim n (u9 q h),l9 h u _ _ q⟩
def EnvOk.ad2 (E:EnvOk K f O0 H O σ ρ)(i:Nat)(h:H a=none)(k:K.lookup a=none)(m:Mt u)(r:f a=none->iG K f (upd H a u) (λb=>O b\/b=a) (some (some (V.ref a))) sl):
  EnvOk K f O0 (upd H a u) (λb=>O b\/b=a) (σ.set i (some (.ref a))) (ρ.set i sl):=by
 have l:f a=none:=by
  cases e:f a with
  |none=>rfl
  |some o=>have:=E.same a o e;rw[h]at this;cases this
 refine(E.ab7 h k m).af2 i (λj y _ e o q=>?_) (r l);obtain⟨b,w,d,_,_,g,_⟩:=(E.slot j y e).at_ o;rw[q]at d;injection d with d;injection d with d;injection d with d;subst d;rw[h]at g;cases g
def xJ (h:H a=some u)(m:Mt u)(q:Z0 K H b Y):Z0 K (upd H a u') b Y:=by
 have ne:∀w,H b=some w->¬Mt w->b≠a:=λw e n z=>by subst z;rw[h]at e;cases e;exact n m
 rcases q with(q|⟨o,q⟩)|q
 .exact .inl (.inl (by rw[m9 (ne _ q λz=>z)];exact q))
 .exact .inl (.inr ⟨o,by rw[m9 (ne _ q λz=>z)];exact q⟩)
 .exact .inr q
def wM (d:O a)(n:¬O b)(q:P4 K H b Y):P4 K (upd H a u') b Y:=by
 have ne:b≠a:=λz=>by subst z;exact n d
 rcases q with(q|⟨o,q⟩)|q
 .exact .inl (.inl (by rw[m9 ne];exact q))
 .exact .inl (.inr ⟨o,by rw[m9 ne];exact q⟩)
 .exact .inr q
def Rep.upd (h:H a=some u)(m:Mt u)(e:O a)(r:Rep K H O v d):Rep K (upd H a u') O v d:=r.mono (λ_ _ q=>xJ h m q) (λ_ _ n q=>⟨n,wM e n q⟩) λb _ n q=>⟨n,by rw[m9 (λz=>n (by rw[z];exact e))];exact q⟩
def Reps.upd (h:H a=some u)(m:Mt u)(e:O a)(r:Reps K H O v d):Reps K (upd H a u') O v d:=r.mono (λ_ _ q=>xJ h m q) (λ_ _ n q=>⟨n,wM e n q⟩) λb _ n q=>⟨n,by rw[m9 (λz=>n (by rw[z];exact e))];exact q⟩
def EnvOk.ae4 {i:Nat}{sl sl':Sl}{a:a5}{u u':HO}(E:EnvOk K t O0 H O σ ρ)(e:ρ[i]?=some sl)(v:JG sl)(A:σ[i]?=some (some (V.ref a)))(B:H a=some u)(m':Mt u')(ow':JG sl')
  (r:O a->t a=none->Mt u->iG K t (upd H a u') O (some (some (V.ref a))) sl'):EnvOk K t O0 (upd H a u') O σ (ρ.set i sl')/\Kp H O (upd H a u') O:=by
 obtain⟨b,w,d,C,U,Y,m⟩:=(E.slot i sl e).at_ v;rw[A]at d;injection d with d;injection d with d;injection d with d;subst d;rw[B]at Y;cases Y;have kp:Kp H O (upd H a u') O:=λb o g n=>⟨by rw[m9 (λz=>by subst z;exact n C)];exact g,n⟩;have nf:∀b w,H b=some w->¬Mt w->upd H a u' b=some w:=λb w q n=>by rw[m9 (λz=>by subst z;rw[B]at q;cases q;exact n m)];exact q
 refine⟨⟨by simpa using E.len,λb o q=>?_,E.sub,λb z=>?_,E.trk0,λp hp=>nf _ _ (E.tab p hp) λz=>z,λj s h=>?_,λj k x y b I J o1 o2 L q4=>?_⟩,kp⟩
 .rw[m9 (λz=>by subst z;rw[U]at q;cases q)];exact E.same b o q
 .by_cases g:b=a
  .subst g;exact⟨_,j8,m'⟩
  .obtain⟨o,q,m⟩:=E.trk b z;exact⟨o,by rw[m9 g];exact q,m⟩
 .by_cases N:i=j
  .subst N;obtain⟨e',_⟩:=C3 h;subst e';rw[A];exact r C U m
  .rw[x5 N]at h;refine(E.slot j s h).move (λ_ _ q=>xJ B m q) (λ_ _ n q=>⟨n,wM C n q⟩) (λb o w q=>nf _ _ q λz=>z) kp λo b w I J L=>⟨J,?_⟩;rw[m9 (λz=>by subst z;exact N (E.inj i j sl s b e h v o A I))];exact L
 .have f:∀l z,(ρ.set i sl')[l]?=some z->JG z->∃z',ρ[l]?=some z'/\JG z':=λl z q o=>by
   by_cases hl:i=l
   .subst hl;exact⟨sl,e,v⟩
   .rw[x5 hl]at q;exact⟨z,q,o⟩
  obtain⟨x',u1,Q⟩:=f j x I o1;obtain⟨y',u2,T⟩:=f k y J o2;exact E.inj j k x' y' b u1 u2 Q T L q4
def EnvOk.ae7 {i:Nat}{sl sl':Sl}{a:a5}(E:EnvOk K v O0 H O σ ρ)(e:ρ[i]?=some sl)(A:JG sl)(p:σ[i]?=some (some (V.ref a)))(no:¬JG sl')(r:iG K v H (λb=>O b/\b≠a) (some (some (V.ref a))) sl'):
  EnvOk K v O0 H (λb=>O b/\b≠a) σ (ρ.set i sl'):=by
 obtain⟨b,w,d,T,I,U,m⟩:=(E.slot i sl e).at_ A;rw[p]at d;injection d with d;injection d with d;injection d with d;subst d;have sub:∀b,(O b/\b≠a)->O b:=λb z=>z.1;refine⟨by simpa using E.len,E.same,λb z=>⟨E.sub b z,λq=>?_⟩,λb z=>E.trk b z.1,E.trk0,E.tab,λj s h=>?_,λj k x y b f g B C t J=>?_⟩
 .subst q;obtain⟨o,q⟩:=E.trk0 b z;rw[I]at q;cases q
 .by_cases u:i=j
  .subst u;obtain⟨l,_⟩:=C3 h;subst l;rw[p];exact r
  .rw[x5 u]at h;refine(E.slot j s h).move (λ_ _ q=>q) (λ_ _ n q=>⟨λz=>n z.1,q⟩) (λ_ _ _ q=>q) (λb o L n=>⟨L,λz=>n z.1⟩) λo b w f g t=>⟨⟨g,λz=>?_⟩,t⟩;subst z;exact u (E.inj i j sl s b e h A o p f)
 .have N:i≠j:=λz=>by subst z;obtain⟨l,_⟩:=C3 f;subst l;exact no B
  have Q:i≠k:=λz=>by subst z;obtain⟨l,_⟩:=C3 g;subst l;exact no C
  rw[x5 N]at f;rw[x5 Q]at g;exact E.inj j k x y b f g B C t J
end
def XW (X:Cx)(e:Str)(H:Hp):Prop:=False
def RC (X:Cx)(H:Hp)(O:a5->Prop)(r:R D)(Q:VK):Prop:=match r with
 |.ok d=>∀v a,Same H a->Rep X.K a O v d->Q v a
 |.ex e=>∀a,Same H a->XW X e a
 |.bad=>False
def C5 (K:kc)(H:Hp)(O:a5->Prop)(v:V)(d:D):Prop:=Rep K H O v d\/∃a L b,v=.ref a/\d=.lst b/\P4 K H a L/\Reps K H O L b
def QS (X:Cx)(H:Hp)(O:a5->Prop)(r:R D)(Q:VK):Prop:=match r with
 |.ok d=>∀v a,Same H a->C5 X.K a O v d->Q v a
 |.ex e=>∀a,Same H a->XW X e a
 |.bad=>False
def CC (X:Cx)(H:Hp)(r:R Bool)(Q:Bool->Hp->Prop):Prop:=match r with
 |.ok b=>∀a,Same H a->Q b a
 |.ex e=>∀a,Same H a->XW X e a
 |.bad=>False
def JU (X:Cx)(H:Hp)(O:a5->Prop)(r:R (List D))(Q:List V->Hp->Prop):Prop:=match r with
 |.ok b=>∀L a,Same H a->Reps X.K a O L b->Q L a
 |.ex e=>∀a,Same H a->XW X e a
 |.bad=>False
def NT (X:Cx)(H:Hp)(O:a5->Prop)(r:R (List D))(Q:List V->Hp->Prop):Prop:=match r with
 |.ok b=>∀L a,Same H a->Paired (C5 X.K a O) L b->Q L a
 |.ex e=>∀a,Same H a->XW X e a
 |.bad=>False
def tD (X:Cx)(f:Ev->R D):TE:=λσ H Q=>∃a b O ρ,EnvOk X.K a b H O σ ρ/\RC X H O (f ρ) Q
def tDB (X:Cx)(f:Ev->R D):TE:=λσ H Q=>∃a b O ρ,EnvOk X.K a b H O σ ρ/\QS X H O (f ρ) Q
def tDT (X:Cx)(f:Ev->R Bool):TT:=λσ H Q=>∃a b O ρ,EnvOk X.K a b H O σ ρ/\CC X H (f ρ) Q
def tDs (X:Cx)(f:Ev->R (List D)):TA:=λσ H Q=>∃a b O ρ,EnvOk X.K a b H O σ ρ/\JU X H O (f ρ) Q
def a2z (X:Cx)(f:Ev->R (List D)):TA:=λσ H Q=>∃a b O ρ,EnvOk X.K a b H O σ ρ/\NT X H O (f ρ) Q
def PD (X:Cx)(e:cf)(f:Ev->R D):Prop:=PE X e (tD X f)
def PB (X:Cx)(e:cf)(f:Ev->R D):Prop:=PE X e (tDB X f)
def CA (X:Cx)(e:cf)(f:Ev->R Bool):Prop:=PT X e (tDT X f)
def IV (X:Cx)(es:List cf)(f:Ev->R (List D)):Prop:=PA X es (tDs X f)
def qy (X:Cx)(es:List cf)(f:Ev->R (List D)):Prop:=PA X es (a2z X f)
def VZ {r:Hp->(a5->Prop)->Ev->VK->Prop}(h:PE X e t)(i:∀σ H Q a b O ρ,EnvOk X.K a b H O σ ρ->r H O ρ Q->t σ H Q):PE X e λσ H Q=>∃a b O ρ,EnvOk X.K a b H O σ ρ/\r H O ρ Q:=λd s σ H Q I q=>h d s σ H Q I (let⟨a,b,O,ρ,E,q⟩:=q;i σ H Q a b O ρ E q)
def ptI {r:Hp->(a5->Prop)->Ev->(Bool->Hp->Prop)->Prop}(h:PT X e t)(i:∀σ H Q a b O ρ,EnvOk X.K a b H O σ ρ->r H O ρ Q->t σ H Q):PT X e λσ H Q=>∃a b O ρ,EnvOk X.K a b H O σ ρ/\r H O ρ Q:=λd s σ H Q I q=>h d s σ H Q I (let⟨a,b,O,ρ,E,q⟩:=q;i σ H Q a b O ρ E q)
def paI {r:Hp->(a5->Prop)->Ev->(List V->Hp->Prop)->Prop}(h:PA X es t)(i:∀σ H Q a b O ρ,EnvOk X.K a b H O σ ρ->r H O ρ Q->t σ H Q):PA X es λσ H Q=>∃a b O ρ,EnvOk X.K a b H O σ ρ/\r H O ρ Q:=λe d s σ H Q I q=>h e d s σ H Q I (let⟨a,b,O,ρ,E,q⟩:=q;i σ H Q a b O ρ E q)
def sM {β:Type}{r:Hp->(a5->Prop)->Ev->β->Prop}{G:List (a5×Obj)->aA->St->Hp->β->Prop}(h:∀a s σ H Q,Inv X a σ H s->∀b d O ρ,EnvOk X.K b d H O σ ρ->r H O ρ Q->G a s σ H Q)(a s σ H Q)(I:Inv X a σ H s)(q:∃b d O ρ,EnvOk X.K b d H O σ ρ/\r H O ρ Q):G a s σ H Q:=let⟨b,d,O,ρ,E,q⟩:=q;h a s σ H Q I b d O ρ E q
def PD.pb (h:PD X e f):PB X e f:=VZ h λσ H Q a b O ρ E q=>⟨a,b,O,ρ,E,by
 unfold RC QS at*
 cases e:f ρ with
 |ok d=>rw[e]at q;exactλv g s r=>q v g s (.inl r)
 |ex x=>rw[e]at q;exact q
 |bad=>rw[e]at q;exact q⟩
def RC.seq {O:a5->Prop}(h:RC X H O (r.bind g) Q):
  RC X H O r λv b=>∃d,r=.ok d/\Same H b/\Rep X.K b O v d/\RC X b O (g d) Q:=by
 cases r with
 |ok d=>
  intro v b f k;refine⟨d,rfl,f,k,?_⟩;have a:RC X H O (g d) Q:=h;cases e:g d with
  |ok m=>rw[e]at a;exactλw i j l=>a w i (f.trans j) l
  |ex x=>rw[e]at a;exactλi j=>a i (f.trans j)
  |bad=>rw[e]at a;exact a
 |ex x=>exact h
 |bad=>exact h
def QS.seq {O:a5->Prop}(h:RC X H O (r.bind g) Q):
  QS X H O r λv b=>∃d,r=.ok d/\Same H b/\C5 X.K b O v d/\RC X b O (g d) Q:=by
 cases r with
 |ok d=>
  intro v b f k;refine⟨d,rfl,f,k,?_⟩;have a:RC X H O (g d) Q:=h;cases e:g d with
  |ok m=>rw[e]at a;exactλw i j l=>a w i (f.trans j) l
  |ex x=>rw[e]at a;exactλi j=>a i (f.trans j)
  |bad=>rw[e]at a;exact a
 |ex x=>exact h
 |bad=>exact h
def RC.grow {O:a5->Prop}(h:RC X H O r Q)(e:Same H f):RC X f O r Q:=by
 cases r with
 |ok d=>exactλw a b g=>h w a (e.trans b) g
 |ex x=>exactλa b=>h a (e.trans b)
 |bad=>exact h
end
section
variable [Tabs]
section
variable{X:Cx}
def C5.same (e:Same H H')(r:C5 X.K H O v d):C5 X.K H' O v d:=by
 rcases r with r|⟨a,L,b,f,g,h,i⟩
 .exact .inl (r.same e)
 .exact .inr ⟨a,L,b,f,g,e.seq h,i.same e⟩
def C5.aa5 {K:kc}{ds:List D}(r:C5 K H O v (.lst ds)):∃a L,v=.ref a/\P4 K H a L/\Reps K H O L ds:=by
 rcases r with r|⟨a,L,g,d,b,e,f⟩
 .cases r with|lst h n r=>exact⟨_,_,rfl,h,r⟩
 .injection b with b;subst b;exact⟨a,L,d,e,f⟩
def C5.af7 {K:kc}(r:C5 K H O v .dct):∃a o,v=.ref a/\H a=some (.ext λh=>h.get? a=some o)/\o.ExactDict:=by
 rcases r with r|⟨a,L,d,e,b,f,g⟩
 .cases r with|dct h x n=>exact⟨_,_,rfl,h,x⟩
 .cases b
def C5.tupI {K:kc}{ds:List D}(r:C5 K H O v (.tup ds)):∃a L,v=.ref a/\Z0 K H a L/\Reps K H O L ds:=by
 rcases r with r|⟨a,L,d,e,b,f,g⟩
 .cases r with|tup h r=>exact⟨_,_,rfl,h,r⟩
 .cases b
def C5.aa6 {K:kc}{i:Int}(r:C5 K H O v (.int i)):v=.int i:=by
 rcases r with r|⟨a,L,d,e,b,f,g⟩
 .cases r;rfl
 .cases b
def C5.blI {K:kc}{i:Bool}(r:C5 K H O v (.bl i)):v=.bl i:=by
 rcases r with r|⟨a,L,d,e,b,f,g⟩
 .cases r;rfl
 .cases b
def C5.ac1 {K:kc}(r:C5 K H O v .non):v=.non:=by
 rcases r with r|⟨a,L,d,e,b,f,g⟩
 .cases r;rfl
 .cases b
def C5.ac6 {K:kc}{i:Str}(r:C5 K H O v (.str i)):v=.str i:=by
 rcases r with r|⟨a,L,d,e,b,f,g⟩
 .cases r;rfl
 .cases b
end
def bL (i:Nat)(ρ:Ev):R D:=match ρ[i]? with
 |some (.v d)=>.ok d
 |_=>.bad
def rY (i:Nat)(ρ:Ev):R D:=match ρ[i]? with
 |some (.v d)=>.ok d
 |some (.o Y)=>.ok (.lst Y)
 |_=>.bad
section
def c7 (i:Nat)(a:X.N[i]?=some x:=by rfl)(b:yD X.env.scope x:=by first|exact aCw rfl|exact aBK (aCw rfl)|exact aBK (aBK rfl))(f:(x==kd)=false:=by decide)(g:(x==km)=false:=by decide):PD X (.Name x h) (bL i):=VZ (M1 a b f g) λσ H Q n p O ρ E q=>by
 unfold bL at q;cases e:ρ[i]? with
 |none=>rw[e]at q;exact q.elim
 |some j=>
  rw[e]at q;cases j with
  |no=>exact q.elim
  |x C=>exact q.elim
  |c m φ=>exact q.elim
  |d N=>exact q.elim
  |o Y=>exact q.elim
  |v d=>obtain⟨v,k,l⟩:=E.val i d e;exact⟨v,k,q v H (Same.refl H) l⟩
def b8 (i:Nat)(g:X.N[i]?=some x:=by rfl)(h:yD X.env.scope x:=by first|exact aCw rfl|exact aBK (aCw rfl)|exact aBK (aBK rfl))(j:(x==kd)=false:=by decide)(k:(x==km)=false:=by decide):PB X (.Name x l) (rY i):=VZ (M1 g h j k) λσ H Q s t O ρ E q=>by
 unfold rY at q;cases e:ρ[i]? with
 |none=>rw[e]at q;exact q.elim
 |some n=>
  rw[e]at q;cases n with
  |no=>exact q.elim
  |x C=>exact q.elim
  |c m φ=>exact q.elim
  |d N=>exact q.elim
  |o Y=>obtain⟨a,L,b,f,u,p,r⟩:=E.own i Y e;exact⟨_,b,q _ H (Same.refl H) (.inr ⟨a,L,Y,rfl,rfl,P4.of p,r⟩)⟩
  |v d=>obtain⟨v,b,f⟩:=E.val i d e;exact⟨v,b,q v H (Same.refl H) (.inl f)⟩
def YJ (d:D)(_:Ev):R D:=.ok d
def vL (h:PE X e (tC v))(r:∀H O,Rep X.K H O v d):PD X e (YJ d):=VZ h λσ H Q a b O ρ E q=>q v H (Same.refl H) (r H O)
def c8 {j a}:PD X (.Constant (.int i) j a) (YJ (.int i)):=vL gz λ_ _=>.int
def BE {j a}:PD X (.Constant (.bool i) j a) (YJ (.bl i)):=vL a1l λ_ _=>.bl
def CQ {j a}:PD X (.Constant .none j a) (YJ .non):=vL pk λ_ _=>.non
def oD (X:Cx)(f:ao->ao->Sem ao)(g:D->D->R D):Prop:=
 ∀(H:Hp) (O:a5->Prop) (x y:V) (a b:D) (Q:VK),(∀p,H p=none->¬O p)->C5 X.K H O x a->C5 X.K H O y b->RC X H O (g a b) Q->∃r,nS X f r/\r x y H Q
def a4f (X:Cx)(O:a5->Prop)(g:D->D->R D)(Q:VK):V->V->Hp->Prop:=λx y H=>∃a b,(∀p,H p=none->¬O p)/\C5 X.K H O x a/\C5 X.K H O y b/\RC X H O (g a b) Q
def oR {f O:a5->Prop}(E:EnvOk X.K k f H O σ ρ)(q:RC X H O ((l ρ).bind λx=>(m ρ).bind λy=>g x y) Q):
  tDB X l σ H λx h=>tDB X m σ h λy i=>a4f X O g Q x y i:=by
 refine⟨k,f,O,ρ,E,?_⟩;have a:=QS.seq q;revert a;cases C:l ρ with
 |ok s=>
  intro a x h n t;obtain⟨d,e,_,r,u⟩:=a x h n t;cases e;have o:=E.grow n;refine⟨k,f,O,ρ,o,?_⟩;have b:=QS.seq u;revert b;cases I:m ρ with
  |ok v=>intro b y i j w;obtain⟨J,e,_,z,A⟩:=b y i j w;cases e;exact⟨s,v,λp B=>(o.grow j).fresh B,r.same j,z,A⟩
  |ex x=>intro b;exact b
  |bad=>intro b;exact b
 |ex x=>intro a;exact a
 |bad=>intro a;exact a
def b9 (f:oD X (d7 op) g)(i:PB X a j)(k:PB X b l):PD X (.BinOp a op b m) (λρ=>(j ρ).bind λx=>(l ρ).bind λy=>g x y):=by refine sM λd s σ H Q I N T O ρ E q=>?_;refine wpAny_BinOp (MF i k I (oR E q) λv u n x y e o p t h=>?_);obtain⟨w,z,A,B,C,q⟩:=h;obtain⟨r,J,L⟩:=f e O x y w z Q A B C q;exact J d n σ e x y v u Q o p t L
def DG (f:oD X (ek op) g)(i:PB X a j)(k:PB X b l)(m:ik op b=false:=by first|exact SQ _|with_unfolding_all rfl):
  PD X (.Compare a [op] [b] n) (λρ=>(j ρ).bind λx=>(l ρ).bind λy=>g x y):=by
 refine sM λd s σ H Q I T U O ρ E q=>?_;refine wpAny_Compare1 (MF i k I (oR E q) λv u o x y e p t w h=>?_) m;obtain⟨z,A,B,C,J,q⟩:=h;obtain⟨r,L,N⟩:=f e O x y z A Q B C J q;exact L d o σ e x y v u Q p t w N
def xU:D->R Bool
 |.bl b=>.ok b
 |_=>.bad
def IM {O:a5->Prop}{Q:Bool->Hp->Prop}(h:CC X H (r.bind xU) Q):RC X H O r λv a=>∃c,v=.bl c/\Q c a:=by
 cases r with
 |ok d=>
  cases d with
  |bl b=>intro v a e f;cases f;exact⟨b,rfl,h a e⟩
  |_=>exact(show False from h).elim
 |ex x=>exact h
 |bad=>exact h
def j3 (i:oD X (ek op) g)(j:PB X a l)(m:PB X b n)(o:ik op b=false:=by first|exact SQ _|with_unfolding_all rfl):
  CA X (.Compare a [op] [b] p) (λρ=>((l ρ).bind λx=>(n ρ).bind λy=>g x y).bind xU):=by
 refine sM λd s σ H Q I H9 O0 O ρ E q=>?_;have t:=IM (O:=O) q;refine wpAny_isTrue_Compare1 (MF j m I (oR E t) λv u w x y f A B C h=>?_) o;obtain⟨J,L,N,T,U,q⟩:=h;obtain⟨r,Y,hq⟩:=i f O x y J L _ N T U q;refine G5 (Y d w σ f x y v u _ A B C hq) λc s3 z9=>?_;obtain⟨z,H3,I3,r3,k,e,q3⟩:=z9;subst e;cases r3;exact aCb ⟨H3,I3,q3⟩
def fO (h:PD X e f)(a:∀whole,isTrue e X.env whole=(do let v<-whole;standAt e.pos;hV [v] (truthy v)):=by intro _;rfl):CA X e (λρ=>(f ρ).bind xU):=by refine ptI (uw h a) λσ H Q b d O ρ E q=>⟨b,d,O,ρ,E,IM q⟩
def CC.seq {Q:Bool->Hp->Prop}(h:CC X H (r.bind g) Q):CC X H r λb f=>r=.ok b/\Same H f/\CC X f (g b) Q:=by
 cases r with
 |ok d=>
  intro f i;refine⟨rfl,i,?_⟩;have a:CC X H (g d) Q:=h;cases e:g d with
  |ok l=>rw[e]at a;exactλj k=>a j (i.trans k)
  |ex x=>rw[e]at a;exactλj k=>a j (i.trans k)
  |bad=>rw[e]at a;exact a
 |ex x=>exact h
 |bad=>exact h
def CC.mono {Q e:Bool->Hp->Prop}(h:CC X H r Q)(i:∀b a,Q b a->e b a):CC X H r e:=by
 cases r with
 |ok d=>exactλa f=>i _ _ (h a f)
 |ex x=>exact h
 |bad=>exact h
def RC.mono {O:a5->Prop}(h:RC X H O r Q)(i:∀b a,Q b a->e b a):RC X H O r e:=by
 cases r with
 |ok d=>exactλv a f g=>i _ _ (h v a f g)
 |ex x=>exact h
 |bad=>exact h
def uJ (X:Cx)(e:cf)(f:Ev->R Bool):Prop:=PW X e (tDT X f)
def yV (f g:Ev->R Bool):Ev->R Bool:=λρ=>(f ρ).bind λb=>if b=true then g ρ else .ok false
def orB (f g:Ev->R Bool):Ev->R Bool:=λρ=>(f ρ).bind λb=>if b=true then .ok true else g ρ
def uz (f:Ev->R Bool):Ev->R Bool:=λρ=>(f ρ).bind λb=>.ok (!b)
variable{rest:List cf}
def bB (b:CA X a f):uJ X (.BoolOp .And [a] d) f:=VQ b
def fH (b:CA X a f):uJ X (.BoolOp .Or [a] d) f:=uk b
def RQ (h:PW X e t)(i:∀σ H Q,t' σ H Q->t σ H Q):PW X e t':=λb a s σ H Q I q=>h b a s σ H Q I (i σ H Q q)
def fR (j:CA X a f)(k:uJ X (.BoolOp .And (b::rest) d) g):uJ X (.BoolOp .And (a::b::rest) d) (yV f g):=
 RQ (qj j k) λσ H Q ⟨e,h,O,ρ,E,q⟩=>⟨e,h,O,ρ,E,CC.mono (CC.seq q)<|by
  rintro b l ⟨_,m,i⟩;cases b with
  |true=>rw[jk rfl];exact⟨e,h,O,ρ,E.grow m,i⟩
  |false=>rw[ka aBg];exact i l (Same.refl _)⟩
def iT (j:CA X a f)(k:uJ X (.BoolOp .Or (b::rest) d) g):uJ X (.BoolOp .Or (a::b::rest) d) (orB f g):=
 RQ (a0z j k) λσ H Q ⟨e,h,O,ρ,E,q⟩=>⟨e,h,O,ρ,E,CC.mono (CC.seq q)<|by
  rintro b l ⟨_,m,i⟩;cases b with
  |false=>rw[ka aBg];exact⟨e,h,O,ρ,E.grow m,i⟩
  |true=>rw[jk rfl];exact i l (Same.refl _)⟩
def uJ.pt (h:uJ X e f):CA X e f:=PW.pt h
def oJ (d:CA X a f):CA X (.UnaryOp .Not a e) (uz f):=
 ptI (cx d) λσ H Q g h O ρ E q=>⟨g,h,O,ρ,E,CC.mono (CC.seq q)<|by rintro b i ⟨_,k,j⟩;exact j i (Same.refl _)⟩
def a1v:D->R D
 |.int i=>.ok (.int (-i))
 |_=>.bad
def lO {f:Ev->R D}(e:PD X a f):PD X (.UnaryOp .USub a g) (λρ=>(f ρ).bind a1v):=
 VZ (a0v tw e) λσ H Q h j O ρ E q=>⟨h,j,O,ρ,E,by
  refine RC.mono (RC.seq q) λv k l=>?_;obtain⟨d,_,n,m,b⟩:=l;cases d with
  |int i=>cases m;exact⟨i,rfl,b _ k (Same.refl _) .int⟩
  |_=>exact(show False from b).elim⟩
def JU.seq {H:Hp}{O:a5->Prop}{r:R (List D)}{g:List D->R D}{Q:VK}(h:RC X H O (r.bind g) Q):
  JU X H O r λv a=>∃d,r=.ok d/\Same H a/\Reps X.K a O v d/\RC X a O (g d) Q:=by
 cases r with
 |ok d=>exactλv a b e=>⟨d,rfl,b,e,(show RC X H O (g d) Q from h).grow b⟩
 |ex x=>exact h
 |bad=>exact h
def JU.mono {O:a5->Prop}{Q e:List V->Hp->Prop}(h:JU X H O r Q)(i:∀b a,Q b a->e b a):JU X H O r e:=by
 cases r with
 |ok d=>exactλv a f g=>i _ _ (h v a f g)
 |ex x=>exact h
 |bad=>exact h
def NT.seq {H:Hp}{O:a5->Prop}{r:R (List D)}{g:List D->R D}{Q:VK}(h:RC X H O (r.bind g) Q):
  NT X H O r λv a=>∃d,r=.ok d/\Same H a/\Paired (C5 X.K a O) v d/\RC X a O (g d) Q:=by
 cases r with
 |ok d=>exactλv a b e=>⟨d,rfl,b,e,(show RC X H O (g d) Q from h).grow b⟩
 |ex x=>exact h
 |bad=>exact h
def QS.mono {O:a5->Prop}(h:QS X H O r Q)(i:∀b a,Q b a->e b a):QS X H O r e:=by
 cases r with
 |ok d=>exactλv a f g=>i _ _ (h v a f g)
 |ex x=>exact h
 |bad=>exact h
def t5 (f:Ev->R D)(g:Ev->R (List D)):Ev->R (List D):=λρ=>(f ρ).bind λd=>(g ρ).bind λa=>.ok (d::a)
def U5:Ev->R (List D):=λ_=>.ok []
def o7:IV X [] U5:=paI cG λσ H Q a b O ρ E q=>q [] H (Same.refl _) .nil
def i6 {f:Ev->R D}{g:Ev->R (List D)}(m:PD X e f)(n:IV X es g)(o:az (e::es) X.env=(false,cv e X.env)::az es X.env:=by rfl):IV X (e::es) (t5 f g):=
 paI (L8 m n o) λσ H Q k l O ρ E q=>⟨k,l,O,ρ,E,by
  unfold t5 at q;cases b:f ρ with
  |ok d=>
   rw[b]at q;intro v s h p;refine⟨k,l,O,ρ,E.grow h,?_⟩;cases i:g ρ with
   |ok t=>rw[i]at q;exactλL j a r=>q (v::L) j (h.trans a) (.cons (p.same a) r)
   |ex x=>rw[i]at q;exactλj a=>q j (h.trans a)
   |bad=>rw[i]at q;exact q
  |ex x=>rw[b]at q;exact q
  |bad=>rw[b]at q;exact q⟩
def L0:qy X [] U5:=paI cG λσ H Q a b O ρ E q=>q [] H (Same.refl _) .nil
def A8 {f:Ev->R D}{g:Ev->R (List D)}(m:PB X e f)(n:qy X es g)(o:az (e::es) X.env=(false,cv e X.env)::az es X.env:=by rfl):qy X (e::es) (t5 f g):=
 paI (L8 m n o) λσ H Q k l O ρ E q=>⟨k,l,O,ρ,E,by
  unfold t5 at q;cases b:f ρ with
  |ok d=>
   rw[b]at q;intro v s h p;refine⟨k,l,O,ρ,E.grow h,?_⟩;cases i:g ρ with
   |ok t=>rw[i]at q;exactλL j a r=>q (v::L) j (h.trans a) (.cons (p.same a) r)
   |ex x=>rw[i]at q;exactλj a=>q j (h.trans a)
   |bad=>rw[i]at q;exact q
  |ex x=>rw[b]at q;exact q
  |bad=>rw[b]at q;exact q⟩
def nV (ds:List D):R D:=if ds.length<=sizeLine then .ok (.tup ds)else .bad
def CN (ds:List D):R D:=if ds.length<=sizeLine then .ok (.lst ds)else .bad
def pB {f:Ev->R (List D)}{e}(h:IV X es f):PD X (.Tuple es e g) (λρ=>(f ρ).bind nV):=
 VZ (tx h) λσ H Q i j O ρ E q=>⟨i,j,O,ρ,E,JU.mono (JU.seq q)<|by
  rintro L l ⟨m,_,n,b,a⟩;unfold nV at a;split at a
  .rename_i k;exact⟨by rw[b.length];exact k,λp d=>a (.ref p) _ (l9 d _) (.tup (Z0.of j8) (b.same<|l9 d _))⟩
  .exact a.elim⟩
def iK {f:Ev->R (List D)}(h:IV X es f):PD X (.List es e) (λρ=>(f ρ).bind CN):=
 VZ (QH h) λσ H Q g i O ρ E q=>⟨g,i,O,ρ,E,JU.mono (JU.seq q)<|by
  rintro L l ⟨m,_,j,d,a⟩;unfold CN at a;split at a
  .rename_i k;exact⟨by rw[d.length];exact k,λp b=>a (.ref p) _ (l9 b _) (.lst (P4.of j8) ((E.grow j).fresh b) (d.same<|l9 b _))⟩
  .exact a.elim⟩
def eZ (X:Cx)(f:ao)(g:List D->R D):Prop:=
 ∀(H:Hp) (O:a5->Prop) (L:List V) (a:List D) (Q:VK),(∀p,H p=none->¬O p)->Paired (C5 X.K H O) L a->RC X H O (g a) Q->∃r,BQ X f r/\r L H Q
def jO {x:Str}{id:String}{p:Pos}{f:Ev->R (List D)}{g:List D->R D}(j:eZ X (.builtin id) g)(k:qy X (e::es) f)(l:Gl X x:=by rfl)(m:X.mg x=none:=by assumption)(n:cu x=some (.builtin id):=by decide+kernel)(o:x≠ "__name__":=by decide)
  (t:(x==kd)=false:=by decide) (u:az (e::es) X.env=(false,cv e X.env)::az es X.env:=by rfl) (v:(cp b (az es X.env)).any (·.1)=false:=by rfl):
  PD X (.Call (.Name x p) (e::es) [] b) (λρ=>(f ρ).bind g):=by
 refine sM λa s σ H Q I w y O ρ E q=>?_;refine aAZ (Q0 I l m n ?_ o t);refine aBP (G5 (k b a s σ H _ I ⟨w,y,O,ρ,E,NT.seq q⟩) λz A ⟨L,i,B,C,d,_,J,r,h⟩=>?_) u v;obtain⟨Y,N,T⟩:=j i O L d Q (λp U=>(E.grow J).fresh U) r h;exact N a A σ i L z Q B C T
def KD {x:Str}{T:String}{p:Pos}{f:Ev->R (List D)}{g:List D->R D}(j:eZ X (.type T) g)(k:qy X (e::es) f)(l:Gl X x:=by rfl)(m:X.mg x=none:=by assumption)(n:cu x=some (.type T):=by decide+kernel)(o:x≠ "__name__":=by decide)
  (t:(x==kd)=false:=by decide) (u:az (e::es) X.env=(false,cv e X.env)::az es X.env:=by rfl) (v:(cp b (az es X.env)).any (·.1)=false:=by rfl):
  PD X (.Call (.Name x p) (e::es) [] b) (λρ=>(f ρ).bind g):=by
 refine sM λa s σ H Q I w y O ρ E q=>?_;refine aAZ (Q0 I l m n ?_ o t);refine aBy (G5 (k b a s σ H _ I ⟨w,y,O,ρ,E,NT.seq q⟩) λz A ⟨L,i,B,C,d,_,J,r,h⟩=>?_) u v;obtain⟨r',N,U⟩:=j i O L d Q (λp Y=>(E.grow J).fresh Y) r h;exact N a A σ i L z Q B C U
end
mutual
def x9:D->D->Bool
 |.non,.non=>true
 |.bl a,.bl b=>a==b
 |.bl a,.int b=>(if a then 1 else 0)==b
 |.int a,.bl b=>a==(if b then 1 else 0)
 |.int a,.int b=>a==b
 |.str a,.str b=>a==b
 |.tup Y,.tup d=>aK Y d
 |.lst Y,.lst d=>aK Y d
 |.dct,.dct=>true
 |_,_=>false
def aK:List D->List D->Bool
 |[],[]=>true
 |x::Y,y::a=>x9 x y&&aK Y a
 |_,_=>false
end
mutual
def F5:D->Nat
 |.tup Y=>J3 Y+1
 |.lst Y=>J3 Y+1
 |.dct=>cq
 |_=>0
def J3:List D->Nat
 |[]=>0
 |x::Y=>max (F5 x) (J3 Y)
end
mutual
theorem P1:∀d:D,x9 d d=true
 |.non=>by simp[x9]
 |.bl b=>by simp[x9]
 |.int i=>by simp[x9]
 |.str x=>by simp[x9]
 |.tup Y=>by rw[x9];exact mD Y
 |.lst Y=>by rw[x9];exact mD Y
 |.dct=>by simp[x9]
theorem mD:∀ds:List D,aK ds ds=true
 |[]=>by simp[aK]
 |x::Y=>by rw[aK,P1 x,mD Y];rfl
end
def nF (Y ys:List D)(j:Nat):Bool:=match Y[j]?,ys[j]? with
 |some a,some b=>x9 a b
 |_,_=>false
theorem iH:∀(Y ys:List D),aK Y ys=((aAQ (min Y.length ys.length)).all (nF Y ys)&&(Y.length==ys.length))
 |[],[]=>by simp[aK]
 |[],_::_=>by simp[aK]
 |_::_,[]=>by simp[aK]
 |x::Y,y::ys=>by
  rw[aK,iH Y ys,aAr,aAr,Nat.succ_min_succ,aEg,aGo,List.all_map];have a:nF (x::Y) (y::ys) 0=x9 x y:=rfl;have b:(nF (x::Y) (y::ys)∘Nat.succ)=nF Y ys:=by
   funext j
   simp[nF]
  have d:(Y.length+1==ys.length+1)=(Y.length==ys.length):=by rw[aEa];simp
  rw[a,b,d,Bool.and_assoc]
theorem xT:∀{Y:List D} {d:D} {j:Nat},Y[j]?=some d->F5 d<=J3 Y
 |[],_,_,h=>by simp at h
 |x::Y,d,0,h=>by simp at h;subst h;rw[J3];exact Nat.le_max_left _ _
 |x::Y,d,j+1,h=>by rw[J3];exact aAs (xT (j:=j) (by simpa using h)) (Nat.le_max_right _ _)
section
def FM {K:kc}{H:Hp}{O:a5->Prop}{a:a5}{d:D}(h:Rep K H O (.ref a) d):(∃L ds,d=.tup ds/\Z0 K H a L/\Reps K H O L ds)\/(∃L ds,d=.lst ds/\P4 K H a L/\Reps K H O L ds)\/(d=.dct/\∃o:Obj,H a=some (.ext λh=>h.get? a=some o)/\o.ExactDict):=by
 cases h with
 |tup h r=>exact .inl ⟨_,_,rfl,h,r⟩
 |lst h n r=>exact .inr (.inl ⟨_,_,rfl,h,r⟩)
 |dct h x n=>exact .inr (.inr ⟨rfl,_,h,x⟩)
def YQ (I:Inv X b σ H s)(h:Z0 X.K H a L)(h':P4 X.K H a ws):False:=by obtain⟨e,_,p,_⟩:=I.tuple h;obtain⟨d,_,f,_⟩:=I.list h';exact absurd rfl (SeqAt.ne_of_list_tuple (s:=s) f.isList p)
def YN {o:Obj}(I:Inv X b σ H s)(h':Z0 X.K H a L)(h:H a=some (.ext λh=>h.get? a=some o))(x:o.ExactDict):False:=by obtain⟨d,_,⟨f,g,c,_⟩,_⟩:=I.tuple h';have e:s.heap.get? _=some _:=(I.hok _ _ h).1;rw[g]at e;cases e;exact absurd (c.symm.trans x.1) (by decide)
def YR {o:Obj}(I:Inv X b σ H s)(h':P4 X.K H a L)(h:H a=some (.ext λh=>h.get? a=some o))(x:o.ExactDict):False:=by obtain⟨d,_,p,_⟩:=I.list h';obtain⟨f,g,c,_⟩:=p.isList;have e:s.heap.get? _=some _:=(I.hok _ _ h).1;rw[g]at e;cases e;exact absurd (c.symm.trans x.1) (by decide)
mutual
theorem Rep.inj (I:Inv X g σ H s):∀{v:V} {d:D},Rep X.K H O v d->∀{d':D},Rep X.K H i v d'->d=d'
 |_,_,.non=>λh=>by cases h;rfl
 |_,_,.bl=>λh=>by cases h;rfl
 |_,_,.int=>λh=>by cases h;rfl
 |_,_,.str=>λh=>by cases h;rfl
 |_,_,.tup h r=>λb=>by
  rcases FM b with⟨_,_,rfl,a,f⟩|⟨_,_,rfl,a,_⟩|⟨rfl,_,a,x⟩
  .have e:=I.ab3 h a;subst e;rw[Reps.inj I r f]
  .exact(YQ I h a).elim
  .exact(YN I h a x).elim
 |_,_,.lst h _ r=>λb=>by
  rcases FM b with⟨_,_,rfl,a,_⟩|⟨_,_,rfl,a,f⟩|⟨rfl,_,a,x⟩
  .exact(YQ I a h).elim
  .have e:=I.ab9 h a;subst e;rw[Reps.inj I r f]
  .exact(YR I h a x).elim
 |_,_,.dct h x _=>λb=>by
  rcases FM b with⟨_,_,rfl,a,_⟩|⟨_,_,rfl,a,_⟩|⟨rfl,_⟩
  .exact(YN I a h x).elim
  .exact(YR I a h x).elim
  .rfl
theorem Reps.inj (I:Inv X a σ H s):∀{v:List V} {d:List D},Reps X.K H O v d->∀{d':List D},Reps X.K H g v d'->d=d'
 |_,_,.nil=>λh=>by cases h;rfl
 |_,_,.cons h t=>λb=>by
  cases b with
  |cons e f=>rw[Rep.inj I h e,Reps.inj I t f]
end
def oT (A:bc)(s:aA)(a ws:List ao)(Y ys:List D):Prop:=∀(j:Nat) (u w:ao),a[j]?=some u->ws[j]?=some w->SeqAt.EqAt A.in1 s u w (nF Y ys j)
def BK (f:s.heap.IsList l a.toArray)(g:s.heap.IsList b ws.toArray)(e1:a.length=Y.length)(e2:ws.length=ys.length)(h:A.units<cq)(o:oT A s a ws Y ys):SeqAt.RcAt A s (.ref l) (.ref b) (aK Y ys)/\SeqAt.RcNeAt A s (.ref l) (.ref b) (!aK Y ys):=by
 rw[iH];by_cases d:Y.length=ys.length
 .have e:a.toArray.size=ws.toArray.size:=by simp[e1,e2,d]
  have p:min Y.length ys.length=a.toArray.size:=by simp[e1,d]
  have i:(Y.length==ys.length)=true:=by simp[d]
  have k:∀j (m:j<a.toArray.size) (n:j<ws.toArray.size),SeqAt.EqAt A.in1 s a.toArray[j] ws.toArray[j] (nF Y ys j):=λj m n=>o j _ _ (by simp[aAg (show j<a.length by simpa using m)]) (by simp[aAg (show j<ws.length by simpa using n)]);rw[i,Bool.and_true,p];exact⟨SeqAt.RcAt.lists f g e h k,SeqAt.RcNeAt.lists f g e h k⟩
 .have e:(a.toArray.size !=ws.toArray.size)=true:=by simp[e1,e2,d]
  have i:(Y.length==ys.length)=false:=by simp[d]
  rw[i,aFZ];exact⟨SeqAt.RcAt.lists_lengths f g e h,SeqAt.RcNeAt.lists_lengths f g e h⟩
def kS (d:IsTup s.heap l a.toArray)(e:IsTup s.heap b ws.toArray)(e1:a.length=Y.length)(e2:ws.length=ys.length)(f:A.units<cq)(k:oT A s a ws Y ys):SeqAt.RcAt A s (.ref l) (.ref b) (aK Y ys)/\SeqAt.RcNeAt A s (.ref l) (.ref b) (!aK Y ys):=by
 rw[iH];have m:min Y.length ys.length=min a.toArray.size ws.toArray.size:=by simp[e1,e2]
 have n:(Y.length==ys.length)=(a.toArray.size==ws.toArray.size):=by simp[e1,e2]
 have g:∀j (h:j<a.toArray.size) (i:j<ws.toArray.size),SeqAt.EqAt A.in1 s a.toArray[j] ws.toArray[j] (nF Y ys j):=λj h i=>k j _ _ (by simp[aAg (show j<a.length by simpa using h)]) (by simp[aAg (show j<ws.length by simpa using i)]);rw[n,m];exact⟨SeqAt.RcAt.tuples d e f g,SeqAt.RcNeAt.tuples d e f g⟩
def w5 (A:bc):A.in1.units=A.units+1:=rfl
mutual
theorem ck (I:Inv X N σ H s):∀{x y:V} {w z:D} {v u:ao} {A:bc},Rep X.K H O x w->Rep X.K H O' y z->RelV x v->RelV y u->A.units+F5 w<cq->A.units+F5 z<cq->SeqAt.EqAt A s v u (x9 w z)
 |_,_,_,_,v,u,A,.non,g,i,b,j,f=>by
  have d:A.units<cq:=by lia
  cases i;cases g with
  |dct=>exact absurd f (by rw[F5];lia)
  |non=>cases b;exact aEb _
  |bl=>cases b;simp only[x9];exact SeqAt.EqAt.none_bool _
  |int=>obtain⟨t,rfl⟩:=b;simp only[x9];exact SeqAt.EqAt.none_int _ _
  |str=>obtain⟨t,rfl⟩:=b;simp only[x9];exact SeqAt.EqAt.none_str _ _
  |tup h r=>cases b;obtain⟨_,_,p,_⟩:=I.tuple h;simp only[x9];exact SeqAt.EqAt.none_tuple p d
  |lst h _ r=>cases b;obtain⟨_,_,p,_⟩:=I.list h;simp only[x9];exact SeqAt.EqAt.none_list p.isList d
 |_,_,_,_,v,u,A,.bl,g,i,b,j,f=>by
  have d:A.units<cq:=by lia
  cases i;cases g with
  |dct=>exact absurd f (by rw[F5];lia)
  |non=>cases b;simp only[x9];exact SeqAt.EqAt.bool_none _
  |bl=>cases b;simp only[x9];exact SeqAt.EqAt.bool_bool _ _
  |int=>obtain⟨t,rfl⟩:=b;simp only[x9];exact SeqAt.EqAt.bool_int _ _ _
  |str=>obtain⟨t,rfl⟩:=b;simp only[x9];exact SeqAt.EqAt.bool_str _ _ _
  |tup h r=>cases b;obtain⟨_,_,p,_⟩:=I.tuple h;simp only[x9];exact SeqAt.EqAt.bool_tuple _ p d
  |lst h _ r=>cases b;obtain⟨_,_,p,_⟩:=I.list h;simp only[x9];exact SeqAt.EqAt.bool_list _ p.isList d
 |_,_,_,_,v,u,A,.int,g,i,b,j,f=>by
  have d:A.units<cq:=by lia
  obtain⟨Q,rfl⟩:=i;cases g with
  |dct=>exact absurd f (by rw[F5];lia)
  |non=>cases b;simp only[x9];exact SeqAt.EqAt.int_none _ _
  |bl=>cases b;simp only[x9];exact SeqAt.EqAt.int_bool _ _ _
  |int=>obtain⟨t,rfl⟩:=b;simp only[x9];exact aFd _ _ _ _
  |str=>obtain⟨t,rfl⟩:=b;simp only[x9];exact aGm _ _ _ _
  |tup h r=>cases b;obtain⟨_,_,p,_⟩:=I.tuple h;simp only[x9];exact aFT _ _ p d
  |lst h _ r=>cases b;obtain⟨_,_,p,_⟩:=I.list h;simp only[x9];exact SeqAt.EqAt.int_list _ _ p.isList d
 |_,_,_,_,v,u,A,.str,g,i,b,j,f=>by
  have d:A.units<cq:=by lia
  obtain⟨Q,rfl⟩:=i;cases g with
  |dct=>exact absurd f (by rw[F5];lia)
  |non=>cases b;simp only[x9];exact SeqAt.EqAt.str_none _ _
  |bl=>cases b;simp only[x9];exact SeqAt.EqAt.str_bool _ _ _
  |int=>obtain⟨t,rfl⟩:=b;simp only[x9];exact aGn _ _ _ _
  |str=>obtain⟨t,rfl⟩:=b;simp only[x9];exact SeqAt.EqAt.str_str _ _ _ _
  |tup h r=>cases b;obtain⟨_,_,p,_⟩:=I.tuple h;simp only[x9];exact SeqAt.EqAt.str_tuple _ _ p d
  |lst h _ r=>cases b;obtain⟨_,_,p,_⟩:=I.list h;simp only[x9];exact SeqAt.EqAt.str_list _ _ p.isList d
 |_,_,_,_,v,u,A,.tup (a:=a) (L:=L) (ds:=ds) h r,g,i,b,j,f=>by
  have d:A.units<cq:=by lia
  cases i;obtain⟨B,n,p,_⟩:=I.tuple h;cases g with
  |dct=>exact absurd f (by rw[F5];lia)
  |non=>cases b;simp only[x9];exact SeqAt.EqAt.tuple_none p d
  |bl=>cases b;simp only[x9];exact SeqAt.EqAt.tuple_bool _ p d
  |int=>obtain⟨t,rfl⟩:=b;simp only[x9];exact aFU _ _ p d
  |str=>obtain⟨t,rfl⟩:=b;simp only[x9];exact SeqAt.EqAt.tuple_str _ _ p d
  |@tup C T U k l=>
   cases b;obtain⟨o,q,m,_⟩:=I.tuple k;by_cases e:a=C
   .subst e;have E:=I.ab3 h k;subst E;have J:=Reps.inj I r l;subst J;rw[P1];exact aEb _
   .simp only[x9];refine aFe e (kS p m (by rw[<-n.length,r.length]) (by rw[<-q.length,l.length]) d<|kJ I r l n q ?_ ?_).1
    .rw[F5]at j;rw[w5];lia
    .rw[F5]at f;rw[w5];lia
  |lst k _ l=>cases b;obtain⟨_,_,m,_⟩:=I.list k;simp only[x9];exact SeqAt.EqAt.tuple_list p m.isList d
 |_,_,_,_,v,u,A,.lst (a:=a) (L:=L) (ds:=ds) h nO r,g,i,b,j,f=>by
  have d:A.units<cq:=by lia
  cases i;obtain⟨B,n,p,_⟩:=I.list h;cases g with
  |dct=>exact absurd f (by rw[F5];lia)
  |non=>cases b;simp only[x9];exact SeqAt.EqAt.list_none p.isList d
  |bl=>cases b;simp only[x9];exact SeqAt.EqAt.list_bool _ p.isList d
  |int=>obtain⟨t,rfl⟩:=b;simp only[x9];exact SeqAt.EqAt.list_int _ _ p.isList d
  |str=>obtain⟨t,rfl⟩:=b;simp only[x9];exact SeqAt.EqAt.list_str _ _ p.isList d
  |tup k l=>cases b;obtain⟨_,_,m,_⟩:=I.tuple k;simp only[x9];exact SeqAt.EqAt.list_tuple p.isList m d
  |@lst C T U k Y l=>
   cases b;obtain⟨o,q,m,_⟩:=I.list k;by_cases e:a=C
   .subst e;have E:=I.ab9 h k;subst E;have J:=Reps.inj I r l;subst J;rw[P1];exact aEb _
   .simp only[x9];refine aFe e (BK p.isList m.isList (by rw[<-n.length,r.length]) (by rw[<-q.length,l.length]) d<|kJ I r l n q ?_ ?_).1
    .rw[F5]at j;rw[w5];lia
    .rw[F5]at f;rw[w5];lia
 |_,_,_,_,v,u,A,.dct ..,g,i,b,j,f=>absurd j (by rw[F5];lia)
theorem kJ (I:Inv X o σ H s):∀{L ws:List V} {Y ys:List D} {e f:List ao} {A:bc},Reps X.K H O L Y->Reps X.K H y ws ys->p9 L e->p9 ws f->A.in1.units+J3 Y<cq->A.in1.units+J3 ys<cq->oT A s e f Y ys
 |_,_,_,_,e,f,A,.nil,z,g,i,k,l=>λj u w a b=>by cases g;simp at a
 |_,_,_,_,e,f,A,.cons h t,.nil,g,i,k,l=>λj u w a b=>by cases i;simp at b
 |_,_,_,_,e,f,A,.cons (d:=d) (ds:=ds) h t,.cons (d:=B) (ds:=C) p r,g,i,k,l=>λj u w a b=>by
  cases g with
  |cons v x=>
   cases i with
   |cons m n=>
    rw[J3]at k l;cases j with
    |zero=>simp only[aCF,aGv]at a b;subst a b;exact ck I h p v m (by lia) (by lia)
    |succ j=>simp only[aEc]at a b;have q:=kJ I (A:=A) t r x n (by lia) (by lia) j u w a b;exact q
end
def xx (I:Inv X N σ H s)(m:C5 X.K H O x z)(d:C5 X.K H T y g)(n:RelV x v)(e:RelV y u)(B:A.units+F5 z<cq)(j:A.units+F5 g<cq):
  SeqAt.RcAt A s v u (x9 z g)/\SeqAt.RcNeAt A s v u (!x9 z g):=by
 have b:A.units<cq:=by lia
 cases z with
 |dct=>exact absurd B (by rw[F5];lia)
 |non=>
  cases m.ac1;cases n;cases g with
  |dct=>exact absurd j (by rw[F5];lia)
  |non=>cases d.ac1;cases e;simp only[x9];exact⟨SeqAt.RcAt.none_none,SeqAt.RcNeAt.none_none⟩
  |bl=>cases d.blI;cases e;simp only[x9];exact⟨SeqAt.RcAt.none_bool _,SeqAt.RcNeAt.none_bool _⟩
  |int=>cases d.aa6;obtain⟨t,rfl⟩:=e;simp only[x9];exact⟨SeqAt.RcAt.none_int _ _,SeqAt.RcNeAt.none_int _ _⟩
  |str=>cases d.ac6;obtain⟨t,rfl⟩:=e;simp only[x9];exact⟨SeqAt.RcAt.none_str _ _,SeqAt.RcNeAt.none_str _ _⟩
  |tup f=>obtain⟨a,L,rfl,h,r⟩:=d.tupI;cases e;obtain⟨_,_,p,_⟩:=I.tuple h;simp only[x9];exact⟨SeqAt.RcAt.none_tuple p b,SeqAt.RcNeAt.none_tuple p b⟩
  |lst f=>obtain⟨a,L,rfl,h,r⟩:=d.aa5;cases e;obtain⟨_,_,p,_⟩:=I.list h;simp only[x9];exact⟨SeqAt.RcAt.none_list p.isList b,SeqAt.RcNeAt.none_list p.isList b⟩
 |bl=>
  cases m.blI;cases n;cases g with
  |dct=>exact absurd j (by rw[F5];lia)
  |non=>cases d.ac1;cases e;simp only[x9];exact⟨SeqAt.RcAt.bool_none _,SeqAt.RcNeAt.bool_none _⟩
  |bl=>cases d.blI;cases e;simp only[x9];exact⟨SeqAt.RcAt.bool_bool _ _,SeqAt.RcNeAt.bool_bool _ _⟩
  |int=>cases d.aa6;obtain⟨t,rfl⟩:=e;simp only[x9];exact⟨SeqAt.RcAt.bool_int _ _ _,SeqAt.RcNeAt.bool_int _ _ _⟩
  |str=>cases d.ac6;obtain⟨t,rfl⟩:=e;simp only[x9];exact⟨SeqAt.RcAt.bool_str _ _ _,SeqAt.RcNeAt.bool_str _ _ _⟩
  |tup f=>obtain⟨a,L,rfl,h,r⟩:=d.tupI;cases e;obtain⟨_,_,p,_⟩:=I.tuple h;simp only[x9];exact⟨SeqAt.RcAt.bool_tuple _ p b,SeqAt.RcNeAt.bool_tuple _ p b⟩
  |lst f=>obtain⟨a,L,rfl,h,r⟩:=d.aa5;cases e;obtain⟨_,_,p,_⟩:=I.list h;simp only[x9];exact⟨SeqAt.RcAt.bool_list _ p.isList b,SeqAt.RcNeAt.bool_list _ p.isList b⟩
 |int=>
  cases m.aa6;obtain⟨Q,rfl⟩:=n;cases g with
  |dct=>exact absurd j (by rw[F5];lia)
  |non=>cases d.ac1;cases e;simp only[x9];exact⟨SeqAt.RcAt.int_none _ _,SeqAt.RcNeAt.int_none _ _⟩
  |bl=>cases d.blI;cases e;simp only[x9];exact⟨SeqAt.RcAt.int_bool _ _ _,SeqAt.RcNeAt.int_bool _ _ _⟩
  |int=>cases d.aa6;obtain⟨t,rfl⟩:=e;simp only[x9];exact⟨SeqAt.RcAt.int_int _ _ _ _,SeqAt.RcNeAt.int_int _ _ _ _⟩
  |str=>cases d.ac6;obtain⟨t,rfl⟩:=e;simp only[x9];exact⟨SeqAt.RcAt.int_str _ _ _ _,SeqAt.RcNeAt.int_str _ _ _ _⟩
  |tup f=>obtain⟨a,L,rfl,h,r⟩:=d.tupI;cases e;obtain⟨_,_,p,_⟩:=I.tuple h;simp only[x9];exact⟨SeqAt.RcAt.int_tuple _ _ p b,SeqAt.RcNeAt.int_tuple _ _ p b⟩
  |lst f=>obtain⟨a,L,rfl,h,r⟩:=d.aa5;cases e;obtain⟨_,_,p,_⟩:=I.list h;simp only[x9];exact⟨SeqAt.RcAt.int_list _ _ p.isList b,SeqAt.RcNeAt.int_list _ _ p.isList b⟩
 |str=>
  cases m.ac6;obtain⟨Q,rfl⟩:=n;cases g with
  |dct=>exact absurd j (by rw[F5];lia)
  |non=>cases d.ac1;cases e;simp only[x9];exact⟨SeqAt.RcAt.str_none _ _,SeqAt.RcNeAt.str_none _ _⟩
  |bl=>cases d.blI;cases e;simp only[x9];exact⟨SeqAt.RcAt.str_bool _ _ _,SeqAt.RcNeAt.str_bool _ _ _⟩
  |int=>cases d.aa6;obtain⟨t,rfl⟩:=e;simp only[x9];exact⟨SeqAt.RcAt.str_int _ _ _ _,SeqAt.RcNeAt.str_int _ _ _ _⟩
  |str=>cases d.ac6;obtain⟨t,rfl⟩:=e;simp only[x9];exact⟨SeqAt.RcAt.str_str _ _ _ _,SeqAt.RcNeAt.str_str _ _ _ _⟩
  |tup f=>obtain⟨a,L,rfl,h,r⟩:=d.tupI;cases e;obtain⟨_,_,p,_⟩:=I.tuple h;simp only[x9];exact⟨SeqAt.RcAt.str_tuple _ _ p b,SeqAt.RcNeAt.str_tuple _ _ p b⟩
  |lst f=>obtain⟨a,L,rfl,h,r⟩:=d.aa5;cases e;obtain⟨_,_,p,_⟩:=I.list h;simp only[x9];exact⟨SeqAt.RcAt.str_list _ _ p.isList b,SeqAt.RcNeAt.str_list _ _ p.isList b⟩
 |tup Y=>
  obtain⟨a,L,rfl,h,r⟩:=m.tupI;cases n;obtain⟨C,o,p,_⟩:=I.tuple h;cases g with
  |dct=>exact absurd j (by rw[F5];lia)
  |non=>cases d.ac1;cases e;simp only[x9];exact⟨SeqAt.RcAt.tuple_none p b,SeqAt.RcNeAt.tuple_none p b⟩
  |bl=>cases d.blI;cases e;simp only[x9];exact⟨SeqAt.RcAt.tuple_bool _ p b,SeqAt.RcNeAt.tuple_bool _ p b⟩
  |int=>cases d.aa6;obtain⟨t,rfl⟩:=e;simp only[x9];exact⟨SeqAt.RcAt.tuple_int _ _ p b,SeqAt.RcNeAt.tuple_int _ _ p b⟩
  |str=>cases d.ac6;obtain⟨t,rfl⟩:=e;simp only[x9];exact⟨SeqAt.RcAt.tuple_str _ _ p b,SeqAt.RcNeAt.tuple_str _ _ p b⟩
  |tup f=>
   obtain⟨E,J,rfl,k,l⟩:=d.tupI;cases e;obtain⟨q,w,i,_⟩:=I.tuple k;simp only[x9];refine kS p i (by rw[<-o.length,r.length]) (by rw[<-w.length,l.length]) b (kJ I r l o w ?_ ?_)
   .rw[F5]at B;rw[w5];lia
   .rw[F5]at j;rw[w5];lia
  |lst f=>obtain⟨E,J,rfl,k,l⟩:=d.aa5;cases e;obtain⟨_,_,i,_⟩:=I.list k;simp only[x9];exact⟨SeqAt.RcAt.tuple_list p i.isList b,SeqAt.RcNeAt.tuple_list p i.isList b⟩
 |lst Y=>
  obtain⟨a,L,rfl,h,r⟩:=m.aa5;cases n;obtain⟨C,o,p,_⟩:=I.list h;cases g with
  |dct=>exact absurd j (by rw[F5];lia)
  |non=>cases d.ac1;cases e;simp only[x9];exact⟨SeqAt.RcAt.list_none p.isList b,SeqAt.RcNeAt.list_none p.isList b⟩
  |bl=>cases d.blI;cases e;simp only[x9];exact⟨SeqAt.RcAt.list_bool _ p.isList b,SeqAt.RcNeAt.list_bool _ p.isList b⟩
  |int=>cases d.aa6;obtain⟨t,rfl⟩:=e;simp only[x9];exact⟨SeqAt.RcAt.list_int _ _ p.isList b,SeqAt.RcNeAt.list_int _ _ p.isList b⟩
  |str=>cases d.ac6;obtain⟨t,rfl⟩:=e;simp only[x9];exact⟨SeqAt.RcAt.list_str _ _ p.isList b,SeqAt.RcNeAt.list_str _ _ p.isList b⟩
  |tup f=>obtain⟨E,J,rfl,k,l⟩:=d.tupI;cases e;obtain⟨_,_,i,_⟩:=I.tuple k;simp only[x9];exact⟨SeqAt.RcAt.list_tuple p.isList i b,SeqAt.RcNeAt.list_tuple p.isList i b⟩
  |lst f=>
   obtain⟨E,J,rfl,k,l⟩:=d.aa5;cases e;obtain⟨q,w,i,_⟩:=I.list k;simp only[x9];refine BK p.isList i.isList (by rw[<-o.length,r.length]) (by rw[<-w.length,l.length]) b (kJ I r l o w ?_ ?_)
   .rw[F5]at B;rw[w5];lia
   .rw[F5]at j;rw[w5];lia
end
def SG (x y:D):R D:=if F5 x<=40/\F5 y<=40 then .ok (.bl (x9 x y))else .bad
def DH (x y:D):R D:=if F5 x<=40/\F5 y<=40 then .ok (.bl (!x9 x y))else .bad
section
def M4 (r:X.A.units+64<cq):oD X (ek .Eq) SG:=by
 intro H O x y g h Q t i j q;unfold SG at q;split at q
 .rename_i w;refine⟨λa b d e=>a=x/\b=y/\d=H/\e (.bl (x9 g h)) H,?_,rfl,rfl,rfl,q _ H (Same.refl _) .bl⟩;intro f s σ d a b v u e I k l ⟨m,n,o,p⟩;subst m n o;exact(xx I (A:=X.A) i j k l (by lia) (by lia)).1 _ _ _ _ ⟨.bl _,_,I,rfl,p⟩
 .exact q.elim
def cS (r:X.A.units+64<cq):oD X (ek .NotEq) DH:=by
 intro H O x y g h Q t i j q;unfold DH at q;split at q
 .rename_i w;refine⟨λa b d e=>a=x/\b=y/\d=H/\e (.bl (!x9 g h)) H,?_,rfl,rfl,rfl,q _ H (Same.refl _) .bl⟩;intro f s σ d a b v u e I k l ⟨m,n,o,p⟩;subst m n o;exact(xx I (A:=X.A) i j k l (by lia) (by lia)).2 _ _ _ _ ⟨.bl _,_,I,rfl,p⟩
 .exact q.elim
end
def mJ:D->D->R D
 |.int a,.int b=>.ok (.int (a+b))
 |.lst a,.lst b=>if a.length+b.length<=sizeLine then .ok (.lst (a++b))else .bad
 |.tup [],.tup b=>.ok (.tup b)
 |.tup (x::a),.tup []=>if(x::a).length<=sizeLine then .ok (.tup (x::a))else .bad
 |.tup (x::a),.tup (y::b)=>if(x::a).length+(y::b).length<=sizeLine then .ok (.tup ((x::a)++(y::b)))else .bad
 |_,_=>.bad
def MD:D->D->R D
 |.int a,.int b=>.ok (.int (a-b))
 |_,_=>.bad
def v6 (a b:Int):Prop:=aBd a<=60000000/\aBd b<=60000000
instance(a b:Int):Decidable (v6 a b):=inferInstanceAs (Decidable<|_/\_)
def pR:D->D->R D
 |.int a,.int b=>if v6 a b then .ok (.int (a*b))else .bad
 |_,_=>.bad
def tU (b:Int):Prop:=b≠0/\aBd b<=9000
instance(b:Int):Decidable (tU b):=inferInstanceAs (Decidable<|_/\_)
def R8:D->D->R D
 |.int a,.int b=>if tU b then .ok (.int (a.fdiv b))else .bad
 |_,_=>.bad
def gU:D->D->R D
 |.int a,.int b=>if b≠0 then .ok (.int (a.fmod b))else .bad
 |_,_=>.bad
def qS:D->D->R D
 |.int a,.int b=>if 0<=b/\b<=1000000/\a.natAbs<2^64 then .ok (.int (a^b.toNat))else .bad
 |_,_=>.bad
def xy:D->D->R D
 |.int a,.int b=>.ok (.bl (decide (a<b)))
 |_,_=>.bad
def leR:D->D->R D
 |.int a,.int b=>.ok (.bl (decide (a<=b)))
 |_,_=>.bad
def tz:D->D->R D
 |.int a,.int b=>.ok (.bl (decide (b<a)))
 |_,_=>.bad
def JE (h0:b≠0)(h:aBd b<=n):b.natAbs.log2<n:=by
 unfold aBd at h;split at h
 .rename_i z;exact absurd (by simpa using z) h0
 .omega
def PQ (h:v6 a b):IntMulOk a b:=mulOk_of_bits (m:=60000000) (n:=60000000) h.1 h.2 (by decide)
section
def oD.aa7 {f:ao->ao->Sem ao}{g:D->D->R D}{C:Int->Int->Prop}{w:Int->Int->V}{dw:Int->Int->D}(h:nS X f (rI C w))(k:∀a b d,g a b=.ok d->∃i j,a=.int i/\b=.int j/\C i j/\d=dw i j)
  (l:∀a b e,g a b≠.ex e) (m:∀K H O i j,Rep K H O (w i j) (dw i j)):oD X f g:=by
 intro H O x y a b Q r n o q;cases e:g a b with
 |ok d=>rw[e]at q;obtain⟨i,j,rfl,rfl,p,rfl⟩:=k a b d e;cases n.aa6;cases o.aa6;exact⟨_,h,i,j,rfl,rfl,p,q _ H (Same.refl _) (m _ _ _ _ _)⟩
 |ex x=>exact absurd e (l _ _ _)
 |bad=>rw[e]at q;exact q.elim
def nS.c0 (h:nS X f (ZJ w)):nS X f (rI (λ_ _=>True) w):=by rintro a s σ H x y v u Q I b d ⟨i,j,e,g,_,q⟩;exact h a s σ H x y v u Q I b d ⟨i,j,e,g,q⟩
def p5:oD X (d7 .Sub) MD:=oD.aa7 (dw:=λi j=>.int (i-j)) (nS.c0 qw) (λa b d h=>by cases a<;>cases b<;>simp only[MD,R.ok.injEq,reduceCtorEq]at h;exact⟨_,_,rfl,rfl,trivial,h.symm⟩) (λa b e h=>by cases a<;>cases b<;>simp only[MD,reduceCtorEq]at h) λ_ _ _ _ _=>.int
def yU:oD X (ek .Lt) xy:=oD.aa7 (dw:=λi j=>.bl (decide (i<j))) (nS.c0 a0s) (λa b d h=>by cases a<;>cases b<;>simp only[xy,R.ok.injEq,reduceCtorEq]at h;exact⟨_,_,rfl,rfl,trivial,h.symm⟩) (λa b e h=>by cases a<;>cases b<;>simp only[xy,reduceCtorEq]at h) λ_ _ _ _ _=>.bl
def ZM:oD X (ek .LtE) leR:=oD.aa7 (dw:=λi j=>.bl (decide (i<=j))) (nS.c0 xk) (λa b d h=>by cases a<;>cases b<;>simp only[leR,R.ok.injEq,reduceCtorEq]at h;exact⟨_,_,rfl,rfl,trivial,h.symm⟩) (λa b e h=>by cases a<;>cases b<;>simp only[leR,reduceCtorEq]at h) λ_ _ _ _ _=>.bl
def uZ:oD X (ek .Gt) tz:=oD.aa7 (dw:=λi j=>.bl (decide (j<i))) (nS.c0 zy) (λa b d h=>by cases a<;>cases b<;>simp only[tz,R.ok.injEq,reduceCtorEq]at h;exact⟨_,_,rfl,rfl,trivial,h.symm⟩) (λa b e h=>by cases a<;>cases b<;>simp only[tz,reduceCtorEq]at h) λ_ _ _ _ _=>.bl
def OM:nS X (d7 .FloorDiv) (rI (λ_ j=>tU j) λi j=>.int (i.fdiv j)):=opI λ_ _ _ _ _ _ _ a q=>floordiv_int a.1 q (.inl (PyProof.noPylong_of_log2<|JE a.1 a.2))
def u8:oD X (d7 .FloorDiv) R8:=oD.aa7 (dw:=λi j=>.int (i.fdiv j)) OM (λa b d h=>by
 cases a<;>cases b<;>simp only[R8,reduceCtorEq]at h;split at h
 .rename_i f;cases h;exact⟨_,_,rfl,rfl,f,rfl⟩
 .cases h) (λa b e h=>by
  cases a<;>cases b<;>simp only[R8,reduceCtorEq]at h;split at h<;>cases h) λ_ _ _ _ _=>.int
def q8:oD X (d7 .Mod) gU:=oD.aa7 (dw:=λi j=>.int (i.fmod j)) WJ (λa b d h=>by
 cases a<;>cases b<;>simp only[gU,reduceCtorEq]at h;split at h
 .rename_i f;cases h;exact⟨_,_,rfl,rfl,f,rfl⟩
 .cases h) (λa b e h=>by
  cases a<;>cases b<;>simp only[gU,reduceCtorEq]at h;split at h<;>cases h) λ_ _ _ _ _=>.int
def z7:oD X (d7 .Pow) qS:=oD.aa7 (dw:=λi j=>.int (i^j.toNat)) my (λa b d h=>by
 cases a<;>cases b<;>simp only[qS,reduceCtorEq]at h;split at h
 .rename_i f;cases h;exact⟨_,_,rfl,rfl,f,rfl⟩
 .cases h) (λa b e h=>by
  cases a<;>cases b<;>simp only[qS,reduceCtorEq]at h;split at h<;>cases h) λ_ _ _ _ _=>.int
def WU:nS X (d7 .Mult) (rI v6 λi j=>.int (i*j)):=opI λ_ _ _ _ _ _ _ a q=>mul_int q (PQ a)
def j5:oD X (d7 .Mult) pR:=oD.aa7 (dw:=λi j=>.int (i*j)) WU (λa b d h=>by
 cases a<;>cases b<;>simp only[pR,reduceCtorEq]at h;split at h
 .rename_i f;cases h;exact⟨_,_,rfl,rfl,f,rfl⟩
 .cases h) (λa b e h=>by
  cases a<;>cases b<;>simp only[pR,reduceCtorEq]at h;split at h<;>cases h) λ_ _ _ _ _=>.int
def YD:nS X (d7 .Add) (λx y H Q=>∃l b Y e,x=.ref l/\y=.ref b/\P4 X.K H l Y/\P4 X.K H b e/\Y.length+e.length<=sizeLine/\∀p,H p=none->Q (.ref p) (upd H p (.lst (Y++e)))):=by
 intro g s σ H x y v u Q I A B h;obtain⟨l,b,Y,e,rfl,rfl,C,E,J,q⟩:=h;cases A;cases B;obtain⟨a,r,p,_⟩:=I.list C;obtain⟨f,i,L,_⟩:=I.list E;obtain⟨⟨N,O,j,T⟩,k,m,n,o⟩:=p.isList;obtain⟨⟨t,U,data2,ue⟩,w,z,n2,d⟩:=L.isList;simp only at m o z d;subst m o z d;have gc:a.toArray.size+f.toArray.size<=sizeLine:=by rw[aAq,aAq,<-r.length,<-i.length];exact J
 have ea:a.toArray++f.toArray=(a++f).toArray:=by simp
 refine aFL ⟨_,k,rfl⟩ ⟨_,w,rfl⟩ noFill_list_add seq_list_add PySem.F.slot_list_add PySem.F.entry_list_add (PySem.F.args_list_add_2 _ _) (list_addW l b a.toArray f.toArray n n2 O U T ue gc) ⟨k,w,?_⟩;rw[ea];exact⟨.ref _,_,I.af8 (t':=s.toks) (r.append i) (by rw[aAC];omega),rfl,q _ I.fresh⟩
def NB:nS X (d7 .Add) (λx y H Q=>∃a b ys,x=.ref a/\y=.ref b/\Z0 X.K H a []/\Z0 X.K H b ys/\Q (.ref b) H):=by intro e s σ H x y v u Q I o p h;obtain⟨t,b,ys,rfl,rfl,r,w,q⟩:=h;cases o;cases p;obtain⟨z,A,B,_⟩:=I.tuple r;obtain⟨U,Y,C,_⟩:=I.tuple w;cases A;obtain⟨⟨E,J,f,L⟩,g,i,n,j⟩:=B;obtain⟨⟨k,N,data2,O⟩,l,m,T,d⟩:=C;simp only at i j m d;subst i j m d;exact aFL ⟨_,g,rfl⟩ ⟨_,l,rfl⟩ aFx seq_tuple_add PySem.F.slot_tuple_add PySem.F.entry_tuple_add (PySem.F.args_tuple_add_2 _ _) (tuple_addW0 t b _ _ n T J N L O (by simp)) ⟨g,l,.ref b,H,I,rfl,q⟩
def l7:oD X (d7 .Add) mJ:=by
 intro H O x y u s Q v n o q;cases u with
 |int i=>
  cases s with
  |int j=>cases n.aa6;cases o.aa6;exact⟨_,kz,i,j,rfl,rfl,q _ H (Same.refl _) .int⟩
  |_=>exact aAh q
 |lst a=>
  cases s with
  |lst b=>
   simp only[mJ]at q;split at q
   .rename_i r;obtain⟨l,L,rfl,f,d⟩:=n.aa5;obtain⟨h,k,rfl,g,e⟩:=o.aa5;exact⟨_,YD,l,h,L,k,rfl,rfl,f,g,by rw[d.length,e.length];exact r,λp m=>q _ _ (l9 m _) (.lst (P4.of j8) (v p m) ((d.append e).same (l9 m _)))⟩
   .exact q.elim
  |_=>exact aAh q
 |tup a=>
  cases s with
  |tup b=>
   cases a with
   |nil=>obtain⟨l,L,rfl,f,d⟩:=n.tupI;obtain⟨h,k,rfl,g,e⟩:=o.tupI;cases d;exact⟨_,NB,l,h,k,rfl,rfl,f,g,q _ H (Same.refl _) (.tup g e)⟩
   |cons x a=>
    cases b with
    |nil=>
     obtain⟨l,L,rfl,f,d⟩:=n.tupI;obtain⟨h,k,rfl,g,e⟩:=o.tupI;cases e;have t:L≠[]:=λz=>by subst z;have:=d.length;simp at this
     simp only[mJ]at q;split at q
     .rename_i r;exact⟨_,HI,l,h,L,[],rfl,rfl,f,g,t,by rw[d.length];exact r,λ_=>q _ H (Same.refl _) (.tup f d),λz=>absurd rfl z⟩
     .exact q.elim
    |cons y b=>
     simp only[mJ]at q;split at q
     .rename_i r;obtain⟨l,L,rfl,f,d⟩:=n.tupI;obtain⟨h,k,rfl,g,e⟩:=o.tupI;have t:L≠[]:=λz=>by subst z;have:=d.length;simp at this
      have w:k≠[]:=λz=>by subst z;have:=e.length;simp at this
      exact⟨_,HI,l,h,L,k,rfl,rfl,f,g,t,by rw[d.length,e.length];exact r,λz=>absurd z w,λ_ p m=>q _ _ (l9 m _) (.tup (Z0.of j8) ((d.append e).same (l9 m _)))⟩
     .exact q.elim
  |_=>cases a<;>exact aAh q
 |_=>exact aAh q
def T0 (x y:D):R D:=match x,y with
 |.lst Y,.int i=>match rP Y i with|some d=>.ok d|none=>.bad
 |.tup Y,.int i=>match rP Y i with|some d=>.ok d|none=>.bad
 |_,_=>.bad
def zB {K:kc}{H:Hp}{O:a5->Prop}{L:List V}{ds:List D}{i:Int}{d:D}(r:Reps K H O L ds)(h:rP ds i=some d):∃v,rP L i=some v/\Rep K H O v d:=by
 unfold rP at h⊢;rw[r.length];cases e:YW ds.length i with
 |none=>rw[e]at h;cases h
 |some j=>rw[e]at h;exact r.get h
def f9 (N:PB X a f)(T:PD X b g)(r:VB b:=by exactλ_ _=>rfl):PD X (.Subscript a b U) (λρ=>(f ρ).bind λx=>(g ρ).bind λy=>T0 x y):=by
 refine sM λj s σ H Q I H9 O0 O ρ E q=>?_;refine Subscript_ (MF N T.pb I (oR E q) λv u t x y k z A B h=>?_);obtain⟨C,dy,fr,J,r2,q⟩:=h;cases dy with
 |int i=>
  cases r2.aa6;cases C with
  |lst Y=>
   simp only[T0]at q;cases e:rP Y i with
   |none=>rw[e]at q;exact q.elim
   |some d=>rw[e]at q;obtain⟨p,L,rfl,l,m⟩:=J.aa5;obtain⟨w,n,o⟩:=zB m e;exact VX a b j t σ k _ _ v u Q z A B ⟨p,L,i,w,rfl,rfl,l,n,q w k (Same.refl _) o⟩ (r _ _)
  |tup Y=>
   simp only[T0]at q;cases e:rP Y i with
   |none=>rw[e]at q;exact q.elim
   |some d=>rw[e]at q;obtain⟨p,L,rfl,l,m⟩:=J.tupI;obtain⟨w,n,o⟩:=zB m e;exact rz a b j t σ k _ _ v u Q z A B ⟨p,L,i,w,rfl,rfl,l,n,q w k (Same.refl _) o⟩ (r _ _)
  |_=>exact aAh q
 |_=>cases C<;>exact aAh q
def cutD (Y:List D)(lo a:Option Int):List D:=(Y.drop<|HT.sIx Y.length 0 lo).take (HT.sIx Y.length Y.length a-HT.sIx Y.length 0 lo)
def vH {K:kc}{H:Hp}{O:a5->Prop}{L:List V}{ds:List D}{lo a:Option Int}(r:Reps K H O L ds):Reps K H O (yS L lo a) (cutD ds lo a):=by unfold yS cutD;rw[r.length];exact(r.drop _).take _
def PTO (X:Cx)(e:Option cf)(f:Ev->R (Option Int)):Prop:=PO X e λσ H Q=>∃b d O ρ,EnvOk X.K b d H O σ ρ/\match f ρ with
 |.ok o=>∀a,Same H a->Q o a
 |.ex e=>∀a,Same H a->XW X e a
 |.bad=>False
def toI:D->R (Option Int)
 |.int i=>.ok (some i)
 |_=>.bad
def X4:PTO X none (λ_=>.ok none):=by rintro a s σ H Q I ⟨b,d,O,ρ,E,q⟩;exact YC a s σ H Q I (q H<|Same.refl _)
def J0 (h:PD X e f):PTO X (some e) (λρ=>(f ρ).bind toI):=by rintro a s σ H Q I ⟨b,g,O,ρ,E,q⟩;exact UI h a s σ H Q I ⟨b,g,O,ρ,E,by
 dsimp only at q;cases e:f ρ with
 |ok d=>
  rw[e]at q;cases d with
  |int i=>exactλv j k l=>by cases l;exact⟨i,rfl,q j k⟩
  |_=>exact aAh q
 |ex x=>rw[e]at q;exact q
 |bad=>rw[e]at q;exact q⟩
def ET (x:D)(lo a:Option Int):R D:=match x with
 |.lst Y=>.ok (.lst (cutD Y lo a))
 |.tup Y=>if HT.sIx Y.length 0 lo=0/\HT.sIx Y.length Y.length a=Y.length then .bad else .ok (.tup (cutD Y lo a))
 |_=>.bad
def kI {lo A:Option cf}{B:Pos}{m n:Ev->R (Option Int)}(C:PB X a f)(J:PTO X lo m)(N:PTO X A n):
  PD X (.Subscript a (.Slice lo A none B) T) (λρ=>(f ρ).bind λx=>(m ρ).bind λl=>(n ρ).bind λh=>ET x l h):=by
 refine sM λi s σ H Q I o t O ρ E q=>?_;have u:∀x d l h g,C5 X.K g O x d->(∀p,g p=none->¬O p)->RC X g O (ET d l h) Q->a0i X.K x l h g Q\/xw X.K x l h g Q:=λx d l h g r U q=>by
  cases d with
  |lst Y=>obtain⟨p,L,rfl,v,k⟩:=r.aa5;exact .inl ⟨p,L,rfl,v,λp b=>q _ _ (l9 b _) (.lst (P4.of j8) (U p b) ((vH k).same (l9 b _)))⟩
  |tup Y=>
   obtain⟨p,L,rfl,v,k⟩:=r.tupI;simp only[ET]at q;split at q
   .exact q.elim
   .rename_i hn;exact .inr ⟨p,L,rfl,v,by rw[k.length];exact hn,λp b=>q _ _ (l9 b _) (.tup (Z0.of j8) ((vH k).same (l9 b _)))⟩
  |_=>exact aAh q
 refine OJ (UH.or iz) C J N i s σ H Q I ⟨o,t,O,ρ,E,?_⟩;dsimp only at q;cases w:f ρ with
 |ok d=>
  rw[w]at q;intro x H1 s1 r1;refine⟨o,t,O,ρ,E.grow s1,?_⟩;rw[R.aa0]at q;cases y:m ρ with
  |ok l=>
   rw[y]at q;intro H2 s2;refine⟨o,t,O,ρ,(E.grow s1).grow s2,?_⟩;cases z:n ρ with
   |ok h=>rw[z]at q;intro j e;have q':RC X H O (ET d l h) Q:=q;exact u x d l h j ((r1.same s2).same e) (λp b=>(((E.grow s1).grow s2).grow e).fresh b) (q'.grow<|s1.trans<|s2.trans e)
   |ex x=>rw[z]at q;exactλj e=>q j (s1.trans<|s2.trans e)
   |bad=>rw[z]at q;exact q
  |ex x=>rw[y]at q;exactλj e=>q j (s1.trans e)
  |bad=>rw[y]at q;exact q
 |ex x=>rw[w]at q;exact q
 |bad=>rw[w]at q;exact q
def LV {K:kc}{H:Hp}{O:a5->Prop}{L:List V}{d:D}(r:Paired (C5 K H O) L [d]):∃v,L=[v]/\C5 K H O v d:=by
 cases r with
 |cons a b=>cases b;exact⟨_,rfl,a⟩
def pr2 {K:kc}{H:Hp}{O:a5->Prop}{L:List V}{d d':D}(r:Paired (C5 K H O) L [d,d']):∃v a,L=[v,a]/\C5 K H O v d/\C5 K H O a d':=by
 cases r with
 |cons b f=>obtain⟨a,e,g⟩:=LV f;subst e;exact⟨_,_,rfl,b,g⟩
def tE:List D->R D
 |[.lst Y]=>.ok (.int Y.length)
 |[.tup Y]=>.ok (.int Y.length)
 |_=>.bad
def aM:eZ X (.builtin "len") tE:=by
 intro H O L e Q f r q;match e,q with
 |[.lst Y],q=>obtain⟨v,rfl,z⟩:=LV r;obtain⟨p,a,rfl,b,d⟩:=z.aa5;exact⟨_,jZ,p,a,rfl,.inl b,q _ H (Same.refl _) (by rw[d.length];exact .int)⟩
 |[.tup Y],q=>obtain⟨v,rfl,z⟩:=LV r;obtain⟨p,a,rfl,b,d⟩:=z.tupI;exact⟨_,jZ,p,a,rfl,.inr b,q _ H (Same.refl _) (by rw[d.length];exact .int)⟩
def a0n:List D->R D
 |[.int i]=>.ok (.int (if i<0 then-i else i))
 |_=>.bad
def SF:eZ X (.builtin "abs") a0n:=by
 intro H O L a Q b r q;match a,q with
 |[.int i],q=>obtain⟨v,rfl,z⟩:=LV r;cases z.aa6;exact⟨_,QG,i,rfl,q _ H (Same.refl _) .int⟩
def kq:List D->R D
 |[.lst Y]=>.ok (.tup Y)
 |[.tup Y]=>.ok (.tup Y)
 |_=>.bad
def a0c:List D->R D
 |[.lst Y]=>.ok (.lst Y)
 |[.tup Y]=>.ok (.lst Y)
 |_=>.bad
def UU:eZ X (.type "list") a0c:=by
 intro H O L g Q f r q;match g,q with
 |[.lst Y],q=>obtain⟨v,rfl,z⟩:=LV r;obtain⟨p,b,rfl,d,e⟩:=z.aa5;exact⟨_,jM,p,b,rfl,.inl d,λl a=>q _ _ (l9 a _) (.lst (P4.of j8) (f l a) (e.same<|l9 a _))⟩
 |[.tup Y],q=>obtain⟨v,rfl,z⟩:=LV r;obtain⟨p,b,rfl,d,e⟩:=z.tupI;exact⟨_,jM,p,b,rfl,.inr d,λl a=>q _ _ (l9 a _) (.lst (P4.of j8) (f l a) (e.same<|l9 a _))⟩
def tyD:D->String
 |.non=> "NoneType"|.bl _=> "bool"|.int _=> "int"|.str _=> "str"|.tup _=> "tuple"|.lst _=> "list"|.dct=> "dict"
def SB (T:String)(d:D):Bool:=tyD d==T||(T== "int"&&tyD d== "bool")
def BF (T:String):Prop:=∀(K:kc) (d:D),PySem.W.kitOne K (.type (tyD d)) (.type T)=some (SB T d)
def XX:BF "int":=λK d=>by cases d<;>with_unfolding_all rfl
def QE:BF "bool":=λK d=>by cases d<;>with_unfolding_all rfl
def NA:BF "list":=λK d=>by cases d<;>with_unfolding_all rfl
def WA {O:a5->Prop}(I:Inv X f σ H s)(m:BF T)(r:C5 X.K H O v d)(g:RelV v u)(q:Q (.bl (SB T d)) H):
  av (a9 X.prog X.w) X.A (call (.builtin "isinstance") [u,.type T]) (EP X f σ Q) X.xe s:=by
 have e:=m X.K d;have b:∀l,EP X f σ Q (.bool (SB T d)) {s with toks:=l}:=λl=>⟨.bl _,H,I.tok _,rfl,q⟩;cases d with
 |non=>cases r.ac1;cases g;exact PySem.W.kia_one PySem.W.kitx_none I.kIn aGw e (λz=>nomatch z) b
 |bl=>cases r.blI;cases g;exact PySem.W.kia_one PySem.W.kitx_bool I.kIn aGw e (λz=>nomatch z) b
 |int=>cases r.aa6;obtain⟨t,rfl⟩:=g;exact PySem.W.kia_one PySem.W.kitx_int I.kIn aGw e (λz=>nomatch z) b
 |str=>cases r.ac6;obtain⟨t,rfl⟩:=g;exact PySem.W.kia_one PySem.W.kitx_str I.kIn aGw e (λz=>nomatch z) b
 |tup Y=>obtain⟨a,L,rfl,h,_⟩:=r.tupI;cases g;obtain⟨i,_,p,_⟩:=I.tuple h;obtain⟨o,j,k,_⟩:=p;exact PySem.W.kia_one PySem.W.kitx_tuple I.kIn ⟨o,j,k⟩ e (λz=>nomatch z) b
 |lst Y=>obtain⟨a,L,rfl,h,_⟩:=r.aa5;cases g;obtain⟨i,_,p,_⟩:=I.list h;obtain⟨o,n,j,k,_⟩:=p;exact PySem.W.kia_one PySem.W.kitx_list I.kIn ⟨o,j,k⟩ e (λz=>nomatch z) b
 |dct=>obtain⟨a,o,rfl,h,x⟩:=r.af7;cases g;exact PySem.W.kia_one PySem.W.kitx_dict I.kIn ⟨o,(I.hok _ _ h).1,x.1⟩ e (λz=>nomatch z) b
def EW (o:BF T)(t:PB X a f)(y:cu x=some (.type T):=by decide+kernel)(z:X.mg "isinstance"=none:=by assumption)(j:X.mg x=none:=by assumption)(A:Gl X "isinstance":=by rfl)(k:Gl X x:=by rfl)(B:(x==kd)=false:=by decide)(C:x≠ "__name__":=by decide)(n:az [a,.Name x pt] X.env=(false,cv a X.env)::az [.Name x pt] X.env:=by rfl)(J:az [Expr.Name x pt] X.env=[(false,cv (.Name x pt) X.env)]:=by rfl)(N:(cp b (az [Expr.Name x pt] X.env)).any (·.1)=false:=by rfl):
  PD X (.Call (.Name "isinstance" p) [a,.Name x pt] [] b) (λρ=>(f ρ).bind λd=>.ok (.bl (SB T d))):=by
 refine sM λg s σ H Q I U Y O ρ E q=>?_;refine aAZ (Q0 (u:=.builtin "isinstance") I A z (by decide+kernel) ?_);have hb:PE X (.Name x pt) (tC<|.ty T):=UN k j y rfl C B;have h:=L8 t (L8 hb cG (by rw[J];rfl)) n b g s σ H (λL i=>∃v d,L=[v,.ty T]/\C5 X.K i O v d/\Q (.bl (SB T d)) i) I ⟨U,Y,O,ρ,E,by refine QS.mono (QS.seq q) λv i l=>?_;obtain⟨d,_,s1,m,h1⟩:=l;exact⟨v,d,rfl,m,h1 _ i (Same.refl _) .bl⟩⟩
 refine aBP (G5 h λus s1 l=>?_) n N;obtain⟨L,i,I1,m,v,d,e,r,h⟩:=l;subst e;obtain⟨u,w,rfl,ru,ym⟩:=vals2 m;cases ym;exact WA I1 o r ru h
end
section
variable{K:kc}
def Kp.lst (k:Kp H O H' d){a:a5}{Y:List V}(n:¬O a)(h:P4 K H a Y)(f:∀o,K.lookup a=some o->¬d a):¬d a/\P4 K H' a Y:=by
 rcases h with(h|⟨o,h⟩)|h
 .exact⟨(k _ _ h n).2,.inl (.inl (k _ _ h n).1)⟩
 .exact⟨(k _ _ h n).2,.inl (.inr ⟨o,(k _ _ h n).1⟩)⟩
 .obtain⟨o,b,m,e,g⟩:=h;exact⟨f o e,.inr ⟨o,b,m,e,g⟩⟩
def Kp.tup (k:Kp H O H' d)(b:∀a,O a->∃o,H a=some o/\Mt o){a:a5}{Y:List V}(h:Z0 K H a Y):Z0 K H' a Y:=by
 rcases h with(h|⟨o,h⟩)|h
 .exact .inl (.inl (k _ _ h λz=>by obtain⟨o,q,m⟩:=b a z;rw[h]at q;cases q;exact m).1)
 .exact .inl (.inr ⟨o,(k _ _ h λz=>by obtain⟨o,q,m⟩:=b a z;rw[h]at q;cases q;exact m).1⟩)
 .exact .inr h
end
def U6 (K:kc)(O:a5->Prop):Prop:=∀a o,K.lookup a=some o->¬O a
def Kp.rep {K:kc}{H H':Hp}{O b:a5->Prop}(k:Kp H O H' b)(e:∀a,O a->∃o,H a=some o/\Mt o)(f:U6 K b){v:V}{d:D}(r:Rep K H O v d):Rep K H' b v d:=
 r.mono (λ_ _ h=>k.tup e h) (λa _ n h=>k.lst n h λo q=>f a o q) λa _ n h=>⟨(k a _ h n).2,(k a _ h n).1⟩
def Kp.ac5 {K:kc}{H H':Hp}{O b:a5->Prop}(k:Kp H O H' b)(e:∀a,O a->∃o,H a=some o/\Mt o)(f:U6 K b){v:List V}{d:List D}(r:Reps K H O v d):Reps K H' b v d:=
 r.mono (λ_ _ h=>k.tup e h) (λa _ n h=>k.lst n h λo q=>f a o q) λa _ n h=>⟨(k a _ h n).2,(k a _ h n).1⟩
inductive Out where
 |nx (ρ:Ev)|rt (d:D)|bk (ρ:Ev)|ct (ρ:Ev)
def RS (X:Cx)(g:Hp)(h:a5->Prop)(H:Hp)(O:a5->Prop)(r:R Out)(D:Ends):Prop:=match r with
 |.ok (.nx ρ)=>∀f a b,EnvOk X.K g h a b f ρ->U6 X.K b->Kp H O a b->D.nx f a
 |.ok (.bk ρ)=>∀f a b,EnvOk X.K g h a b f ρ->U6 X.K b->Kp H O a b->D.bk f a
 |.ok (.ct ρ)=>∀f a b,EnvOk X.K g h a b f ρ->U6 X.K b->Kp H O a b->D.ct f a
 |.ok (.rt d)=>∀v a,Same g a->Rep X.K a h v d->D.rt v a
 |.ex e=>∀a,Same g a->XW X e a
 |.bad=>False
def tS (X:Cx)(a:Hp)(b:a5->Prop)(F:Ev->R Out):TS:=λD σ H=>∃O ρ,EnvOk X.K a b H O σ ρ/\U6 X.K O/\RS X a b H O (F ρ) D
def oG (X:Cx)(st:bM)(F:Ev->R Out):Prop:=∀a b,PS X st (tS X a b F)
def bE (X:Cx)(st:List bM)(F:Ev->R Out):Prop:=∀a b,tL X st (tS X a b F)
def fy {X:Cx}{st:bM}{t t':TS}(h:PS X st t)(i:∀D σ H,t' D σ H->t D σ H):PS X st t':=λa s σ H D I q=>h a s σ H D I (i D σ H q)
def oV {X:Cx}{st:List bM}{t t':TS}(h:tL X st t)(i:∀D σ H,t' D σ H->t D σ H):tL X st t':=λa s σ H D I q=>h a s σ H D I (i D σ H q)
def BY {X:Cx}{st:bM}{t:TS}{F:Ev->R Out}{a:Hp}{b:a5->Prop}(h:PS X st t)(i:∀D σ H O ρ,EnvOk X.K a b H O σ ρ->U6 X.K O->RS X a b H O (F ρ) D->t D σ H):PS X st (tS X a b F):=fy h λD σ H ⟨O,ρ,E,f,q⟩=>i D σ H O ρ E f q
def a0u {X:Cx}{st:List bM}{t:TS}{F:Ev->R Out}{a:Hp}{b:a5->Prop}(h:tL X st t)(i:∀D σ H O ρ,EnvOk X.K a b H O σ ρ->U6 X.K O->RS X a b H O (F ρ) D->t D σ H):tL X st (tS X a b F):=oV h λD σ H ⟨O,ρ,E,f,q⟩=>i D σ H O ρ E f q
def RS.grow {X:Cx}{i:Hp}{j:a5->Prop}{H l:Hp}{O m:a5->Prop}{r:R Out}{D:Ends}(h:RS X i j H O r D)(k:Kp H O l m):RS X i j l m r D:=by
 cases r with
 |ok o=>
  cases o with
  |nx ρ=>exactλa b g E f q=>h a b g E f (k.trans q)
  |bk ρ=>exactλa b g E f q=>h a b g E f (k.trans q)
  |ct ρ=>exactλa b g E f q=>h a b g E f (k.trans q)
  |rt d=>exact h
 |ex e=>exact h
 |bad=>exact h
def D6 (r:R Out)(F:Ev->R Out):R Out:=match r with
 |.ok (.nx ρ)=>F ρ
 |r=>r
section
variable{st:bM} {rest:List bM}
def RS.seq {a:Hp}{b:a5->Prop}{H:Hp}{O:a5->Prop}{r:R Out}{D:Ends}(h:RS X a b H O (D6 r G) D):RS X a b H O r {D with nx:=tS X a b G D}:=by
 cases r with
 |ok o=>
  cases o with
  |nx ρ=>exactλi j g E f k=>⟨g,ρ,E,f,(show RS X a b H O (G ρ) D from h).grow k⟩
  |bk ρ=>exact h
  |ct ρ=>exact h
  |rt d=>exact h
 |ex e=>exact h
 |bad=>exact h
def m6:bE X [] (λρ=>.ok (.nx ρ)):=λa b=>a0u YE λD σ H O ρ E f q=>q σ H O E f (Kp.refl _ _)
def c5 (d:oG X st F)(e:bE X rest G):bE X (st::rest) (λρ=>D6 (F ρ) G):=λa b=>a0u (AS (d a b)<|e a b) λD σ H O ρ E f q=>⟨O,ρ,E,f,RS.seq q⟩
def d6 (a:oG X st F):bE X [st] F:=λb d=>oM (a b d)
def j0 {e:cf}{f:Ev->R D}(g:PD X e f):oG X (.Return (some e) h) (λρ=>(f ρ).bind λd=>.ok (.rt d)):=λi j=>BY (wL g) λD σ H O ρ E k q=>⟨i,j,O,ρ,E,by
 cases a:f ρ with
 |ok d=>rw[a]at q;exactλv b s r=>q v b (E.same.trans s) (r.sub E.sub)
 |ex x=>rw[a]at q;exactλb s=>q b (E.same.trans s)
 |bad=>rw[a]at q;exact q⟩
def i7 (i:Nat){x:Str}{e:cf}{f:Ev->R D}{a:Pos}(j:PD X e f)(k:X.N.Nodup)(l:X.N[i]?=some x:=by rfl)(m:Loc X.env.scope x:=by first|exact aCw rfl|exact aBK rfl)
  (n:dA e (some (.Name x a)) b.line X.env=pure false:=by rfl) (o:X.fn x=true\/X.env.scope.names.lookup x=some .local:=by first|exact .inl rfl|exact .inr rfl|assumption):
  oG X (.Assign [.Name x a] e b) (λρ=>(f ρ).bind λd=>.ok (.nx (ρ.set i (.v d)))):=λp t=>BY (ME k l m j n o) λD σ H O ρ E u q=>⟨p,t,O,ρ,E,by
 cases g:f ρ with
 |ok d=>rw[g]at q;exactλv h s r=>q _ h O ((E.grow s).set i r) u (Kp.of s)
 |ex x=>rw[g]at q;exactλh s=>q h (E.same.trans s)
 |bad=>rw[g]at q;exact q⟩
def v5 {c:cf}{a b:List bM}{d:Ev->R Bool}(j:CA X c d)(k:bE X a F)(l:bE X b G):oG X (.If c a b m) (λρ=>(d ρ).bind λt=>if t=true then F ρ else G ρ):=λe f=>BY (a0g j (k e f)<|l e f) λD σ H O ρ E h q=>⟨e,f,O,ρ,E,by
 cases g:d ρ with
 |ok t=>
  rw[g]at q;intro i s;cases t with
  |true=>rw[jk rfl];exact⟨O,ρ,E.grow s,h,RS.grow q (Kp.of s)⟩
  |false=>rw[ka aBg];exact⟨O,ρ,E.grow s,h,RS.grow q (Kp.of s)⟩
 |ex x=>rw[g]at q;exactλi s=>q i (E.same.trans s)
 |bad=>rw[g]at q;exact q⟩
def ZI (K:kc)(J:It)(H:Hp)(O:a5->Prop)(ds:List D):Prop:=∀b e,Kp H O b e->U6 K e->(∀a,O a->∃o,H a=some o/\Mt o)->(∀a,e a->∃o,b a=some o/\Mt o)->∀i:Nat,
 (∀d,ds[i]?=some d->J.go i b/\∀x f,J.yld i b x f->Same b f/\Rep K f e x d)/\(ds[i]?=none->J.stop i b)
def tI (X:Cx)(f:Ev->R (List D)):TI:=λσ H R=>∃b d O ρ,EnvOk X.K b d H O σ ρ/\U6 X.K O/\match f ρ with
 |.ok g=>∀J a,Same H a->ZI X.K J a O g->R J a
 |.ex e=>∀a,Same H a->XW X e a
 |.bad=>False
def XV (X:Cx)(a iter:cf)(f:Ev->R (List D)):Prop:=PI X a iter (tI X f)
def EF (h:PI X b iter t)(i:∀σ H R,t' σ H R->t σ H R):PI X b iter t':=λa s σ H R I q=>h a s σ H R I (i σ H R q)
def kD:D->R (List D)
 |.lst Y=>.ok Y
 |_=>.bad
def GJ:D->R (List D)
 |.tup Y=>.ok Y
 |_=>.bad
def t4 (h:PD X iter f):XV X B iter (λρ=>(f ρ).bind kD):=EF (WF h) λσ H R ⟨l,m,O,ρ,E,C,q⟩=>⟨l,m,O,ρ,E,by
 dsimp only at q;cases e:f ρ with
 |ok d=>
  rw[e]at q;cases d with
  |lst Y=>
   intro v p s r;cases r with
   |lst h n r=>
    rename_i a L;refine⟨a,rfl,⟨L,h⟩,q (Itl X.K a) p s ?_⟩;intro I J k g t u i;obtain⟨N,b⟩:=k.lst n h λo q=>g a o q;have w:=k.ac5 t g r;refine⟨λd e=>?_,λe=>⟨L,b,by rw[r.length];exact aCt.mp e⟩⟩;obtain⟨v,j,y⟩:=w.get e;exact⟨⟨L,v,b,j⟩,by rintro x Q ⟨z,A⟩;subst z;have:=A L b;rw[j]at this;cases this;exact⟨Same.refl _,y⟩⟩
  |_=>exact aAh q
 |ex x=>rw[e]at q;exact q
 |bad=>rw[e]at q;exact q⟩
def IL (h:PD X iter f):XV X z iter (λρ=>(f ρ).bind GJ):=EF (ay h) λσ H R ⟨l,m,O,ρ,E,A,q⟩=>⟨l,m,O,ρ,E,by
 dsimp only at q;cases e:f ρ with
 |ok d=>
  rw[e]at q;cases d with
  |tup Y=>
   intro v n s r;cases r with
   |tup h r=>
    rename_i a L;refine⟨a,rfl,⟨L,h⟩,q (Itt X.K a) n s ?_⟩;intro B C k o g p i;have b:=k.tup g h;have t:=k.ac5 g o r;refine⟨λd e=>?_,λe=>⟨L,b,by rw[r.length];exact aCt.mp e⟩⟩;obtain⟨v,j,u⟩:=t.get e;exact⟨⟨L,v,b,j⟩,by rintro x I ⟨w,y⟩;subst w;have:=y L b;rw[j]at this;cases this;exact⟨Same.refl _,u⟩⟩
  |_=>exact aAh q
 |ex x=>rw[e]at q;exact q
 |bad=>rw[e]at q;exact q⟩
def iw (lo c:Int)(n:Nat):It:=⟨λi _=>i<n,λi H x a=>a=H/\x=.int (lo+i*c),λi _=>n<=i⟩
def AR {P:ba}{w:be}{K:kc}{J:cf}(it:a5)(lo c:Int)(n:Nat):Turn P w K J (iw lo c n) [it] it (λi h=>IsRangeIter h it (lo+(i:Nat)*c) ((n:Int)-(i:Nat)) c)where
 mem:=by simp
 obj:=λi h st b d=>by
  have e:b=it:=by simpa using d
  subst e;exact⟨_,st,λv z=>by have L:Data.fields _=Data.cell v:=z;cases L⟩
 keep:=λi h g st k=>k it (by simp) _ st
 item:=by intro X l m p q i a s σ H E I j st r;subst l m p;obtain⟨u,x,N,y,A,B⟩:=j it (by simp);have W:=Walks.range (prog:=X.prog) (w:=X.w) (I.ok.hd q) it lo c n;refine W.item i s _ _ r st λv g C O f kk=>?_;obtain⟨t,rfl⟩:=O;have Q:Inv X a σ H {s with heap:=g,toks:=C}:=I.turned (λb o d e=>kk b o (by simpa using d) e) u x y A B;exact⟨_,rfl,RA (s:={s with heap:=g,toks:=C}) (n:= "range_iterator") f rfl rfl (by decide) ⟨.int (lo+i*c),H,Q,⟨t,rfl⟩,⟨rfl,rfl⟩,f,λb d=>(j b d).1⟩⟩
 done:=by intro X l m p q i a s σ H E I j st r;subst l m p;obtain⟨u,x,N,y,A,B⟩:=j it (by simp);exact wpAny_pyNext_range_end (I.ok.hd q) st (by have:n<=i:=r;lia) λg T=>⟨rfl,I.turned (t':=s.toks) (λb o d e=>T b o d e) u x y A B⟩
 self:=λ_ _ _ _ _ st h=>wpAny_pyIter_rangeiter st h
def wE (lo c:Int)(n:Nat):List D:=(aAQ n).map λ(k:Nat)=>D.int (lo+(k:Int)*c)
def kU (K:kc)(H:Hp)(O:a5->Prop)(lo c:Int)(n:Nat):ZI K (iw lo c n) H O (wE lo c n):=by
 intro h j k l m b i;unfold wE;rw[aAE];by_cases a:i<n
 .rw[List.getElem?_range a];refine⟨λd e=>?_,λe=>(by cases e)⟩;cases e;exact⟨a,by rintro x o ⟨f,g⟩;subst f g;exact⟨Same.refl _,.int⟩⟩
 .rw[aCt.mpr (by simpa using a)];exact⟨λd e=>(by cases e),λ_=>aEw a⟩
def iV (a b c:Int):Nat:=if a<b then((b-a-1)/c+1).toNat else 0
def KE (d:0<c):aCG a b c=(iV a b c:Int):=by
 unfold aCG iV;rw[jk (by lia)];split
 .have:0<=(b-a-1)/c:=Int.ediv_nonneg (by lia) (by lia)
  lia
 .rfl
def KY (j:0<c)(k:c<2^30)(l:-(2^60)<=a)(i:a<2^60)(m:-(2^60)<=b)(n:b<2^60):aGj a b c=true:=by
 unfold aGj;have e:aCG a b c=if a<b then(b-a-1)/c+1 else 0:=by unfold aCG;rw[jk (by lia)]
 rw[e];have d:a<b->(b-a-1)/c<=b-a-1:=λh=>Int.ediv_le_self _ (by lia);have f:a<b->0<=(b-a-1)/c:=λh=>Int.ediv_nonneg (by lia) (by lia);have g:a<b->(b-a-1)/c*c<=b-a-1:=λh=>Int.ediv_mul_le _ (by lia);simp only[Builtin.Range.rangeFitsLong,aAO,Bool.or_eq_true,decide_eq_true_eq,beq_iff_eq,show c>0 by lia,if_true];split
 .rename_i h;have d:=d h;have f:=f h;have g:=g h;generalize(b-a-1)/c=q at*
  lia
 .lia
def qT (a b c:Int):Prop:=0<c/\c<2^30/\-(2^60)<=a/\a<2^60/\-(2^60)<=b/\b<2^60
instance(a b c:Int):Decidable (qT a b c):=inferInstanceAs (Decidable<|_/\_)
def fZ:List D->R (List D)
 |[.int b]=>if qT 0 b 1 then .ok (wE 0 1 (iV 0 b 1))else .bad
 |[.int a,.int b]=>if qT a b 1 then .ok (wE a 1 (iV a b 1))else .bad
 |[.int a,.int b,.int c]=>if qT a b c then .ok (wE a c (iV a b c))else .bad
 |_=>.bad
def mL {R:It->Hp->Prop}{E:E8}(I:Inv X d σ H s)(h:qT a b c)(q:R (iw a c (iV a b c)) H):av (a9 X.prog X.w) X.A (pyIter (.ref s.heap.objs.size)) (PIE X d σ y R) E {s with heap:=s.heap.push {cls:=.type "range",data:=.fields #[.int a t,.int b u,.int c v]},toks:=tk}:=by
 obtain⟨g,i,j,k,l,m⟩:=h;refine wpAny_pyIter_range (IsRange.new ..) (KY g i j k l m) ?_;have f:Inv X d σ H {s with heap:=s.heap.push {cls:=.type "range",data:=.fields #[.int a t,.int b u,.int c v]},toks:=tk}:=I.kept λb o e=>aAc _ e;refine⟨(s.heap.push {cls:=.type "range",data:=.fields #[.int a t,.int b u,.int c v]}).objs.size,[(s.heap.push {cls:=.type "range",data:=.fields #[.int a t,.int b u,.int c v]}).objs.size],_,_,H,rfl,
  f.kept (t':=tk) λb o e=>aAc _ e,AR _ a c (iV a b c),?_,λn p=>?_,q⟩
 .have r:a+((0:Nat):Int)*c=a:=by simp
  have x:((iV a b c:Nat):Int)-((0:Nat):Int)=aCG a b c:=by rw[KE g];simp
  show IsRangeIter _ _ (a+((0:Nat):Int)*c) (((iV a b c:Nat):Int)-((0:Nat):Int)) c;rw[r,x];exact aAp _ rfl
 .have e:n=(s.heap.push {cls:=.type "range",data:=.fields #[.int a t,.int b u,.int c v]}).objs.size:=by simpa using p
  subst e;exact f.af3 (aAj _) (f.hok.fresh<|aAj _)
def TQ {R:It->Hp->Prop}{O:a5->Prop}(I:Inv X e σ H s)(r:Paired (C5 X.K H O) L ds)(f:p9 L i)(h:fZ ds=.ok j)(q:∀J,ZI X.K J H O j->R J H):av (a9 X.prog X.w) X.A (call (.type "range") i) (λv k=>av (a9 X.prog X.w) X.A (pyIter v) (PIE X e σ y R) X.xe k) X.xe s:=by
 match ds,h with
 |[.int b],h=>
  obtain⟨v,rfl,z⟩:=LV r;cases z.aa6;obtain⟨u,rfl,t,rfl⟩:=vals1 f;simp only[fZ]at h;split at h
  .rename_i d;cases h;exact call_range_1 (mL I d<|q _<|kU _ _ _ _ _ _)
  .cases h
 |[.int a,.int b],h=>
  obtain⟨v,l,rfl,z,g⟩:=pr2 r;cases z.aa6;cases g.aa6;obtain⟨u,m,rfl,⟨t,rfl⟩,⟨n,rfl⟩⟩:=vals2 f;simp only[fZ]at h;split at h
  .rename_i d;cases h;exact call_range_2 (mL I d<|q _<|kU _ _ _ _ _ _)
  .cases h
 |[.int a,.int b,.int c],h=>
  cases r with
  |cons o r=>
   obtain⟨v,l,rfl,z,g⟩:=pr2 r;cases o.aa6;cases z.aa6;cases g.aa6;cases f with
   |cons p f=>
    obtain⟨u,m,rfl,⟨t,rfl⟩,⟨n,rfl⟩⟩:=vals2 f;obtain⟨B,rfl⟩:=p;simp only[fZ]at h;split at h
    .rename_i d;cases h;have x:=d;obtain⟨C,E,_⟩:=x;exact call_range_3 (by lia) (mL (tk:=s.toks) I d<|q _<|kU _ _ _ _ _ _) (.inl (PyProof.noPylong_small (by lia)))
    .cases h
def Q7 {o e:cf}{es:List cf}{p:Pos}{f:Ev->R (List D)}(t:qy X (e::es) f)(u:Gl X "range":=by rfl)(v:X.mg "range"=none:=by assumption)
  (w:az (e::es) X.env=(false,cv e X.env)::az es X.env:=by rfl) (y:(cp i (az es X.env)).any (·.1)=false:=by rfl):
  XV X o (.Call (.Name "range" p) (e::es) [] i) (λρ=>(f ρ).bind fZ):=by
 rintro j s σ H Q I ⟨z,A,O,ρ,E,Y,q⟩;dsimp only at q;refine Call_ (Q0 I u v boot_range<|aBy (G5 (t i j s σ H (λL g=>∃h k,Same H g/\Paired (C5 X.K g O) L h/\fZ h=.ok k/\∀J,ZI X.K J g O k->Q J g) I ⟨z,A,O,ρ,E,?_⟩) λus l B=>?_) w y)
 .cases m:f ρ with
  |ok h=>
   rw[m]at q;intro L g l n;rw[R.aa0]at q;cases d:fZ h with
   |ok k=>rw[d]at q;exact⟨h,k,l,n,d,λJ C=>q J g l C⟩
   |ex x=>
    rw[d]at q;match h,d with
    |[.int b],d=>simp only[fZ]at d;split at d<;>cases d
    |[.int a,.int b],d=>simp only[fZ]at d;split at d<;>cases d
    |[.int a,.int b,.int c],d=>simp only[fZ]at d;split at d<;>cases d
   |bad=>rw[d]at q;exact q.elim
  |ex x=>rw[m]at q;exact q
  |bad=>rw[m]at q;exact q
 .obtain⟨L,g,N,n,h,k,sm,r,T,U⟩:=B;exact TQ N r n T U
def tG (X:Cx)(G:D->Ev->R Ev):TG:=λv σ H Q=>∃e f O ρ d a,EnvOk X.K e f H O σ ρ/\Rep X.K H O v d/\G d ρ=.ok a/\∀g b,Same H b->EnvOk X.K e f b O g a->Q g b
def IU (X:Cx)(a:cf)(G:D->Ev->R Ev):Prop:=PG X a (tG X G)
def gw (h:PG X b t)(i:∀v σ H Q,t' v σ H Q->t v σ H Q):PG X b t':=λa s σ H v u Q I r q=>h a s σ H v u Q I r (i v σ H Q q)
def n4 (i:Nat)(a:X.N.Nodup)(b:X.N[i]?=some x:=by rfl)(f:Loc X.env.scope x:=by first|exact aCw rfl|exact aBK rfl)(g:X.fn x=true\/X.env.scope.names.lookup x=some .local:=by first|exact .inl rfl|exact .inr rfl|assumption):
  IU X (.Name x h) (λd ρ=>.ok (ρ.set i (.v d))):=gw (XN a b f g)<|by
 rintro v σ H Q ⟨k,l,O,ρ,d,j,E,r,e,q⟩;cases e;exact q _ H (Same.refl _) (E.set i r)
def tGs (X:Cx)(G:List D->Ev->R Ev):fq:=λL σ H Q=>∃d e O ρ f a,EnvOk X.K d e H O σ ρ/\Reps X.K H O L f/\G f ρ=.ok a/\∀g b,Same H b->EnvOk X.K d e b O g a->Q g b
def XF (X:Cx)(a:List cf)(G:List D->Ev->R Ev):Prop:=xj X a (tGs X G)
def GF {b:List cf}{t t':fq}(h:xj X b t)(i:∀v σ H Q,t' v σ H Q->t v σ H Q):xj X b t':=λa s σ H v u Q I r q=>h a s σ H v u Q I r (i v σ H Q q)
def nJ:List D->Ev->R Ev
 |[],ρ=>.ok ρ
 |_,_=>.bad
def T8 (G:D->Ev->R Ev)(b:List D->Ev->R Ev):List D->Ev->R Ev
 |d::e,ρ=>(G d ρ).bind λa=>b e a
 |_,_=>.bad
def dF:XF X [] nJ:=GF VV<|by
 rintro L σ H Q ⟨b,d,O,ρ,f,a,E,r,e,q⟩;cases r with
 |nil=>cases e;exact⟨rfl,q σ H (Same.refl _) E⟩
 |cons _ _=>cases e
def B5 {e:cf}{es:List cf}{G:D->Ev->R Ev}{g:List D->Ev->R Ev}(l:IU X e G)(m:XF X es g)
  (n:(d3 (e::es) X.env).map (·.2)=gB e X.env::(d3 es X.env).map (·.2):=by rfl):XF X (e::es) (T8 G g):=GF (TU l m n)<|by
 rintro L σ H Q ⟨h,i,O,ρ,j,f,E,r,e,q⟩;cases r with
 |nil=>cases e
 |@cons v d L j r o=>
  simp only[T8]at e;cases b:G d ρ with
  |ok a=>rw[b]at e;exact⟨v,L,rfl,h,i,O,ρ,d,a,E,r,b,λp z k s=>⟨h,i,O,a,j,f,s,o.same k,e,λt u w y=>q t u (k.trans w) y⟩⟩
  |ex x=>rw[b]at e;cases e
  |bad=>rw[b]at e;cases e
def gG (n:Nat)(b:List D->Ev->R Ev):D->Ev->R Ev
 |.tup a,ρ=>if a.length=n then b a ρ else .bad
 |.lst a,ρ=>if a.length=n then b a ρ else .bad
 |_,_=>.bad
end
section
theorem uQ (f:t≠it):∀(n i:Nat) (s:aA) (Q:List ao->aA->Prop),s.heap.IsListIter it t i->s.heap.IsList t items->i+n<=items.size->
  (∀h',h'.IsListIter it t (i+n)->Heap.SameBut it s.heap h'->Q ((items.toList.drop i).take n) {s with heap:=h'})->av (a9 prog w) A (draw (.ref it) n) Q E s
 |0,i,s,Q,a,_,_,e=>by show av _ _ (pure []) Q E s;exact aAb (by simpa using e s.heap a (aGx ..))
 |n+1,i,s,Q,a,g,l,e=>by
  have h:i<items.size:=by omega
  show av _ _ (ff (.ref it)>>=_) Q E s;refine aAa (wpAny_pyNext_list_item a g (x:=items[i]) (by simp[h]) λj b k=>?_);refine aAa (aAN (uQ f n (i+1) _ _ b (g.extBut k.extBut f) (by omega) λm d o=>aAb ?_));have p:items.toList.drop i=items[i]::items.toList.drop (i+1):=by simp[aDL,h]
  have:=e m (by rw[show i+(n+1)=i+1+n by omega];exact d) (k.trans o);rw[p,List.take_succ_cons]at this;exact this
def kW {Q:List ao->aA->Prop}(n:A.handled=none)(g:s.heap.IsList t items)(p:∀h',Heap.ExtBut s.heap.objs.size s.heap h'->Q items.toList {s with heap:=h'}):av (a9 prog w) A (unpackItems (.ref t) items.size none) Q E s:=by
 have k:t≠s.heap.objs.size:=by obtain⟨o,h,_⟩:=g;exact aAl (aAf h)
 unfold unpackItems;refine aAa ?_
 .unfold notIterableAtAll;refine aAa (aBD g.typeIs slot_list_iter.lookup ?_);refine aAb ?_;simp only[aAt,if_false];refine aAa (aAN<|aDE g ?_);have a:(s.heap.push {cls:=.type "list_iterator",data:=.fields #[.ref t,.int 0 0]}).IsList t items:=by obtain⟨o,h,r⟩:=g;exact⟨o,aAc _ h,r⟩
  refine aAa (aAN (uQ k items.size 0 _ _ ⟨_,aAp _ rfl,rfl,rfl⟩ a (by omega) λd f l=>?_));have q:List.take items.size (List.drop 0 items.toList)=items.toList:=by rw[aGa];exact aDn (by simp)
  rw[q];rw[ka (by simp)];have i:d.IsList t items:=a.extBut l.extBut k;refine aAa (aAN (wpAny_pyNext_list_end n f i (by simp) λu j=>?_));simp only[Option.isSome_none,aAt,if_false];refine aAb (p u λb o m e=>j b o m (l.extBut b o m<|aAc _ e))
def jL {d}{Q:Unit->aA->Prop}(e:A.handled=none)(f:s.heap.IsList t items)(g:(d3 a env).length=items.size)(b:(d3 a env).findIdx? (·.1)=none)(h:∀h',Heap.ExtBut s.heap.objs.size s.heap h'->av (a9 prog w) A (assignInOrder ((d3 a env).map (·.2)) items.toList) Q E {s with heap:=h'}):
  av (a9 prog w) A (gB (.Tuple a d i) env (.ref t)) Q E s:=by
 rw[assign_Tuple];refine aAa (aEC ?_);unfold unpack;rw[g,b];exact aAa (aAN<|kW e f h)
end
section
def kE (A:X.calm=true)(h:XF X es T)(B:(d3 es X.env).length=n:=by rfl)(C:(d3 es X.env).findIdx? (·.1)=none:=by rfl):IU X (.Tuple es k U) (gG n T):=by
 rintro f s σ H v u Q I r ⟨J,N,O,ρ,d,g,E,Y,e,q⟩;cases Y with
 |@tup a L l m i=>
  cases r;simp only[gG]at e;split at e
  .rename_i p;obtain⟨t,j,w,hz⟩:=I.tuple m;refine assign_Tuple_tuple (I.ok.hd A) w (by simp[B,<-p,<-i.length,j.length]) C λx y=>?_;have z:Inv X f σ H {s with heap:=x}:=I.kept (t':=s.toks) λb o e=>y b o (aAl<|aAf e) e;exact h f _ σ H L _ Q z (by simpa using j) ⟨J,N,O,ρ,l,g,E,i,e,q⟩
  .cases e
 |@lst a L l m _ i=>
  cases r;simp only[gG]at e;split at e
  .rename_i p;obtain⟨t,j,w,hz⟩:=I.list m;refine jL (I.ok.hd A) w.isList (by simp[B,<-p,<-i.length,j.length]) C λx y=>?_;have z:Inv X f σ H {s with heap:=x}:=I.kept (t':=s.toks) λb o e=>y b o (aAl<|aAf e) e;exact h f _ σ H L _ Q z (by simpa using j) ⟨J,N,O,ρ,l,g,E,i,e,q⟩
  .cases e
 |_=>cases e
def LB (f:Ev->R D)(G:D->Ev->R Ev):Ev->R Out:=λρ=>(f ρ).bind λd=>match G d ρ with
 |.ok a=>.ok (.nx a)
 |_=>.bad
def IH (m:PD X e f)(n:IU X a G)(o:h9 [a] e g.line X.env=pure false:=by rfl)(p:ia [a] e X.env=pure none:=by rfl)(t:(d3 [a] X.env).map (·.2)=[gB a X.env]:=by rfl):oG X (.Assign [a] e g) (LB f G):=λj k=>BY (MC m n o p t) λD σ H O ρ E u q=>⟨j,k,O,ρ,E,by
 unfold LB at q;cases h:f ρ with
 |ok d=>
  rw[h,R.aa0]at q;intro v l s r;cases b:G d ρ with
  |ok i=>rw[b]at q;exact⟨j,k,O,ρ,d,i,E.grow s,r,b,λw y z A=>q w y O A u (Kp.of<|s.trans z)⟩
  |ex x=>rw[b]at q;exact aAh q
  |bad=>rw[b]at q;exact aAh q
 |ex x=>rw[h]at q;exactλl s=>q l (E.same.trans s)
 |bad=>rw[h]at q;exact q⟩
def BM (i j:Nat){e g BX}(o:X.calm=true)(p:X.N.Nodup)(t:IV X [a,b] f)(u:X.N[i]?=some x:=by rfl)(w:X.N[j]?=some y:=by rfl)(z:i≠j:=by decide)(A:X.env.scope.names.lookup x=some .local:=by rfl)(B:X.env.scope.names.lookup y=some .local:=by rfl)(C:ia [.Tuple [.Name x m,.Name y n] e pt] (.Tuple [a,b] g BX) X.env=pure (some [x,y]):=by rfl)(I:h9 [.Tuple [.Name x m,.Name y n] e pt] (.Tuple [a,b] g BX) h.line X.env=pure false:=by rfl):
  oG X (.Assign [.Tuple [.Name x m,.Name y n] e pt] (.Tuple [a,b] g BX) h) (λρ=>(f ρ).bind λds=>match ds with
   |[d,d']=>.ok (.nx ((ρ.set i (.v d)).set j (.v d')))
   |_=>.bad):=λJ Q=>BY (ZU o p u w z A B t C I) λD σ H O ρ E T q=>⟨J,Q,O,ρ,E,by
 cases k:f ρ with
 |ok ds=>
  rw[k,R.aa0]at q;intro L l s r;cases r with
  |nil=>exact aAh q
  |cons U r=>
   cases r with
   |nil=>exact aAh q
   |cons Y r=>
    cases r with
    |nil=>exact⟨_,_,rfl,q _ l O (((E.grow s).set i U).set j Y) T (Kp.of s)⟩
    |cons _ _=>exact aAh q
 |ex x=>rw[k]at q;exactλl s=>q l (E.same.trans s)
 |bad=>rw[k]at q;exact q⟩
def Q6 (G:D->Ev->R Ev)(F:Ev->R Out):List D->Ev->R Out
 |[],ρ=>.ok (.nx ρ)
 |d::e,ρ=>match G d ρ with
  |.ok b=>match F b with
   |.ok (.nx a)=>Q6 G F e a
   |.ok (.ct a)=>Q6 G F e a
   |.ok (.bk a)=>.ok (.nx a)
   |r=>r
  |_=>.bad
def G9 (hp:PassesOwn (a9 X.prog X.w) X.A X.env X.xe)(hc:X.calm=true)(hi:XV X tg iter f)(hg:IU X tg G)(hb:bE X body F)(hs:∀x,dC iter X.env x=pure x:=by intro _;rfl):oG X (.For tg iter body [] pos) (λρ=>(f ρ).bind λds=>Q6 G F ds ρ):=λk l=>BY (lz hp hc hi hg (hb k l) hs) λD σ H O ρ E fk q=>⟨k,l,O,ρ,E,fk,by
 cases Q:f ρ with
 |ex x=>rw[Q]at q;exactλj s=>q j (E.same.trans s)
 |bad=>rw[Q]at q;exact q
 |ok ds=>
  rw[Q,R.aa0]at q;intro J H1 T hJ;refine⟨λi m U j=>m=ds.length-i/\i<=ds.length/\∃g h,EnvOk X.K k l j g U h/\U6 X.K g/\Kp H1 O j g/\RS X k l j g (Q6 G F (ds.drop i) h) D,⟨ds.length,by simp,aAM _,O,ρ,E.grow T,fk,Kp.refl _ _,?_⟩,?_⟩
  .rw[aGa];exact q.grow (Kp.of T)
  .rintro i m U j ⟨rfl,hi,g,h,Y,n,k',a⟩;have z:=hJ j g k' n (E.grow T).trk Y.trk i;by_cases ai:i<ds.length
   .obtain⟨go,yl⟩:=z.1 ds[i] (aAg ai);refine .inr ⟨go,λvc v=>∃L b,EnvOk X.K k l v L vc b/\U6 X.K L/\Kp H1 O v L/\RS X k l v L (Q6 G F (ds.drop<|i+1) b) D,λvc v p=>⟨ds.length-(i+1),by omega,rfl,ai,p⟩,λx v y=>?_⟩;obtain⟨s2,r2⟩:=yl x v y;rw[aDL ai,Q6]at a;cases N:G ds[i] h with
    |ex x=>rw[N]at a;exact(show False from a).elim
    |bad=>rw[N]at a;exact(show False from a).elim
    |ok r=>
     rw[N]at a;dsimp only at a;refine⟨k,l,g,h,ds[i],r,Y.grow s2,r2,N,λqd H3 s3 E3=>⟨g,r,E3,n,?_⟩⟩;have kk:Kp j g H3 g:=Kp.of (s2.trans s3);cases e3:F r with
     |ex x=>rw[e3]at a;exact a
     |bad=>rw[e3]at a;exact a
     |ok o=>
      rw[e3]at a;cases o with
      |nx b=>exactλt H4 B C I u=>⟨B,b,C,I,k'.trans (kk.trans u),RS.grow a (kk.trans u)⟩
      |ct b=>exactλt H4 B C I u=>⟨B,b,C,I,k'.trans (kk.trans u),RS.grow a (kk.trans u)⟩
      |bk b=>exactλt H4 B C I u=>a t H4 B C I (kk.trans u)
      |rt d=>exact a
   .have e:i=ds.length:=by omega
    subst e;rw[List.drop_length,Q6]at a;exact .inl ⟨z.2 (by simp),a U j g Y n (Kp.refl _ _)⟩⟩
def S9 (c:Ev->R Bool)(F:Ev->R Out):Nat->Ev->R Out
 |0,_=>.bad
 |n+1,ρ=>(c ρ).bind λb=>if b=true then(match F ρ with
  |.ok (.nx a)=>S9 c F n a
  |.ok (.ct a)=>S9 c F n a
  |.ok (.bk a)=>.ok (.nx a)
  |r=>r)else .ok (.nx ρ)
def fM (n:Ev->Nat)(Y:PassesOwn (a9 X.prog X.w) X.A X.env X.xe)(hc:CA X c y)(hb:bE X body F):oG X (.While c body [] pos) (λρ=>S9 y F (n ρ) ρ):=λi j=>BY (SA Y hc<|hb i j) λD σ H O ρ E fk q=>by
 refine⟨λm I z=>∃f e,EnvOk X.K i j z f I e/\U6 X.K f/\RS X i j z f (S9 y F m e) D,⟨n ρ,O,ρ,E,fk,q⟩,?_⟩;rintro m I z ⟨f,e,B,l,a⟩;cases m with
 |zero=>exact(show False from a).elim
 |succ m=>
  rw[S9]at a;refine⟨i,j,f,e,B,?_⟩;cases J:y e with
  |ex x=>rw[J]at a;exactλC k=>a C (B.same.trans k)
  |bad=>rw[J]at a;exact a
  |ok b=>
   rw[J,R.aa0]at a;intro C k;cases b with
   |false=>rw[ka aBg]at a⊢;exact a I C f (B.grow k) l (Kp.of k)
   |true=>
    rw[jk rfl]at a⊢;refine⟨λU L=>∃N r,EnvOk X.K i j L N U r/\U6 X.K N/\RS X i j L N (S9 y F m r) D,λU L p=>⟨m,aDh m,p⟩,f,e,B.grow k,l,?_⟩;have kk:Kp z f C f:=Kp.of k;cases Q:F e with
    |ex x=>rw[Q]at a;exact a
    |bad=>rw[Q]at a;exact a
    |ok o=>
     rw[Q]at a;cases o with
     |nx g=>exactλh T s t u v=>⟨s,g,t,u,RS.grow a (kk.trans v)⟩
     |ct g=>exactλh T s t u v=>⟨s,g,t,u,RS.grow a (kk.trans v)⟩
     |bk g=>exactλh T s t u v=>a h T s t u (kk.trans v)
     |rt d=>exact a
end
def vq (K:kc)(n:Nat)(m:List D->R D):Sp:=λL H Q _=>∃O b d,Reps K H O L b/\b.length=n/\(∀a,O a->∃o,H a=some o/\Mt o)/\Tb H/\U6 K O/\m b=.ok d/\∀v e,Same H e->Rep K e O v d->Q v e
def j6 (N:List Str)(ds:List D):Ev:=ds.map Sl.v++aCT (N.length-ds.length) Sl.no
def R1:R Out->R D
 |.ok (.rt d)=>.ok d
 |.ok (.nx _)=>.ok .non
 |.ex e=>.ex e
 |_=>.bad
def fJ {K:kc}{H:Hp}{O:a5->Prop}{N:List Str}{L:List V}{ds:List D}(r:Reps K H O L ds)(t:∀a,O a->∃o,H a=some o/\Mt o)(tb:Tb H):EnvOk K H O H O (start N L) (j6 N ds)where
 len:=by simp[L2.start,j6,r.length]
 same:=Same.refl H
 sub:=λ_ h=>h
 trk:=t
 trk0:=λa h=>let⟨o,q,_⟩:=t a h;⟨o,q⟩
 tab:=tb
 slot:=λi g h=>by
  unfold j6 at h;unfold L2.start;by_cases b:i<ds.length
  .rw[aAS (by simpa using b),aAE]at h;cases e:ds[i]? with
   |none=>rw[e]at h;cases h
   |some d=>rw[e]at h;have f:Sl.v d=g:=aAm h;subst f;obtain⟨v,k,l⟩:=r.get e;exact⟨v,by rw[aAS (by rw[aAi,r.length];exact b),aAE,k];rfl,l⟩
  .rw[aAA (by simpa using b),aBC]at h;split at h
   .cases h;trivial
   .cases h
 inj:=λi j x y a h _ o=>by
  unfold j6 at h;by_cases b:i<ds.length
  .rw[aAS (by simpa using b),aAE]at h;cases e:ds[i]? with
   |none=>rw[e]at h;cases h
   |some d=>rw[e]at h;have f:Sl.v d=x:=aAm h;subst f;exact o.elim
  .rw[aAA (by simpa using b),aBC]at h;split at h
   .cases h;exact o.elim
   .cases h
section
variable{K:kc}
abbrev LZ (P:ba)(w:be)(K:kc)(mg:cV)(base:bt)(N:List Str)(qual:Str)(sc:iu)(f:a5)(T:ao)(A:bc)(a:List Env)(s:aA)(H:Hp)(E:XK):Cx:=(DA sG P w K mg base N qual sc f T A a s H E).nox
def fnD {x qual:Str}{st:bM}{f:a5}{fd:dq}{N ps:List Str}{k:Nat}{m:List D->R D}{F:Ev->R Out}(j:Fun K x qual st f fd)(S:FnScope N ps (c6 st))
  (l:∀(T:ao) (A:bc) (a:List Env) (s:aA) (H:Hp) (E:XK),Room k (A.deeper (envOfC qual (c6 st) s.heap.objs.size f T))->bE (LZ P w K mg base N qual (c6 st) f T A a s H E) (t0 st) F)
  (n:∀ds d,ds.length=ps.length->m ds=.ok d->R1 (F (j6 N ds))=.ok d):FnOk P w K mg base sG (k+1) f fd ps (vq K ps.length m):=by
 refine j.ok S (by rintro L H Q E ⟨O,ds,d,r,g,_⟩;rw[r.length];exact g) (λT A a s H L Q E p t=>?_);obtain⟨O,ds,d,r,g,u,v,y,e,q⟩:=t;refine⟨_,l T A a s H E p H O,O,_,fJ r u v,y,?_⟩;have h:=n ds d g e;cases i:F (j6 N ds)with
 |ok o=>
  rw[i]at h;cases o with
  |rt z=>have b:R.ok z=R.ok d:=h;injection b with b;subst b;exact q
  |nx ρ=>have b:R.ok D.non=R.ok d:=h;injection b with b;subst b;exactλI B J C _ _=>q .non B C.same .non
  |bk ρ=>cases h
  |ct ρ=>cases h
 |ex x=>rw[i]at h;cases h
 |bad=>rw[i]at h;cases h
end
section
def lQ (I:Inv X b σ H s)(O:a5->Prop)(t:∀a,O a->∃o,H a=some o/\Mt o):U6 X.K O:=λa o d z=>by obtain⟨u,h,_⟩:=t a z;have:=(I.bs a o<|I.ok.mod.kin a o d).2;rw[h]at this;cases this
def VN (F:FnOk X.prog X.w X.K X.mg X.base sG k g o ps (vq X.K n m))(r:Room k X.A)(t:X.mg x=some (.ref g))(u:PySem.W.keepIn X.K (.ref g)=true)(y:Binds X.K o ps [])(B:IV X (e::es) f)(C:∀ρ ds,f ρ=.ok ds->ds.length=n)(J:Gl X x:=by rfl)(N:(x==kd)=false:=by decide)(T:az (e::es) X.env=(false,cv e X.env)::az es X.env:=by rfl)(U:(cp i (az es X.env)).any (·.1)=false:=by rfl):
  PD X (.Call (.Name x p) (e::es) [] i) (λρ=>(f ρ).bind m):=by
 refine sM λa s σ H Q I Y O0 O ρ E q=>?_;refine xM F r J t u y .nil SJ B N T U a s σ H Q I ⟨Y,O0,O,ρ,E,?_⟩;dsimp only at q;cases b:f ρ with
 |ex z=>rw[b]at q;exact q
 |bad=>rw[b]at q;exact q
 |ok ds=>
  rw[b,R.aa0]at q;intro L H1 j r1;rw[aBk];have l:=E.grow j;cases h:m ds with
  |ex z=>rw[h]at q;exact(q H<|Same.refl _).elim
  |bad=>rw[h]at q;exact q.elim
  |ok d=>rw[h]at q;refine⟨O,ds,d,r1,C ρ ds b,l.trk,l.tab,?_,h,λv H' s2 r2=>q v H' (j.trans s2) r2⟩;exact lQ I O E.trk
end
def LX (env:Env):List (Str×ee)->List (Str×a5)->List (Str×a5)
 |[],B=>B
 |(n,k)::r,B=>LX env r (if k=.free then(n,(env.cells.lookup n).getD 0)::B else B)
def aL (h:∀y∈d.names,y.2=.free->∃c,env.cells.lookup y.1=some c):closureFor d env=pure (LX env d.names []):=by
 have p:∀(b:List (Str×ee)) (B:List (Str×a5)),(∀y∈b,y.2=.free->∃c,env.cells.lookup y.1=some c)->
   (forIn b B λ(x:Str×ee) (r:List (Str×a5))=>(match x with
    |(f,g)=>if(g==NameKind.free)=true then(do let a<-cellOf env f;pure (aCu ((f,a)::r)))else pure (aCu r):Sem (ForInStep<|List<|Str×a5)))=pure (LX env b B):=by
  intro b;induction b with
  |nil=>intro B _;rfl
  |cons y r m=>
   intro B i;obtain⟨n,k⟩:=y;rw[aDb];by_cases j:k=.free
   .subst j;obtain⟨c,o⟩:=i (n,.free) aBp rfl;have e:cellOf env n=pure c:=by unfold cellOf;rw[o]
    simp only[beq_self_eq_true,if_true,e,pure_bind];rw[m _ λz l=>i z (aAe _ l)];simp[LX,o]
   .have q:(k==NameKind.free)=false:=by simpa using j
    simp only[q,aAt,if_false,pure_bind];rw[m _ λz l=>i z (aAe _ l)];simp[LX,j]
 have e:=p d.names [] h;show((forIn d.names ([]:List (Str×a5)) λ(x:Str×ee) (r:List (Str×a5))=>(match x with
    |(f,g)=>if(g==NameKind.free)=true then(do let a<-cellOf env f;pure (aCu ((f,a)::r)))else pure (aCu r):Sem (ForInStep<|List<|Str×a5)))>>=λs=>pure s)=_
 rw[e];rfl
theorem zM:∀(names:List (Str×ee)) (B:List (Str×a5)) {x:Str} {c:a5},(∀y∈names,y.2=.free->∃c,env.cells.lookup y.1=some c)->(∀x c,B.lookup x=some c->env.cells.lookup x=some c)->
  (LX env names B).lookup x=some c->env.cells.lookup x=some c
 |[],B,x,c,_,b,h=>b x c h
 |(n,k)::r,B,x,c,f,b,h=>by
  refine zM r _ (λy l=>f y (aAe _ l)) (λd g a=>?_) h;by_cases e:k=.free
  .rw[jk e]at a;obtain⟨c0,i⟩:=f (n,k) aBp e;by_cases j:d=n
   .subst j;rw[aBL]at a;rw[i]at a;rw[i];exact a
   .rw[aBh,beq_eq_false_iff_ne.mpr j]at a;exact b d g a
  .rw[ka e]at a;exact b d g a
theorem vS:∀(names:List (Str×ee)) (B:List (Str×a5)) {x:Str},((x,NameKind.free)∈names\/∃c,B.lookup x=some c)->∃c,(LX env names B).lookup x=some c
 |[],B,x,h=>by
  rcases h with h|h
  .cases h
  .exact h
 |(n,k)::r,B,x,h=>by
  refine vS r _ ?_;rcases h with h|⟨c,h⟩
  .rcases aAd.mp h with e|h
   .cases e;right;rw[jk rfl,aBL];exact⟨_,rfl⟩
   .exact .inl h
  .right;by_cases a:k=.free
   .rw[jk a,aBh];cases(x==n)with
    |true=>exact⟨_,rfl⟩
    |false=>exact⟨c,h⟩
   .rw[ka a];exact⟨c,h⟩
theorem jH {env:Env}:∀{names:List (Str×ee)} {x:Str},
  ((names.map λ(n,k)=>if(k==NameKind.free&&env.scope.kind==.function&&env.kindOf n==some .cell)then(n,aCf)else(n,k)).lookup x=some .cell\/
   (names.map λ(n,k)=>if(k==NameKind.free&&env.scope.kind==.function&&env.kindOf n==some .cell)then(n,aCf)else(n,k)).lookup x=some .free)->(x,NameKind.free)∈names\/names.lookup x=some .cell
 |[],_,h=>by rcases h with h|h<;>cases h
 |(n,k)::r,x,h=>by
  have d:=@jH env r x;rw[aAn]at h;dsimp only at h;by_cases b:x=n
  .subst b;by_cases a:(k==NameKind.free&&env.scope.kind==.function&&env.kindOf x==some .cell)=true
   .have e:k=.free:=by rw[aAO,aAO]at a;simpa using a.1.1
    subst e;exact .inl aBp
   .rw[ka a,aBL]at h;rcases h with h|h
    .right;rw[aBL];exact h
    .have:k=.free:=aAm h;subst this;exact .inl aBp
  .have f:(r.map λ(n,k)=>if(k==NameKind.free&&env.scope.kind==.function&&env.kindOf n==some .cell)then(n,aCf)else(n,k)).lookup x=some .cell\/
     (r.map λ(n,k)=>if(k==NameKind.free&&env.scope.kind==.function&&env.kindOf n==some .cell)then(n,aCf)else(n,k)).lookup x=some .free:=by
    by_cases a:(k==NameKind.free&&env.scope.kind==.function&&env.kindOf n==some .cell)=true
    .rw[jk a,aBh,beq_eq_false_iff_ne.mpr b]at h;exact h
    .rw[ka a,aBh,beq_eq_false_iff_ne.mpr b]at h;exact h
   rcases d f with h|h
   .exact .inl (aAe _ h)
   .right;rw[aBh,beq_eq_false_iff_ne.mpr b];exact h
theorem qU:∀(names:List (Str×ee)) (h:bt) (B:List (Str×a5)) {x:Str} {c:a5},(dz h.objs.size names B).lookup x=some c->B.lookup x=some c\/((pushCells h names).IsCell c none/\h.objs.size<=c)
 |[],h,B,x,c,e=>.inl e
 |(n,k)::r,h,B,x,c,e=>by
  unfold dz at e;unfold pushCells;split at e
  .rename_i b;rw[jk b];rcases qU r (h.push {cls:=.type "cell",data:=.cell none}) ((n,h.objs.size)::B) (x:=x) (c:=c) (by rw[aBG];exact e)with a|⟨a,d⟩
   .rw[aBh]at a;cases f:(x==n)with
    |true=>rw[f]at a;have g:h.objs.size=c:=aAm a;subst g;exact .inr ⟨⟨_,aEI _ _ _ _ (aAp _ rfl),rfl⟩,aAj _⟩
    |false=>rw[f]at a;exact .inl a
   .exact .inr ⟨a,by rw[aBG]at d;exact aCJ d⟩
  .rename_i b;rw[ka b];exact qU r h B e
theorem lE:∀(names:List (Str×ee)) (n:Nat) (B:List (Str×a5)) {x:Str} {c:a5},(dz n names B).lookup x=some c->B.lookup x=some c\/n<=c
 |[],n,B,x,c,e=>.inl e
 |(m,k)::r,n,B,x,c,e=>by
  unfold dz at e;split at e
  .rcases lE r (n+1) _ e with a|a
   .rw[aBh]at a;cases b:(x==m)with
    |true=>rw[b]at a;exact .inr (aEs (aAm a))
    |false=>rw[b]at a;exact .inl a
   .exact .inr (aCJ a)
  .exact lE r n B e
theorem qM:∀(names:List (Str×ee)) (n:Nat) (B:List (Str×a5)) {x:Str} {c:a5},(x,aCf)∈names->(dz n names B).lookup x=some c->n<=c
 |[],n,B,x,c,a,e=>nomatch a
 |(m,k)::r,n,B,x,c,a,e=>by
  unfold dz at e;rcases aAd.mp a with a|a
  .cases a;rw[jk (show(aCf==aCf)=true from rfl)]at e;rcases lE r (n+1) _ e with b|b
   .rw[aBL]at b;exact aEs (aAm b)
   .exact aCJ b
  .split at e
   .exact aCJ (qM r (n+1) _ a e)
   .exact qM r n B a e
theorem qH:∀(names:List (Str×ee)) (n:Nat) (B:List (Str×a5)) {x:Str},(x,aCf)∉names->(dz n names B).lookup x=B.lookup x
 |[],n,B,x,_=>rfl
 |(m,k)::r,n,B,x,a=>by
  unfold dz;split
  .rename_i b;rw[qH r (n+1) _ λz=>a (aAe _ z),aBh];cases d:(x==m)with
   |true=>
    have e:x=m:=by simpa using d
    have f:k=.cell:=by simpa using b
    exact absurd (by rw[e,f];exact aBp) a
   |false=>rfl
  .exact qH r n B λz=>a (aAe _ z)
theorem lI:∀(names:List (Str×ee)) (n:Nat) (B:List (Str×a5)),(∀x c,B.lookup x=some c->c<n)->(∀x y c,B.lookup x=some c->B.lookup y=some c->x=y)->
  ∀x y c,(dz n names B).lookup x=some c->(dz n names B).lookup y=some c->x=y
 |[],n,B,_,h=>h
 |(m,k)::r,n,B,g,h=>by
  unfold dz;split
  .refine lI r (n+1) _ (λx c e=>?_) λx y c b a=>?_
   .rw[aBh]at e;cases d:(x==m)with
    |true=>rw[d]at e;rw[<-aAm e];exact aDh _
    |false=>rw[d]at e;exact aBz (g x c e)
   .rw[aBh]at b a;cases d:(x==m)with
    |true=>
     rw[d]at b;cases f:(y==m)with
     |true=>rw[show x=m by simpa using d,show y=m by simpa using f]
     |false=>rw[f]at a;rw[<-aAm b]at a;exact absurd (g y _ a) (aBv _)
    |false=>
     rw[d]at b;cases f:(y==m)with
     |true=>rw[f]at a;rw[<-aAm a]at b;exact absurd (g x _ b) (aBv _)
     |false=>rw[f]at a;exact h x y c b a
  .exact lI r n B g h
abbrev cN (X:Cx)(a:iu)(C:a5):List (Str×a5):=dz (C+1) a.names (LX X.env a.names [])
def JC {E:E8}{Q:Env->aA->Prop}(h:Q (newEnv a s.heap.objs.size g (dz (s.heap.objs.size+1) a.names i) q none .none (some env) builtinsNs) {s with heap:=pushCells (s.heap.push {cls:=.type "dict",data:=.dict #[]}) a.names}):
  av M A (newFunctionEnv a g i [] q none .none (some env)) Q E s:=by
 simp only[newFunctionEnv,Option.isSome_some,if_true];refine aAa (wpAny_alloc ?_);refine aAa (wpAny_layCells _ (λf b d=>by cases e:b==aCf<;>simp[e]) _ _ _ _ ?_);rw[show({s with heap:=s.heap.push {cls:=.type "dict",data:=.dict #[]}}:aA).heap.objs.size=s.heap.objs.size+1 from aBG ..];exact aAa (aAb<|aAb h)
def LJ {R:Result->aA->Prop}(I:Nat->aA->Prop)(turn:∀n s,I n s->av (a9 prog w) A (ff it) (λr j=>match r with
   |none=>R (.ok .next) j
   |some v=>av (a9 prog w) A (letOwnedTupleGo a it v) (λ_ f=>av (a9 prog w) A (gB a env v) (λ_ p=>
    av (a9 prog w) A (forIn g true λc r=>if r=true then do let ok<-isTrue c env (cv c env);pure (aCu ok)else pure (aCu r)) (λok k=>
     if ok=true then av (a9 prog w) A (cv i env) (λx q=>av (a9 prog w) A (call (.builtin "list.append") [B,x]) (λ_ t=>∃m,m<n/\I m t) (λ_ _=>False) q) (λ_ _=>False) k
     else∃m,m<n/\I m k) (λ_ _=>False) p) (λ_ _=>False) f) (λ_ _=>False) j) (λ_ _=>False) s) (n:Nat) (h:I n s):fg (a9 prog w) A (.compLoop (.ListComp i [⟨a,iter,g,0⟩] e l) 0 it B env) R s:=by
 refine codeAny_loop rfl I (λn s y=>?_) n h;show av _ A ((compTurn (.ListComp i [⟨a,iter,g,0⟩] e l) 0 it B env).onRaise (λx=>do noteFrame x env;theTreesLotGoes x)) _ _ s;refine wpAny_noted ?_;rw[compTurn_list];refine aAa (aEC<|aAa<|aCI (turn n s y) (λr j d=>?_) λ_ _ b=>b.elim);cases r with
 |none=>exact aAb d
 |some v=>
  refine aAa (aCI d (λ_ f o=>?_) λ_ _ b=>b.elim);refine aAa (aCI o (λ_ p z=>aAa (aCI z (λok k u=>?_) λ_ _ b=>b.elim)) λ_ _ b=>b.elim);cases ok with
  |false=>exact aAb ⟨rfl,u⟩
  |true=>exact aAa (aAa<|aCI u (λx q C=>aAa (aCI C (λ_ t E=>aAb (aAb ⟨rfl,E⟩)) λ_ _ b=>b.elim)) λ_ _ b=>b.elim)
def FN (X:Cx)(pins:R0)(s9:aA)(H9:Hp)(b:List Str)(a:iu)(d:List (Str×a5))(C:a5)(e:List a5):Cx where
 prog:=X.prog
 w:=X.w
 K:=X.K
 mg:=X.mg
 base:=X.base
 A:=X.A
 N:=b
 s9:=s9
 H9:=H9
 env:=compEnvC a d C X.env
 outer:=X.stack
 stack:=X.stack
 ex:=e
 fn:=λx=>a.names.lookup x==some .cell
 calm:=X.calm
 pn:=X.pn++pins
 xe:=λ_ _=>False
structure CompSc (X:Cx)(scope:Scope)(own fr:List Str)(js:List Nat):Prop where
 kind:scope.kind=.function
 apart:∀y∈scope.names,y.2=.free->(y.1,aCf)∉scope.names
 names:∀y∈scope.names,y.2=.local->scope.names.lookup y.1=some .local
 free:∀y∈scope.names,y.2=.free->X.env.kindOf y.1=some .cell\/X.env.kindOf y.1=some .free
 len:js.length=fr.length
 at_:∀(i j:Nat) (x:Str),js[i]?=some j->fr[i]?=some x->X.N[j]?=some x/\(x,NameKind.free)∈scope.names
 nd:js.Nodup
 dis:∀y∈scope.names,y.2=.free->scope.names.lookup y.1=some .free
def seen:Sl->Sl
 |.v d=>.v d
 |.d k=>.d k
 |_=>.no
def i8 (own:List Str)(a:List Nat)(ρ:Ev):Ev:=aCT own.length Sl.no++a.map λj=>seen (ρ.getD j Sl.no)
def V1 (own:List Str)(a:List Nat)(σ:St):St:=aCT own.length none++a.map λj=>σ.getD j none
def Inv.aa9 (I:L2.Inv X b σ H s)(S:CompSc X a own f g):∀y∈a.names,y.2=.free->∃c,X.env.cells.lookup y.1=some c:=
 λy d e=>I.ok.has y.1 (S.free y d e)
def V8 (h:(i8 own l ρ)[i]?=some sl):sl=.no\/∃j,((∃d,sl=.v d)\/∃k,sl=.d k)/\own.length<=i/\l[i-own.length]?=some j/\ρ[j]?=some sl:=by
 unfold i8 at h;by_cases f:i<own.length
 .rw[aAS (by simpa using f),aBC,jk f]at h;cases h;exact .inl rfl
 .have g:own.length<=i:=aEw f;rw[aAA (by simpa using g),aCv,aAE]at h;cases e:l[i-own.length]? with
  |none=>rw[e]at h;cases h
  |some j=>
   rw[e]at h;have a:seen (ρ.getD j Sl.no)=sl:=aAm h;rw[aAo]at a;cases b:ρ[j]? with
   |none=>rw[b]at a;subst a;exact .inl rfl
   |some z=>
    rw[b]at a;cases z with
    |v d=>subst a;exact .inr ⟨j,.inl ⟨d,rfl⟩,g,rfl,b⟩
    |d k=>subst a;exact .inr ⟨j,.inr ⟨k,rfl⟩,g,rfl,b⟩
    |_=>subst a;exact .inl rfl
def pL {σ:St}(a:own.length<=i)(e:b[i-own.length]?=some j)(h:j<σ.length):(V1 own b σ)[i]?=σ[j]?:=by unfold V1;rw[aAA (by simpa using a),aCv,aAE,e];show some (σ.getD j none)=_;rw[aAo,aAg h];rfl
def JX {K:kc}{l H:Hp}{m O:a5->Prop}{σ:St}{ρ:Ev}{own:List Str}{f:List Nat}(s:f.Nodup)(E:EnvOk K l m H O σ ρ):EnvOk K l m H O (V1 own f σ) (i8 own f ρ):=by
 have lt:∀{j g},ρ[j]?=some g->j<σ.length:=λh=>by rw[E.len];exact(aAw.mp h).1
 refine⟨by simp[V1,i8],E.same,E.sub,E.trk,E.trk0,E.tab,λi g h=>?_,λi v x y a b d o n q p=>?_⟩
 .rcases V8 h with rfl|⟨j,_,k,e,b⟩
  .trivial
  .rw[pL k e (lt b)];exact E.slot j g b
 .rcases V8 b with rfl|⟨j,_,t,e,b⟩
  .exact o.elim
  rcases V8 d with rfl|⟨u,_,k,r,d⟩
  .exact n.elim
  rw[pL t e (lt b)]at q;rw[pL k r (lt d)]at p;have:=E.inj j u x y a b d o n q p;subst this;have:=(List.getElem?_inj (aAw.mp e).1 s).mp (e.trans r.symm)
  lia
def IX (I:L2.Inv X pins σ H s)(S:CompSc X a own fr js)(vo:∀b∈fp,sT X pins H b)(ai:∀b∈fp,b<s.heap.objs.size)(e8:h₁=pushCells (s.heap.push {cls:=.type "dict",data:=.dict #[]}) a.names):
  L2.Inv (FN X pins s H (own++fr) a (cN X a s.heap.objs.size) s.heap.objs.size fp) [] (V1 own js σ) H {s with heap:=h₁,toks:=tk}:=by
 have w:=Inv.aa9 I S;have g:∀b o,s.heap.get? b=some o->h₁.get? b=some o:=λb o e=>by rw[e8];exact aEI _ _ _ _ (aAc _ e)
 have yp:h₁.Ns s.heap.objs.size (λ_=>none):=by rw[e8];exact(Heap.Ns.new s.heap<|.type "dict").keeps (aEI _ _)
 have cc:∀x c,(cN X a s.heap.objs.size).lookup x=some c->(LX X.env a.names []).lookup x=some c\/(h₁.IsCell c none/\s.heap.objs.size+1<=c):=λx c h=>by have:=qU a.names (s.heap.push {cls:=.type "dict",data:=.dict #[]}) (LX X.env a.names []) (x:=x) (c:=c) (by rw[aBG];exact h);rw[aBG,<-e8]at this;exact this
 have J:∀x c,(LX X.env a.names []).lookup x=some c->X.env.cells.lookup x=some c:=λx c h=>zM a.names [] w (λ_ _ z=>(by cases z)) h;have l:∀b o,X.base.get? b=some o->b∉fp:=λb o e B=>by
  rcases(vo b B).2.2.2.1 with z|z
  .exact I.ok.noex b o e z
  .exact absurd (aAv (aAf e)<|aAs I.ok.bsz z) (aBv _)
 have nfs:∀b∈fp,b∉yE X.stack:=λb B z=>by
  rcases aAd.mp (I.ab4 b z)with e|z
  .exact(vo b B).2.1 e
  .exact(vo b B).2.2.1 z
 have A:∀x c,X.env.cells.lookup x=some c->c<s.heap.objs.size+1:=λx c h=>by obtain⟨v,o,Q,_⟩:=I.cell x c h;exact aBz (aAf Q)
 have has:∀x,((relabel a X.env).names.lookup x=some .cell\/(relabel a X.env).names.lookup x=some .free)->∃c,(cN X a s.heap.objs.size).lookup x=some c:=λx N=>by
  have:((cN X a s.heap.objs.size).lookup x).isSome=true:=PySem.W.cellsFrom_some _ _ _ (by
   rcases jH N with h|h
   .obtain⟨c,hc⟩:=vS (env:=X.env) a.names [] (x:=x) (.inl h);exact .inr (by rw[hc];rfl)
   .exact .inl h)
  exact aFp.mp this
 refine⟨⟨I.ok.mod,S.kind,I.ok.glob,I.ok.blt,aAj _,lI a.names _ _ (λx c h=>A x c (J x c h)) (λx y c h1 C=>I.ok.inj x y c (J x c h1) (J y c C)),has,λx c hf h=>aCJ (qM a.names _ _ (PySem.mem_of_lookup<|eq_of_beq hf) h),I.ok.hd,I.ok.frames,.inl rfl,
  λb B=>⟨aAl (ai b B),λx c h=>(cc x c h).elim (λh=>(vo b B).2.2.2.2.1 x c (J x c h)) λ⟨_,C⟩ z=>absurd (aAv (ai b B)<|aCJ C) (by rw[z];exact aBv _)⟩,I.bs,aAs I.ok.bsz I.sz,λb o e=>l b o e,nfs,I.stack,I.ad5⟩,rfl,I.bare,Un.kept g,⟨_,yp,λi x v e1 E L=>?_⟩,λx c h=>?_,I.hok.fresh (aAj _),λx c h=>(cc x c h).elim (λh=>I.freeC x c (J x c h)) λ⟨_,C⟩=>I.hok.fresh (aCJ C),λp hp=>?_,I.hok.kept g,?_⟩
 .
  have hlen:(own++fr).length=(V1 own js σ).length:=by simp[V1,S.len]
  unfold V1 at E;by_cases hi:i<own.length
  .rw[aAS (by simpa using hi),aBC,jk hi]at E;cases E
  .have fb:own.length<=i:=aEw hi;rw[aAA (by simpa using fb),aCv,aAE]at E;have T:(own++fr)[i]?=some x:=e1;rw[aAA fb]at T;cases e:js[i-own.length]? with
   |none=>rw[e]at E;cases E
   |some j=>
    rw[e]at E;have q:σ.getD j none=some v:=aAm E;obtain⟨hN,jr⟩:=S.at_ (i-own.length) j x e T;have hσ:σ[j]?=some (some v):=by
     rw[aAo]at q;cases e4:σ[j]? with
     |none=>rw[e4]at q;cases q
     |some z=>rw[e4]at q;exact kb some q
    have O:=S.free (x,.free) jr rfl;have U:yD X.env.scope x:=.inr O;obtain⟨m,hn,hl⟩:=I.loc;obtain⟨u,r,lk⟩:=hl j x v hN hσ U;refine⟨u,r,?_⟩;rcases lk with⟨ku,_⟩|⟨_,c,hc,ir⟩
    .rcases O with O|O<;>(rw[ku]at O;cases O)
    .right;obtain⟨c',Y⟩:=vS (env:=X.env) a.names [] (x:=x) (.inl jr);have:=J x c' Y;rw[hc]at this;cases this;refine⟨?_,c,(qH a.names _ _<|S.apart (x,.free) jr rfl).trans Y,?_⟩
     .rcases L with L|L|L
      .
       have hq:(relabel a X.env).names.lookup x=some .local:=L;exfalso;have:∀f:List (Str×ee),(f.map λ(n,k)=>if(k==NameKind.free&&X.env.scope.kind==.function&&X.env.kindOf n==some .cell)then(n,aCf)else(n,k)).lookup x=some .local->f.lookup x=some .local:=by
        intro f;induction f with
        |nil=>intro h;cases h
        |cons y r ih=>
         obtain⟨n,k⟩:=y;intro h;rw[aAn]at h;dsimp only at h;by_cases N:x=n
         .subst N;by_cases t:(k==NameKind.free&&X.env.scope.kind==.function&&X.env.kindOf x==some .cell)=true
          .rw[jk t,aBL]at h;cases h
          .rw[ka t,aBL]at h;rw[aBL];exact h
         .rw[aBh,beq_eq_false_iff_ne.mpr N];by_cases t:(k==NameKind.free&&X.env.scope.kind==.function&&X.env.kindOf n==some .cell)=true
          .rw[jk t,aBh,beq_eq_false_iff_ne.mpr N]at h;exact ih h
          .rw[ka t,aBh,beq_eq_false_iff_ne.mpr N]at h;exact ih h
       have C:=this a.names hq;rw[S.dis (x,.free) jr rfl]at C;cases C
      .exact .inl L
      .exact .inr L
     .obtain⟨o,Q,hd⟩:=ir;exact⟨o,g c o Q,hd⟩
 .rcases cc x c h with h|⟨h,_⟩
  .obtain⟨v,o,Q,hd⟩:=I.cell x c (J x c h);exact⟨v,o,g c o Q,hd⟩
  .exact⟨_,h⟩
 .have hp':p∈X.pn++pins:=by simpa[FN]using hp
  obtain⟨e,n,ne,nf,d⟩:=I.pin p hp';refine⟨g _ _ e,n,aAl (aAf e),λz=>?_,d⟩;rcases aAd.mp (I.ab4 p.1 z)with e'|z'
  .exact ne e'
  .exact nf z'
 .simp[V1,FN,S.len]
def w8 (G:D->Ev->R Ev)(ft:Ev->R Bool)(fe:Ev->R D)(ρ:Ev):List D->R (List D)
 |[]=>.ok []
 |d::e=>match G d ρ with
  |.ok a=>(ft a).bind λb=>if b=true then(fe a).bind λr=>(w8 G ft fe ρ e).bind λf=>.ok (r::f)else w8 G ft fe ρ e
  |_=>.bad
def nR (ρ1 ρ:Ev):Prop:=ρ1.length=ρ.length/\∀(i:Nat) (a:Sl),ρ[i]?=some a->a≠.no->ρ1[i]?=some a
def EnvOk.weak {K:kc}{b H:Hp}{d O:a5->Prop}{σ:St}{ρ1 ρ:Ev}(E:EnvOk K b d H O σ ρ1)(h:nR ρ1 ρ):EnvOk K b d H O σ ρ where
 len:=E.len.trans h.1
 same:=E.same
 sub:=E.sub
 trk:=E.trk
 trk0:=E.trk0
 tab:=E.tab
 slot:=λi f e=>by
  by_cases n:f=.no
  .subst n;trivial
  .exact E.slot i f (h.2 i _ e n)
 inj:=λi j x y a l m g k=>E.inj i j x y a (h.2 i _ l (by rintro rfl;exact g)) (h.2 j _ m (by rintro rfl;exact k)) g k
def O9 (H:Hp)(a:a5):Hp:=λb=>if b=a then none else H b
def rE (H:Hp)(a:a5):O9 H a a=none:=jk rfl
def N9 (h:b≠a):O9 H a b=H b:=ka h
def uL (h:H a=some o):upd (O9 H a) a o=H:=by
 funext b
 unfold upd O9;by_cases d:b=a
 .subst d;rw[jk rfl,h]
 .rw[ka d,ka d]
def EnvOk.ae2 {K:kc}{d H:Hp}{e O:a5->Prop}{σ:St}{ρ:Ev}{a:a5}{L:List V}(E:EnvOk K d e H O σ ρ)(h:H a=none)(f:K.lookup a=none):EnvOk K d e (upd H a (.lst L)) (λb=>O b\/b=a) σ ρ:=E.ab7 h f trivial
def Rep.hidden {K:kc}{H:Hp}{O:a5->Prop}{a:a5}{L:List V}{v:V}{d:D}(h:H a=some (.lst L))(r:Rep K H (λb=>O b\/b=a) v d):Rep K (O9 H a) O v d:=by
 refine r.mono (λb Y q=>?_) (λb Y n q=>⟨λz=>n (.inl z),?_⟩) λb φ n q=>⟨λz=>n (.inl z),by rw[N9 λz=>n (.inr z)];exact q⟩
 .rcases q with(q|⟨o,q⟩)|q
  .exact .inl (.inl (by rw[N9 (by rintro rfl;rw[h]at q;cases q)];exact q))
  .exact .inl (.inr ⟨o,by rw[N9 (by rintro rfl;rw[h]at q;cases q)];exact q⟩)
  .exact .inr q
 .have e:b≠a:=λz=>n (.inr z);rcases q with(q|⟨o,q⟩)|q
  .exact .inl (.inl (by rw[N9 e];exact q))
  .exact .inl (.inr ⟨o,by rw[N9 e];exact q⟩)
  .exact .inr q
def W0 (h:H a=none)(s:Same (upd H a (.lst L)) H'):Same H (O9 H' a):=λb o q=>by
 have d:b≠a:=by rintro rfl;rw[h]at q;cases q
 rw[N9 d];exact s b o (by rw[m9 d];exact q)
def ItC (K:kc)(J:It)(H:Hp)(O:a5->Prop)(ds:List D):Prop:=∀b e,Same H b->Kp H O b e->U6 K e->(∀a,O a->∃o,H a=some o/\Mt o)->(∀a,e a->∃o,b a=some o/\Mt o)->∀i:Nat,
 (∀d,ds[i]?=some d->J.go i b/\∀x f,J.yld i b x f->Same b f/\Rep K f e x d)/\(ds[i]?=none->J.stop i b)
def ZI.c {K:kc}(h:ZI K J H O ds):ItC K J H O ds:=λa b _=>h a b
def tIc (X:Cx)(f:Ev->R (List D)):TI:=λσ H R=>∃b d O ρ,EnvOk X.K b d H O σ ρ/\U6 X.K O/\match f ρ with
 |.ok g=>∀J a,Same H a->ItC X.K J a O g->R J a
 |.ex e=>∀a,Same H a->XW X e a
 |.bad=>False
def PIC (X:Cx)(a iter:cf)(f:Ev->R (List D)):Prop:=PI X a iter (tIc X f)
def pic (h:XV X a iter f):PIC X a iter f:=EF h λσ H R ⟨b,d,O,ρ,E,k,q⟩=>⟨b,d,O,ρ,E,k,by
 cases e:f ρ with
 |ok i=>rw[e]at q;exactλJ g s h=>q J g s h.c
 |ex x=>rw[e]at q;exact q
 |bad=>rw[e]at q;exact q⟩
section
def UB (X:Cx)(b:List cf)(ft:Ev->R Bool):Prop:=
 ∀(a:R0) (s:aA) (σ:St) (H:Hp) (Q:Bool->Hp->Prop),Inv X a σ H s->tDT X ft σ H Q->
  av (a9 X.prog X.w) X.A (forIn b true λc r=>if r=true then do let ok<-isTrue c X.env (cv c X.env);pure (aCu ok)else pure (aCu r)) (TP X a σ Q) X.xe s
def wN:UB X [] (λ_=>.ok true):=by rintro a s σ H Q I ⟨b,d,O,ρ,E,q⟩;exact wpAny_tests_nil ⟨H,I,q H (Same.refl _)⟩
def XB (h:CA X c ft):UB X [c] ft:=λa s σ H Q I q=>wpAny_tests_one (h a s σ H Q I q)
def pS {tg elt iter:cf}{ifs:List cf}{scope:iu}{own fr:List Str}{js:List Nat}{G:D->Ev->R Ev}{ft:Ev->R Bool}{fe:Ev->R D}{pins:R0}{σ:St}{H:Hp}{s:aA}{H9:Hp}{O0 O:a5->Prop}{ρ:Ev}
  {it:a5} {U:List a5} {tn:Nat->bt->Prop} {J:It} {ds rs:List D} {RR:ao->a5->Result->aA->Prop} {EE:E8} (hc:X.calm=true) (S:CompSc X scope own fr js)
  (hX:∀t:Cx,(∃s9 Ha C,t=FN X pins s9 Ha (own++fr) scope (cN X scope C) C U)->IU t tg G/\UB t ifs ft/\PD t elt fe)
  (hG:∀d ρ1,G d (i8 own js ρ)=.ok ρ1->nR ρ1 (i8 own js ρ))
  (I:Inv X pins σ H s) (T:Turn X.prog X.w X.K tg J U it tn) (st:tn 0 s.heap) (vo:∀b∈U,sT X pins H b) (E:EnvOk X.K H9 O0 H O σ ρ) (hJ:ItC X.K J H O ds) (hrs:w8 G ft fe (i8 own js ρ) ds=.ok rs) (hlen:ds.length<=sizeLine)
  (fin:∀B C s' H' m,s'.heap.Ns C m->C≠B->s.heap.objs.size<=C->s.heap.objs.size<=B->Same H H'->Rep X.K H' O (.ref B) (.lst rs)->(∃H1 L,Same H H1/\H1 B=none/\H'=upd H1 B (.lst L)/\Reps X.K H1 O L rs)->H' C=none->(∀h',Heap.SameBut C s'.heap h'->Inv X pins σ H' {s' with heap:=h'})->RR (.ref B) C (.ok .next) s'):
  av (a9 X.prog X.w) X.A (newList []) (λB sh=>av (a9 X.prog X.w) X.A (newFunctionEnv scope X.env.globals (LX X.env scope.names []) [] X.env.qual none .none (some X.env)) (λcenv si=>fg (a9 X.prog X.w) X.A (.compStart (.ListComp elt [⟨tg,iter,ifs,0⟩] scope pos) 0 (.ref it) B {cenv with scope:=relabel scope X.env}) (RR B cenv.locals) si) EE sh) EE s:=by
 have hO:=lQ I O E.trk;refine aAY ?_;have hfr:H s.heap.objs.size=none:=I.hok.fresh (aAj _);have hkl:X.K.lookup s.heap.objs.size=none:=by
  cases e:X.K.lookup s.heap.objs.size with
  |none=>rfl
  |some o=>exact absurd (aAf<|I.kIn _ o e) (aBv _)
 have I1:Inv X pins σ (upd H s.heap.objs.size<|.lst []) {s with heap:=s.heap.push {cls:=.type "list",dict:=none,data:=.seq ([]:List ao).toArray}}:=
  I.laid (t':=s.toks) (λb u e=>aAc _ e) (aAj _) ⟨aAM _,[],0,.nil,aAp _ rfl⟩
 generalize de:s.heap.objs.size=B at*
 generalize yr:({s with heap:=s.heap.push {cls:=.type "list",dict:=none,data:=.seq ([]:List ao).toArray}}:aA)=s1 at I1⊢;have sz1:s1.heap.objs.size=B+1:=by rw[<-yr,<-de];exact aBG _ _
 have keep1:∀b o,s.heap.get? b=some o->s1.heap.get? b=some o:=λb o e=>by rw[<-yr];exact aAc _ e
 have vp:∀b∈U,b<B:=λb g=>by obtain⟨o,e,_⟩:=T.obj 0 _ st b g;rw[<-de];exact aAf e
 have hfp1:∀b∈U,sT X pins (upd H B<|.lst []) b:=λb g=>by obtain⟨f0,f⟩:=vo b g;exact⟨by rw[m9 (aAl<|vp b g)];exact f0,f⟩
 refine JC ?_;obtain⟨N,e8⟩:∃N,pushCells (s1.heap.push {cls:=.type "dict",data:=.dict #[]}) scope.names=N:=⟨_,rfl⟩;rw[e8];have keep2:∀b o,s1.heap.get? b=some o->N.get? b=some o:=λb o e=>by rw[<-e8];exact aEI _ _ _ _ (aAc _ e)
 have IB:=IX (tk:=s1.toks) I1 S hfp1 (λb g=>by rw[sz1];exact aBz (vp b g)) e8.symm;generalize hC:s1.heap.objs.size=C at*
 obtain⟨hG',hT',hE'⟩:=hX _ ⟨s1,upd H B (.lst []),C,rfl⟩;generalize nu:FN X pins s1 (upd H B<|.lst []) (own++fr) scope (cN X scope C) C U=t at IB hG' hT' hE';have eP:t.prog=X.prog:=by rw[<-nu];rfl
 have eW:t.w=X.w:=by rw[<-nu];rfl
 have eK:t.K=X.K:=by rw[<-nu];rfl
 have eA:t.A=X.A:=by rw[<-nu];rfl
 have eC:t.calm=true:=by rw[<-nu];exact hc
 have eX:t.xe=λ_ _=>False:=by rw[<-nu];rfl
 have eE:t.env=compEnvC scope (cN X scope C) C X.env:=by rw[<-nu];rfl
 have eX0:t.ex=U:=by rw[<-nu];rfl
 have ePn:t.pn=X.pn++pins:=by rw[<-nu];rfl
 have eFs:t.fs=yE X.stack:=by rw[<-nu];rfl
 have eS0:t.s9=s1:=by rw[<-nu];rfl
 have eH0:t.H9=upd H B (.lst []):=by rw[<-nu];rfl
 have eL:t.env.locals=C:=by rw[eE];rfl
 have eCe:t.env.cells=cN X scope C:=by rw[eE];rfl
 have I2of:=IB;have cell_ne:∀b∈U,∀x c,t.env.cells.lookup x=some c->c≠b:=λb g x c h=>(I2of.ok.exf b (by rw[eX0];exact g)).2 x c h;have accC:B≠C:=by rw[sz1];exact aAl (aDh _)
 have fpC:∀b∈U,b≠C:=λb g=>by have h1:=vp b g;rw[sz1];exact aAl (aBz h1)
 have fpB:∀{H':Hp},(∀b∈U,H' b=none)->∀b∈U,sT t [] H' b:=λ{H'} hn b g=>by
  obtain⟨f0,f1,f2,f3,f4,f5⟩:=vo b g;refine⟨hn b g,by rw[eL];exact fpC b g,?_,.inl (by rw[eX0];exact g),λx c h=>cell_ne b g x c h,λp hp=>f5 p (by rw[ePn,aBk]at hp;exact hp)⟩;rw[eFs];intro z;rcases aAd.mp (I.ab4 b z)with e|z
  .exact f1 e
  .exact f2 z
 have YK:tn 0 N:=T.keep 0 s.heap N st λb g o e=>keep2 b o (keep1 b o e)
 let Iv:Nat->aA->Prop:=λn s'=>∃i ah Q L rd,n=ds.length-i/\i<=ds.length/\Inv t [] ah (upd Q B<|.lst L) s'/\Q B=none/\tn i s'.heap/\(∀b∈U,Q b=none)/\EnvOk X.K H9 O0 Q O ah (i8 own js ρ)/\Same H Q/\
  Reps X.K Q O L rd/\(∃rest,w8 G ft fe (i8 own js ρ) (ds.drop i)=.ok rest/\rs=rd++rest)/\L.length<=i
 have loop:fg (a9 X.prog X.w) X.A (.compLoop (.ListComp elt [⟨tg,iter,ifs,0⟩] scope pos) 0 (.ref it) (.ref B) (compEnvC scope (cN X scope C) C X.env)) (RR (.ref B) C) {s1 with heap:=N}:=by
  refine LJ Iv ?_ ds.length ⟨0,_,H,[],[],by simp,aAM _,IB,hfr,YK,λb g=>(vo b g).1,JX S.nd E,Same.refl H,.nil,⟨rs,by rw[aGa];exact hrs,rfl⟩,aAM _⟩;rintro n s2 ⟨i,vc,Q,L,rd,rfl,hi,I2,xu,ki,fx2,E2,xv,r2,⟨rest,l,vt⟩,hvl⟩;have fr2:∀b∈U,(upd Q B<|.lst L) b=none:=λb g=>by rw[m9 (aAl<|vp b g)];exact fx2 b g
  have sU:=l9 xu (.lst L);have hit:=hJ (upd Q B<|.lst L) (λb=>O b\/b=B) (xv.trans sU) (λb o q n=>⟨sU b o (xv b o q),λz=>z.elim n λz=>by subst z;rw[hfr]at q;cases q⟩) (λa o q z=>z.elim (hO a o q) λz=>by subst z;rw[hkl]at q;cases q) E.trk
   (λa z=>(E2.ae2 (L:=L) xu hkl).trk a z) i
  by_cases ai:i<ds.length
  .obtain⟨go,yl⟩:=hit.1 ds[i] (aAg ai);rw[aDL ai,w8]at l;have oa:=T.item t eP eW eK eC i [] s2 vc _ (λ_ _=>False) I2 (fpB fr2) ki go;rw[eA]at oa;refine G5 oa λr s3 z9=>?_;obtain⟨u,hr,h3⟩:=z9;subst hr;refine G5 h3 λ_ s4 z9=>?_;obtain⟨x,H4,I4,ru,y4,st4,fr4⟩:=z9;obtain⟨sm4,rep4⟩:=yl x H4 y4;cases e1:G ds[i] (i8 own js ρ)with
   |ex z=>rw[e1]at l;cases l
   |bad=>rw[e1]at l;cases l
   |ok ρ1=>
    rw[e1]at l;dsimp only at l;have EB:EnvOk X.K H9 O0 H4 (λb=>O b\/b=B) vc (i8 own js ρ):=(E2.ae2 xu hkl).grow sm4;have I4':=I4.pinned (fpB fr4) (T.obj _ _ st4);have again:∀{s7:aA} {ou:St} {y:Hp} {vs7:List V} {rd7:List D} {rest7:List D},Inv t ([]++pV U s4.heap) ou y s7->y B=some (.lst vs7)->EnvOk X.K H9 O0 (O9 y B) O ou (i8 own js ρ)->Same H (O9 y B)->Reps X.K (O9 y B) O vs7 rd7->
      w8 G ft fe (i8 own js ρ) (ds.drop<|i+1)=.ok rest7->rs=rd7++rest7->vs7.length<=i+1->∃m,m<ds.length-i/\Iv m s7:=λ{s7 ou y vs7 rd7 rest7} I7 h7 E7 sm7 r7 hr7 hrs7 hv7=>by
     refine⟨ds.length-(i+1),by omega,i+1,ou,O9 y B,vs7,rd7,rfl,ai,?_,rE _ _,T.keep _ _ _ st4 λb g o e=>(I7.pin (b,o)<|aAH _<|aAH _<|cK g e).1,λb g=>?_,E7,sm7,r7,⟨rest7,hr7,hrs7⟩,hv7⟩
     .rw[uL h7];exact I7.ab2
     .rw[N9 (aAl<|vp b g)];obtain⟨o,e,d⟩:=T.obj _ _ st4 b g;exact(I7.pin (b,o)<|aAH _<|aAH _<|cK g e).2.1
    have hasg:=hG' _ s4 vc H4 x u (λY H5=>Same H4 H5/\EnvOk X.K H9 O0 H5 (λb=>O b\/b=B) Y ρ1) I4' ru ⟨H9,O0,_,_,ds[i],ρ1,by rw[eK];exact EB,by rw[eK];exact rep4,e1,λY H5 s5 E5=>⟨s5,by rw[eK]at E5;exact E5⟩⟩;rw[eP,eW,eA,eE,eX]at hasg;refine G5 hasg λ_ s5 z9=>?_;obtain⟨Y,H5,I5,sm5,E5⟩:=z9;have hacc5:H5 B=some (.lst L):=sm5 B _ (sm4 B _ j8);cases e2:ft ρ1 with
    |ex z=>rw[e2]at l;cases l
    |bad=>rw[e2]at l;cases l
    |ok b=>
     rw[e2,R.aa0]at l;have htst:=hT' _ s5 Y H5 (λc H6=>c=b/\Same H5 H6) I5 ⟨H9,O0,_,ρ1,by rw[eK];exact E5,by rw[e2];exactλH6 s6=>⟨rfl,s6⟩⟩;rw[eP,eW,eA,eE,eX]at htst;refine G5 htst λok s6 z9=>?_;obtain⟨H6,I6,g,sm6⟩:=z9;subst g;have sm46:Same (upd Q B<|.lst L) H6:=sm4.trans (sm5.trans sm6);have hacc6:H6 B=some (.lst L):=sm6 B _ hacc5;have smx6:Same Q (O9 H6 B):=W0 xu sm46;have W1:nR ρ1 (i8 own js ρ):=hG _ _ e1;have Eb:∀{y:Hp},Same H5 y->EnvOk X.K H9 O0 (O9 y B) O Y (i8 own js ρ):=λ{y} s7=>by
      have E7:=(E5.grow s7).weak W1;have h7:y B=some (.lst L):=s7 B _ hacc5;refine⟨E7.len,E2.same.trans (W0 xu<|sm4.trans<|sm5.trans s7),E2.sub,λa z=>?_,E2.trk0,E2.tab.same (W0 xu<|sm4.trans<|sm5.trans s7),λj sl e=>?_,E7.inj⟩
      .obtain⟨o,q,mt⟩:=E2.trk a z;exact⟨o,W0 xu (sm4.trans<|sm5.trans s7) a o q,mt⟩
      .rcases V8 e with rfl|⟨_,⟨d,rfl⟩|⟨k,rfl⟩,_⟩
       .trivial
       .obtain⟨v,h1,h2⟩:=E7.val j d e;exact⟨v,h1,Rep.hidden h7 h2⟩
       .obtain⟨b,o,es,h1,g,h3,h4,h5,h6,h8⟩:=E7.slot j _ e;have nb:b≠B:=by rintro rfl;rw[h7]at h4;cases h4
        exact⟨b,o,es,h1,g.resolve_right nb,h3,by rw[N9 nb];exact h4,h5,h6.mono (Rep.hidden h7),h8⟩
     cases ok with
     |false=>rw[ka aBg]at l⊢;exact again I6 hacc6 (Eb sm6) (xv.trans smx6) (r2.same smx6) l vt (Nat.le_succ_of_le hvl)
     |true=>
      rw[jk rfl]at l⊢;cases e3:fe ρ1 with
      |ex z=>rw[e3]at l;cases l
      |bad=>rw[e3]at l;cases l
      |ok dv=>
       rw[e3,R.aa0]at l;cases e4:w8 G ft fe (i8 own js ρ) (ds.drop<|i+1)with
       |ex z=>rw[e4]at l;cases l
       |bad=>rw[e4]at l;cases l
       |ok rest'=>
        rw[e4,R.aa0]at l;have qe:dv::rest'=rest:=R.ok.inj l;have helt:=hE' _ s6 Y H6 (λv y=>Same H6 y/\Rep X.K y (λb=>O b\/b=B) v dv) I6 ⟨H9,O0,_,ρ1,by rw[eK];exact E5.grow sm6,by rw[e3,RC];exactλv y s7 r7=>⟨s7,by rw[eK]at r7;exact r7⟩⟩;rw[eP,eW,eA,eE,eX]at helt;refine G5 helt λuv s7 z9=>?_;obtain⟨v,y,I7,ruv,sm7,r7⟩:=z9;have hacc7:y B=some (.lst L):=sm7 B _ hacc6;have happ:=uX (X:=t) _ s7 Y y (.ref B) [v] (.ref B) [uv] (λ_ H8=>H8=upd y B (.lst (L++[v]))) I7 rfl (.cons ruv .nil) ⟨B,L,v,rfl,rfl,hacc7,by omega,rfl⟩;rw[eP,eW,eA,eX]at happ;refine G5 happ λ_ s8 z9=>?_;obtain⟨_,H8,I8,_,h8⟩:=z9;subst h8;have hh:O9 (upd y B<|.lst (L++[v])) B=O9 y B:=by
         funext b
         unfold O9 upd;by_cases g:b=B
         .rw[jk g,jk g]
         .rw[ka g,ka g,ka g]
        have smx7:Same Q (O9 y B):=W0 xu (sm46.trans sm7);refine again (vs7:=L++[v]) (rd7:=rd++[dv]) (rest7:=rest') I8 j8 (by rw[hh];exact Eb (sm6.trans sm7)) (by rw[hh];exact xv.trans smx7) ?_ e4 (by rw[vt,<-qe,aEj];rfl) (by rw[aAC];exact Nat.succ_le_succ hvl);rw[hh];exact(r2.same smx7).snoc (Rep.hidden hacc7 r7)
  .have fb:i=ds.length:=by omega
   subst fb;have hstop:=hit.2 (by simp);have oa:=T.done t eP eW eK eC ds.length [] s2 vc _ (λ_ _=>False) I2 (fpB fr2) ki hstop;rw[eA]at oa;refine G5 oa λr s3 z9=>?_;obtain⟨hr,I3⟩:=z9;subst hr;rw[List.drop_length,w8]at l;have qe:([]:List D)=rest:=R.ok.inj l;rw[<-qe,aBk]at vt;obtain⟨m,hm,_⟩:=id I3.loc;rw[eL]at hm;have hfin:Same H (upd Q B<|.lst L):=xv.trans sU;refine fin B C s3 (upd Q B<|.lst L) m hm (aCA accC) (by omega) (aAj _) hfin ?_ ⟨Q,L,xv,xu,rfl,by rw[vt];exact r2⟩ (by rw[<-eL];exact I3.free) (λh' jn=>?_)
   .rw[vt];exact .lst (P4.of j8) (E2.fresh xu) (r2.same sU)
   .have hU:Un (yE X.stack) U (upd H B<|.lst []) (upd Q B<|.lst L) s1.heap s3.heap:=by have:=I3.base;rw[eFs,eX0,eH0,eS0]at this;exact this
    have hCn:∀b o,s1.heap.get? b=some o->b≠C:=λb o e=>by have:=aAf e;rw[hC]at this;exact aAl this
    have hU':Un (yE X.stack) U (upd H B<|.lst []) (upd Q B<|.lst L) s1.heap h':=⟨λb o e n g hx=>(jn.2 b (hCn b o e)).trans (hU.keep b o e n g hx),λb o e n g hx=>by
      obtain⟨sl,q⟩:=hU.slot b o e n g hx;exact⟨sl,(jn.2 b (hCn b o e)).trans q⟩,hU.free,λb o e hx=>by
      obtain⟨o',q⟩:=hU.there b o e hx;exact⟨o',(jn.2 b (hCn b o e)).trans q⟩,hU.tups,hU.frzs,hU.tbls⟩
    have hCf:upd Q B (.lst L) C=none:=by rw[<-eL];exact I3.free
    have yu:gJ X.prog X.w (upd Q B<|.lst L) h':=λb u e=>by
     have g:b≠C:=by rintro rfl;rw[hCf]at e;cases e
     have:=I3.hok b u e;rw[eP,eW]at this;refine this.ac0 (λc v hc q=>(jn.2 c ?_).trans q) (λ_ q=>q) λ_ _ _ q=>q;rcases hc with z|z
     .rw[z];exact g
     .rintro rfl;rw[hCf]at z;cases z
    have hos:s3.os=s1.os:=by have:=I3.os;rw[eS0]at this;exact this
    exact I1.af6 (s':={s3 with heap:=h'}) (ch:=U) hos hU' yu I3.bare λb g=>by obtain⟨f0,f1,f2,f3,f4,f5⟩:=vo b g;exact⟨f3,f1,f4,f5⟩
 exact codeAny_compStart_list loop (T.self _ 0 _ _ _ YK loop)
def OT (own L:List Str)(g:List Nat)(hc:X.calm=true)(S:CompSc X b own L g)(hi:PIC X N iter U)(hX:∀(a:R0) (k:List a5) (i:Cx),(∃s9 Ha C,i=FN X a s9 Ha (own++L) b (cN X b C) C k)->IU i N G/\UB i l ft/\PD i n fe)(hG:∀ρ d ρ1,G d (i8 own g ρ)=.ok ρ1->nR ρ1 (i8 own g ρ))(hs:∀x,dC iter X.env x=pure x:=by intro _;rfl):
  PD X (.ListComp n [⟨N,iter,l,0⟩] b pos) (λρ=>(U ρ).bind λds=>if ds.length<=sizeLine then(w8 G ft fe (i8 own g ρ) ds).bind λf=>.ok (.lst f)else .bad):=by
 refine sM λa s σ H Q I H9 O0 O ρ E q=>?_;dsimp only at q;rw[eval_ListComp];refine aDU (use:=none) rfl hs (aL<|Inv.aa9 I S) S.kind S.names ?_;refine G5 (hi a s σ H (λJ o=>∃ds f,Same H o/\ItC X.K J o O ds/\ds.length<=sizeLine/\w8 G ft fe (i8 own g ρ) ds=.ok f/\∀v h,Same H h->Rep X.K h O v (.lst f)->Q v h) I ⟨H9,O0,O,ρ,E,lQ I O E.trk,?_⟩) λv Y h1=>G5 h1 λitv s2 h2=>?_
 .cases p:U ρ with
  |ex x=>rw[p]at q;exact q
  |bad=>rw[p]at q;exact q
  |ok ds=>
   rw[p,R.aa0]at q;intro J o Y t;split at q
   .rename_i u;cases j:w8 G ft fe (i8 own g ρ) ds with
    |ex x=>rw[j]at q;exact(q H<|Same.refl _).elim
    |bad=>rw[j]at q;exact q.elim
    |ok f=>rw[j]at q;exact⟨ds,f,Y,t,u,j,q⟩
   .exact q.elim
 .obtain⟨it,k,tn,J,H2,e,I2,T,ki,f2,ds,f,sm,t,u,y,q⟩:=h2;subst e;refine pS (RR:=λB C=>compPost (a9 X.prog X.w) X.A X.xe none (EP X a σ Q) B C) hc S (hX a k) (hG ρ) I2 T ki f2 (E.grow sm) t y u ?_;intro B C s' h m hn _ _ _ z r _ _ hI;exact⟨m,hn,λh' jn=>⟨.ref B,h,hI h' jn,rfl,q _ h (sm.trans z) r⟩⟩
def J7 (own g:List Str)(b:List Nat)(k:X.calm=true)(S:CompSc X a own g b)(l:XV X j iter m)(n:∀(e:R0) (o:List a5) (f:Cx),(∃p q C,f=FN X e p q (own++g) a (cN X a C) C o)->IU f j G/\UB f h ft/\PD f i fe)(r:∀ρ d ρ1,G d (i8 own b ρ)=.ok ρ1->nR ρ1 (i8 own b ρ))(s:∀x,dC iter X.env x=pure x:=by intro _;rfl):
 PD X (.ListComp i [⟨j,iter,h,0⟩] a t) (λρ=>(m ρ).bind λds=>if ds.length<=sizeLine then(w8 G ft fe (i8 own b ρ) ds).bind λu=>.ok (.lst u)else .bad):=OT own g b k S (pic l) n r s
end
def _root_.L2.ObjOk.live (x:ObjOk P w H h a o):h.get? a≠none:=by
 intro z;have b:∀{u:Obj},h.get? a=some u->False:=λq=>by rw[z]at q;cases q
 cases o with
 |lst Y=>obtain⟨_,_,_,_,e⟩:=x;exact b e
 |tup Y=>obtain⟨_,_,_,o,e,_⟩:=x;exact b e
 |dK N=>obtain⟨_,_,_,_,o,_,_,e,_⟩:=x;exact b e
 |dT N=>obtain⟨_,_,_,_,o,_,_,e,_⟩:=x;exact b e
 |set S n=>obtain⟨o,_,_,_,e,_⟩:=x;exact b e
 |ins C d fs=>obtain⟨_,_,_,e,_⟩:=x;exact b e
 |own y=>obtain⟨_,e⟩:=x;exact b e
 |xd fs=>obtain⟨_,⟨_,_,_,e,_⟩,_⟩:=x;exact b e
 |rng lo g=>obtain⟨_,_,_,e⟩:=x;exact b e
 |frz i u=>obtain⟨e,_⟩:=x;exact b e
 |tbl j=>obtain⟨_,e,_⟩:=x;exact b e
 |met f y=>exact b (show h.get? a=some _ from x)
 |ext φ=>obtain⟨_,⟨_,e⟩,_⟩:=x;exact b e
section
end
section
variable{P:ba} {w:be} {K:kc} {mg:cV} {base:bt}
end
section
variable{X:Cx} {E:XK} {st:bM} {rest:List bM} {F:Ev->R Out} {G Ga Gb:Ev->Option ao} {pos:Pos}
end
section
variable{K:kc} {h:bt} {C:a5} {bmB:List ao} {newId:String}
end
section
variable{X:Cx} {E:XK} {pos au np:Pos} {x:Str} {C:a5} {bmB:List ao} {B newId initId:String}
end
end
end DL
namespace TS
open PySem PyProof.Rows HT
def uK (f:Bool)(x y:ao):keyLt' (tupK f) x y=(do
 let Y<-aCO x;let ys<-aCO y
 for ((p,q),i)in(Y.toList.zip ys.toList).zipIdx do
  if !(<-eqBool p q)then return<-oneLt' (f&&i==0) p q
 return decide (Y.size<ys.size)):=rfl
def OH:ao->Sem (Option ao):=sortPriv%PySem.Builtin.firstOfTuple?
def NX:Array ao->Sem (Option ao):=sortPriv%PySem.Builtin.oneTypeOnly
def JV (v:ao):OH v=(do
 if(<-typeOf v) !=.type "tuple"then return none
 return (<-aCO v)[0]?):=rfl
def QK (L:Array ao):NX L=(do
 let a<-L.mapM typeOf
 match a[0]? with
 |some t=>return if a.all (· ==t)then some t else none
 |none=>return none):=rfl
def FY (a:Array ao):keyKind' a=(do
 let firsts<-a.mapM OH
 if firsts.all (·.isSome)then
  rule "list.sort.keys-are-tuples"
  return tupK ((<-NX (firsts.filterMap id)).any (· !=.type "tuple"))
 if(firsts[0]?.bind id).isSome then return general'
 return if(<-NX a).isSome then oneType' else general'):=rfl
section
def MZ {Q:zW}(f:Bool)(h:Q (decide (a<b)) s):av (a9 prog w) A (oneLt' f (.int a t) (.int b u)) Q E s:=by
 cases f with
 |true=>exact oneLt_int h
 |false=>rw[oneLt'_eq];simp only[aAt,if_false];exact aAa (AC A s a t b u prog w _ _<|aCb h)
def lt_ints (f:Bool){Q:zW}(hl:IsTup s.heap l items)(hb:IsTup s.heap b r)(Y:IntsAre items.toList ns)(hj:IntsAre r.toList N)(h:Q (HT.lexLt ns N) s):av (a9 prog w) A (keyLt' (tupK f) (.ref l) (.ref b)) Q E s:=by
 obtain⟨o,ho,hc,n,hd⟩:=hl;obtain⟨o2,kl,jt,n2,O⟩:=hb;have z1:items.size=ns.length:=by rw[<-Y.length];simp
 have z2:r.size=N.length:=by rw[<-hj.length];simp
 rw[uK];refine aAa (aEr ho hd<|aAa<|aEr kl O ?_);refine aAa (aCC _ (λrest b m=>b.1=none/\m=s/\∃(k:Nat) (L I:List ao) (v B:List Int),rest=(L.zip I).zipIdx k/\IntsAre L v/\IntsAre I B/\v.length+r.size=B.length+items.size/\Q (HT.lexLt v B) s)
  (λb m=>m=s/\(∀c,b.1=some c->Q c s)/\(b.1=none->Q (decide (items.size<r.size)) s)) ?turn ?fin _ _ ⟨rfl,rfl,0,items.toList,r.toList,ns,N,rfl,Y,hj,by lia,h⟩|>λz=>aCI z ?post λ_ _ e=>e)
 case post=>
  rintro⟨b1,b2⟩ m ⟨rfl,q1,q2⟩;cases b1 with
  |none=>exact aAb (q2 rfl)
  |some c=>exact aAb (q1 c rfl)
 case fin=>
  rintro⟨b1,b2⟩ m ⟨ji,rfl,k,L,I,v,B,j,T,J,d,g⟩;refine⟨rfl,λc e=>(by rw[ji]at e;cases e),λ_=>?_⟩;cases T with
  |nil=>
   cases J with
   |nil=>rw[Z9]at g;simp only[aAR]at d;rw[decide_eq_false (by lia)];exact g
   |cons c u hw=>rw[N0]at g;simp only[aAR,aAr]at d;rw[decide_eq_true (by lia)];exact g
  |cons a t hv=>
   cases J with
   |nil=>rw[D5]at g;simp only[aAR,aAr]at d;rw[decide_eq_false (by lia)];exact g
   |cons c u hw=>rw[aCc,aEx]at j;cases j
 case turn=>
  rintro⟨⟨y,x⟩,i⟩ rest b m ⟨ji,rfl,k,L,I,v,B,j,T,J,d,g⟩;cases T with
  |nil=>rw[List.zip_nil_left,aEJ]at j;cases j
  |cons a t C=>
   cases J with
   |nil=>rw[List.zip_nil_right,aEJ]at j;cases j
   |cons c u H=>
    rw[aCc,aEx]at j;injection j with p ag;injection p with p U;injection p with hy hx;subst hy hx U;rw[I9]at g;simp only[aAr]at d;obtain⟨e,he,vg⟩:=BI A m a t c u;refine aAa (he prog w _ _ ?_);cases e with
    |true=>rw[jk (vg.mp rfl)]at g;exact aAb ⟨rfl,rfl,_,_,_,_,_,ag,C,H,by lia,g⟩
    |false=>rw[ka (λq=>absurd (vg.mpr q) aBg)]at g;exact aAa (MZ _ (aAb ⟨rfl,λc e=>(by cases e;exact g),λe=>(by cases e)⟩))
end
section
theorem GZ {α β:Type}{M:Model}{f:α->Sem β}(g:α->β):∀(Y:List α) {Q:List β->aA->Prop},(∀x∈Y,∀{Q:β->aA->Prop},Q (g x) s->av M A (f x) Q E s)->Q (Y.map g) s->av M A (Y.mapM f) Q E s
 |[],Q,_,q=>by rw[List.mapM_nil];exact aAb q
 |x::Y,Q,h,q=>by rw[List.mapM_cons];exact aAa (h x (.head _) (aAa (GZ g Y (λy a=>h y (.tail _ a)) (aAb q))))
def HP {α β:Type}{M:Model}{f:α->Sem β}(g:α->β)(Y:List α){Q:Array β->aA->Prop}(h:∀x∈Y,∀{Q:β->aA->Prop},Q (g x) s->av M A (f x) Q E s)(q:Q (Y.map g).toArray s):av M A (Y.toArray.mapM f) Q E s:=by rw[List.mapM_toArray];show av M A (List.toArray<$>Y.mapM f) Q E s;rw[map_eq_pure_bind];exact aAa (GZ g Y h<|aAb q)
def kind_tuples {L:List ao}{f:Bool}{T:String}{Q:SortKind->aA->Prop}(b:ao->ao)(h:∀x∈L,∃a items,x=.ref a/\IsTup s.heap a items/\items[0]?=some (b x)/\s.TypeIs (b x) T)(i:L≠[])(j:f=(aCy T !=aCy "tuple"))
  (q:Q (tupK f) s):av (a9 prog w) A (keyKind' L.toArray) Q E s:=by
 rw[FY];refine aAa (HP (λx=>some (b x)) L (λx d {Q} e=>?_) ?_)
 .obtain⟨a,items,rfl,⟨o,g,k,n,l⟩,m,_⟩:=h x d;rw[JV];refine aAa (aDT (T:= "tuple") ⟨o,g,k⟩ ?_);rw[ka (by simp)];refine aAa (aEr g l ?_);rw[m];exact aAb e
 .have p:((L.map λx=>some (b x)).toArray.all λx=>x.isSome)=true:=by simp
  have r:(L.map λx=>some (b x)).toArray.filterMap id=(L.map b).toArray:=by
   rw[List.filterMap_toArray,aDp];congr 1;induction L with
   |nil=>rfl
   |cons v L B=>simp
  simp only[p,if_true,r];refine aAa (aDC ?_);refine aAa ?_;rw[QK];refine aAa (HP (λ_=>aCy T) (L.map b) (λx d {Q} e=>?_) ?_)
  .obtain⟨y,t,rfl⟩:=aAk.mp d;obtain⟨_,_,_,_,_,u⟩:=h y t;exact aDT u e
  .cases L with
   |nil=>exact absurd rfl i
   |cons v L=>
    simp only[aAn,aAV];have z:((aCy T::aDr ((λ_=>aCy T)∘b) L).toArray.all λx=>x==aCy T)=true:=by simp
    simp only[aCS,aCF,z,if_true];refine aAb (aAb ?_);rw[j]at q;exact q
end
theorem lex_irrefl:∀a:List Int,HT.lexLt a a=false
 |[]=>rfl
 |x::Y=>by rw[I9,jk rfl];exact lex_irrefl Y
theorem lex_total:∀a b:List Int,HT.lexLt a b=false->HT.lexLt b a=false->a=b
 |[],[],_,_=>rfl
 |[],_::_,h,_=>by rw[N0]at h;cases h
 |_::_,[],_,h=>by rw[N0]at h;cases h
 |x::Y,y::g,d,f=>by
  rw[I9]at d f;by_cases e:x=y
  .subst e;rw[jk rfl]at d f;rw[lex_total Y g d f]
  .rw[ka e]at d;rw[ka (aCA e)]at f;have:=of_decide_eq_false d;have:=of_decide_eq_false f;omega
theorem lex_trans:∀a b c:List Int,HT.lexLt a b=true->HT.lexLt b c=true->HT.lexLt a c=true
 |[],[],_,h,_=>by rw[Z9]at h;cases h
 |[],_::_,[],_,h=>by rw[D5]at h;cases h
 |[],_::_,_::_,_,_=>rfl
 |_::_,[],_,h,_=>by rw[D5]at h;cases h
 |_::_,_::_,[],_,h=>by rw[D5]at h;cases h
 |x::Y,y::i,z::j,f,d=>by
  rw[I9]at f d⊢;by_cases e:x=y
  .subst e;rw[jk rfl]at f;by_cases g:x=z
   .subst g;rw[jk rfl]at d⊢;exact lex_trans Y i j f d
   .rw[ka g]at d⊢;exact d
  .rw[ka e]at f;have k:=of_decide_eq_true f;by_cases g:y=z
   .subst g;rw[ka e];exact f
   .rw[ka g]at d;have l:=of_decide_eq_true d;rw[ka (by omega)];exact decide_eq_true (by omega)
theorem HK:∀a b c:List Int,HT.lexLt a c=true->HT.lexLt a b=true\/HT.lexLt b c=true
 |[],[],_,h=>.inr h
 |[],_::_,_,_=>.inl rfl
 |_::_,_,[],h=>by rw[D5]at h;cases h
 |_::_,[],_::_,_=>.inr rfl
 |x::Y,y::f,z::g,h=>by
  rw[I9]at h;rw[I9,I9];by_cases e:x=y
  .subst e;rw[jk rfl];by_cases d:x=z
   .subst d;rw[jk rfl]at h⊢;exact HK Y f g h
   .rw[ka d]at h⊢;exact .inr h
  .rw[ka e];by_cases l:x<y
   .exact .inl (decide_eq_true l)
   .refine .inr ?_;by_cases d:x=z
    .subst d;rw[ka (aCA e)];exact decide_eq_true (by omega)
    .rw[ka d]at h;have:=of_decide_eq_true h;rw[ka (by omega)];exact decide_eq_true (by omega)
open Classical in
def kV (L:List ao) (key:ao->List Int):KeyKind where
 α:=List Int
 blt:=HT.lexLt
 irrefl:=lex_irrefl
 trans:=lex_trans
 negTrans:=HK
 total:=lex_total
 keyOf:=λv=>if v∈L then some (key v)else none
 dflt:=[]
open Classical in
def ZL (h:v∈L):(kV L key).keyOf v=some (key v):=jk h
open Classical in
def YT (e:(kV L key).keyOf v=some l):v∈L/\key v=l:=by
 have a:(if v∈L then some (key v)else none)=some l:=e;split at a
 .rename_i h;cases a;exact⟨h,rfl⟩
 .cases a
def pN (L:List ao):(pairsOf L).toList=L.map λv=>(v,v):=by
 unfold pairsOf;rw[List.zip_toArray];show L.zip L=_;induction L with
 |nil=>rfl
 |cons v L a=>rw[aCc,aAn,a]
section
def IY {a:a5}{L:List ao}{n:Nat}{f:Bool}{key:ao->List Int}{P:Fin->aA->Prop}(I:s.heap.get? a=some (seqObj "list" L.toArray n))
  (J:∀d,vk a s d->∀x∈L,∀y∈L,∀(prog:ba) (w:be) (E:E8) {Q:zW},Q (HT.lexLt (key x) (key y)) d->av (a9 prog w) A (keyLt' (tupK f) x y) Q E d)
  (N:2<=L.length->∀d,vk a s d->∀{Q:SortKind->aA->Prop},Q (tupK f) d->av (a9 prog w) A (keyKind' L.toArray) Q E d) (m:L.length<64)
  (h:∀o:List ao,o.Perm L->o.Pairwise (λx y=>HT.lexLt (key y) (key x)=false)->P (.done (.ret .none)) {s with heap:=sortedHeap s.heap a L o.toArray}):
  av (a9 prog w) A (Builtin.«list.sort» ⟨[.ref a],[]⟩) P E s:=by
 refine AQ (κ:=kV L key) (f:=f) I (λp g=>?_) (λd r prog w E x y k l Q O T q=>?_) (λU d r {Q} q=>N U d r q) m λb e Y=>?_
 .rw[pN]at g;obtain⟨v,t,rfl⟩:=aAk.mp g;exact⟨key v,ZL t⟩
 .obtain⟨m1,u⟩:=YT O;obtain⟨m2,z⟩:=YT T;subst u z;exact J d r x m1 y m2 prog w E q
 .have B:(arrOf b).toList.Perm (L.map λv=>(v,v)):=by rw[<-pN];exact aER.mp e
  have same:∀p∈(arrOf b).toList,p.1=p.2/\p.2∈L:=λp g=>by obtain⟨v,t,rfl⟩:=aAk.mp (B.mem_iff.mp g);exact⟨rfl,t⟩
  have ea:(arrOf b).map (·.2)=((arrOf b).toList.map (·.2)).toArray:=by apply Array.ext';simp
  rw[ea];refine h _ ?_ ?_
  .have:=B.map (·.2);rw[aAV,show((λx:ao×ao=>x.2)∘λv=>(v,v))=id from rfl,List.map_id]at this;exact this
  .rw[aCr];intro i j hi hj jo;have fb:i<(arrOf b).size:=by simpa using hi
   have C:j<(arrOf b).size:=by simpa using hj
   have gc:(arrOf b).size=(pairsOf L).size:=e.size_eq;have q:=Y i j (aDx jo) (by rw[<-gc];exact C);have kk:∀k (H:k<(arrOf b).size),KK (kV L key) (arrOf b) k=key (arrOf b)[k].2:=λk H=>by unfold KK;rw[getElem?_pos _ k H];obtain⟨u,z⟩:=same (arrOf b)[k] (by simp);show((kV L key).keyOf (arrOf b)[k].1).getD _=_;rw[u,ZL z];rfl
   rw[kk i fb,kk j C]at q;rw[aEy,aEy,aFV,aFV];exact q
def sorted_keys {x:ao}{L:List ao}{f:Bool}{key:ao->List Int}{Q:E8}{C:aA->Prop}(u:∀{p:List ao->aA->Prop},(∀s',C s'->p L s')->av (a9 prog w) A.in1 (collect x) p E s)
  (v:∀s',C s'->∀a,(∀b o,s'.heap.get? b=some o->a.heap.get? b=some o)->∀x∈L,∀y∈L,∀(prog:ba) (w:be) (r:bc) (E:E8) (O:r.units<=A.units+5) {Q:zW},Q (HT.lexLt (key x) (key y)) a->av (a9 prog w) r (keyLt' (tupK f) x y) Q E a)
  (z:2<=L.length->∀s',C s'->∀a,(∀b o,s'.heap.get? b=some o->a.heap.get? b=some o)->∀(A:bc) {Q:SortKind->aA->Prop},Q (tupK f) a->av (a9 prog w) A (keyKind' L.toArray) Q E a) (j:L.length<64)
  (h:∀(s':aA) (g:List ao) (h':bt) (l:a5),C s'->g.Perm L->g.Pairwise (λx y=>HT.lexLt (key y) (key x)=false)->(∀b o,s'.heap.get? b=some o->h'.get? b=some o)->s'.heap.objs.size<=l->(∃n,h'.get? l=some (seqObj "list" g.toArray n))->Q (.ref l) {s' with heap:=h'}):
  av (a9 prog w) A (call (.builtin "sorted") [x]) Q E s:=by
 refine Calls.call_function_entry kind_sorted plain_sorted entry_sorted (args_sorted1 _) ?_;unfold Builtin.«sorted»;refine aAa (m:=checkCount "sorted" 1 1 _) (aAb ?_);refine aAa (u λs' k=>?_);refine aAa (wpAny_newList ?_);have d:(s'.heap.push<|seqObj "list" L.toArray 0).get? s'.heap.objs.size=some (seqObj "list" L.toArray 0):=aAp _ rfl;have t:∀a,vk s'.heap.objs.size {s' with heap:=s'.heap.push (seqObj "list" L.toArray 0)} a->∀b o,s'.heap.get? b=some o->a.heap.get? b=some o:=λa i b o e=>i b o (aAl<|aAf e) (aAc _ e);refine aAa (aAN (aBn slot_list_sort ⟨_,d,rfl⟩ entry_list_sort (IY (key:=key) (f:=f) d (λa i x B y H prog w E {Q} q=>v s' k a (t a i) x B y H prog w _ E (by simp) q) (λI a i {Q} q=>z I s' k a (t a i) _ q) j λg J N=>⟨_,rfl,?_⟩)<|args_list_sort _));refine aAb ⟨_,rfl,h s' g _ _ k J N (λb o e=>?_) (aAj _) (sortedHeap_at d)⟩;rw[sortedHeap_old (aAl<|aAf e) (by rw[aBG];exact aBz (aAf e))];exact aAc _ e
end
end TS
namespace DL
open PySem PySem.Spec L2
open PyProof.Rows hiding St
variable [Tabs]
omit [Tabs]in
def yQ {ns:List Int}(h:PySem.W.WData.layableAll [PySem.W.WData.list (ns.map PySem.W.WData.int)]=true):∀x∈ns,aBd x<=1048576:=λx a=>by
 have b:=(PySem.W.layW_cons h).1;have d:=PySem.W.layableW_item b (.int x) (aAk.mpr ⟨x,a,rfl⟩);have e:=PySem.W.lay0_int d;have f:PyData.layable0 (.int x)=true:=by simpa[PyData.layableAll0]using e
 exact PyData.bits_of_layable f
def w9 (P:ba)(w:be)(K:kc)(mg:cV)(base:bt)(k:Nat)(x:Str)(n:Nat)(m:List D->R D):Prop:=
 ∃g a b,FnOk P w K mg base sG k g a b (vq K n m)/\Binds K a b []/\PySem.W.keepIn K (.ref g)=true/\mg x=some (.ref g)
def zR (f:Ev->R (List D))(n:Nat):Prop:=∀ρ a,f ρ=.ok a->a.length=n
def S6:zR U5 0:=λρ a h=>by cases h;rfl
def x4 (h:zR g n):zR (t5 f g) (n+1):=λρ j e=>by
 unfold t5 at e;cases b:f ρ with
 |ok d=>
  rw[b,R.aa0]at e;cases a:g ρ with
  |ok i=>rw[a]at e;cases e;rw[aAr,h ρ i a]
  |ex x=>rw[a]at e;cases e
  |bad=>rw[a]at e;cases e
 |ex x=>rw[b]at e;cases e
 |bad=>rw[b]at e;cases e
section
def xV (c:w9 X.prog X.w X.K X.mg X.base k x n m)(d:Room k X.A)(h:IV X (e::es) f)(i:zR f n)(j:Gl X x:=by rfl)(l:(x==kd)=false:=by decide)(o:az (e::es) X.env=(false,cv e X.env)::az es X.env:=by rfl)(q:(cp a (az es X.env)).any (·.1)=false:=by rfl):
  PD X (.Call (.Name x p) (e::es) [] a) (λρ=>(f ρ).bind m):=by
 obtain⟨g,s,t,F,b,r,em⟩:=c;exact VN F d em r b h i j l o q
end
def bj {P:ba}{w:be}{K:kc}{mg:cV}{base:bt}{x qual:Str}{st:bM}{f:a5}{fd:dq}{N ps:List Str}{k:Nat}{m:List D->R D}{F:Ev->R Out}(b:Fun K x qual st f fd)(S:FnScope N ps (c6 st))(e:Binds K fd ps [])(g:mg x=some (.ref f))
  (h:∀(T:ao) (A:bc) (a:List Env) (s:aA) (H:Hp) (E:XK),Room k (A.deeper (envOfC qual (c6 st) s.heap.objs.size f T))->bE (LZ P w K mg base N qual (c6 st) f T A a s H E) (t0 st) F)
  (i:∀ds d,ds.length=ps.length->m ds=.ok d->R1 (F (j6 N ds))=.ok d):w9 P w K mg base (k+1) x ps.length m:=
 ⟨f,fd,ps,fnD b S h i,e,b.kp,g⟩
def t6:∀d ρ1,(R.ok ((i8 [x] a ρ).set 0 (Sl.v d)):R Ev)=.ok ρ1->nR ρ1 (i8 [x] a ρ):=λd ρ1 h=>by
 cases h;refine⟨by simp,λi e h b=>?_⟩;cases i with
 |zero=>exact absurd (by simpa[i8]using h.symm) b
 |succ i=>rw[aCD (by lia)];exact h
def RI (sc:iu)(N:List Str)(a:iu)(d:List Str)(b:List Nat):Bool:=
 decide (a.kind=.function)&&a.names.all (λy=>decide (y.2=.free->(y.1,aCf)∉a.names))&&a.names.all (λy=>decide (y.2=.local->a.names.lookup y.1=some .local))&&
 a.names.all (λy=>decide (y.2=.free->sc.names.lookup y.1=some .cell\/sc.names.lookup y.1=some .free))&&decide (b.length=d.length)&&(b.zip d).all (λp=>decide (N[p.1]?=some p.2/\(p.2,NameKind.free)∈a.names))&&decide b.Nodup&&
 a.names.all (λy=>decide (y.2=.free->a.names.lookup y.1=some .free))
def G6 (b:X.env.scope=sc:=by rfl)(d:X.N=N:=by rfl)(h:RI sc N a e f=true:=by decide+kernel):CompSc X a own e f:=by simp only[RI,aAO,aBN,decide_eq_true_eq]at h;obtain⟨⟨⟨⟨⟨⟨⟨g,k⟩,l⟩,m⟩,n⟩,o⟩,p⟩,q⟩:=h;subst b d;refine⟨g,k,l,m,n,λi j x r s=>?_,p,q⟩;refine o (j,x) (aAu (i:=i) ?_);rw[aBF];exact⟨r,s⟩
def FX (σ:List (Nat×D))(h:∀p∈σ,p.1<Y.length):nR (σ.foldl (λr p=>r.set p.1 (Sl.v p.2)) (i8 Y a ρ)) (i8 Y a ρ):=by
 have f:∀(σ:List (Nat×D)) (r:Ev),(∀p∈σ,p.1<Y.length)->r.length=(i8 Y a ρ).length->(∀i,Y.length<=i->r[i]?=(i8 Y a ρ)[i]?)->
   (σ.foldl (λr p=>r.set p.1 (Sl.v p.2)) r).length=(i8 Y a ρ).length/\∀i,Y.length<=i->(σ.foldl (λr p=>r.set p.1 (Sl.v p.2)) r)[i]?=(i8 Y a ρ)[i]?:=by
  intro σ;induction σ with
  |nil=>intro r _ b d;exact⟨b,d⟩
  |cons p σ l=>intro r g b d;refine l _ (λq m=>g q (aAe _ m)) (by rw[List.length_set];exact b) λi k=>?_;have:=g p aBp;rw[aCD (by lia)];exact d i k
 obtain⟨b,d⟩:=f σ _ h rfl λ_ _=>rfl;refine⟨b,λi n e o=>?_⟩;by_cases k:i<Y.length
 .have:n=.no:=by
   rcases V8 e with z|⟨j,_,s,_⟩
   .exact z
   .lia
  exact absurd this o
 .rw[d i (by lia)];exact e
def AV:∀d ρ1,gG 2 (T8 (λd ρ=>.ok (ρ.set 0 (.v d))) (T8 (λd ρ=>.ok (ρ.set 1 (.v d))) nJ)) d (i8 [x,y] e ρ)=.ok ρ1->nR ρ1 (i8 [x,y] e ρ):=λd ρ1 h=>by
 have f:∀g:List D,g.length=2->T8 (λd ρ=>.ok (ρ.set 0<|.v d)) (T8 (λd ρ=>.ok (ρ.set 1<|.v d)) nJ) g (i8 [x,y] e ρ)=.ok ρ1->nR ρ1 (i8 [x,y] e ρ)
  |[a,b],_,h=>by cases h;exact FX (Y:=[x,y]) [(0,a),(1,b)] (by simp)
 unfold gG at h;split at h
 .split at h
  .exact f _ ‹_› h
  .cases h
 .split at h
  .exact f _ ‹_› h
  .cases h
 .cases h
end DL
namespace DL.Att2
open PySem PySem.W PySem.Calls PyProof.Rows
def attach_bits {l:OpenLaw}{n:Nat}{q:ba}{b:List Str}{u:(Str->Option ao)->bt->Prop}{v:be->bt->Prop}{d:DefRec}
  (B:l.most=some n) (m:d.params.defaults=[])
  (call:∀(w:be) (p e:aA) (mg s:cV) (fa:a5) (o:Obj) (t cd h:ao) (a:a5) (L:List ao) (ns:List Int),
   Ground q b [] u w p mg s e.heap->v w e.heap->
   e.heap.get? fa=some o->o.data=.func (docDef d.name d.params d.body d.scope t cd h)->e.heap.CodeRec cd d.name->mg d.name=some (.ref fa)->
   e.heap.get? a=some {cls:=.type "list",data:=.seq L.toArray}->IntsAre L ns->ns.length<=n->(∀x∈ns,aBd x<=1048576)->e.gens=#[]->
   fg (a9 l.prog w) callerA (.call (.ref fa) ⟨[.ref a],[]⟩) (λr s'=>r=.ok (.ret (.bool true))/\OldK e.heap s'.heap/\s'.os=e.os/\AllBare s'.gens) e):
  WalkO q b u v l.row.toRowW d [] (λf L=>PySem.call f L):=by
 intro w p e mg s G Y fa o t cd h C kV E H I y J N z A as O g Q T U;obtain rfl:C=.none:=Dflts.none y m;obtain rfl:kV=.none:=Dflts.noKw y;obtain⟨a,L,ns,rfl,rfl,j,i,k⟩:=Att.script_of B O T;have hb:=DL.yQ (ns:=ns) (by first|exact g|exact g.1|(simpa using g));refine enter_call (aDS (call w p e mg s fa o t cd h a L ns G Y E (fd_plain H) I J j i k hb N) λr s' hq=>?_);obtain⟨rfl,h2,h3,h4⟩:=hq;exact⟨.inl ⟨.bool true,.bool true,[],rfl,λ_=>rfl,.bool true,Att.post_true l _,λ_=>⟨aGs,λ_ hm=>(nomatch hm)⟩⟩,h2,h3,h4⟩
end DL.Att2
namespace DL
open PySem PySem.Spec L2
open PyProof.Rows hiding St
variable [Tabs]
end DL
namespace DL
open PySem L2
abbrev bits (a:Int):Nat:=aBd a
def j9 (h:v6 a b):pR (.int a) (.int b)=.ok (.int (a*b)):=jk h
def kR (h:tU b):R8 (.int a) (.int b)=.ok (.int (a.fdiv b)):=jk h
def rN (h:b≠0):gU (.int a) (.int b)=.ok (.int (a.fmod b)):=jk h
def MG (h:0<=b/\b<=1000000/\a.natAbs<2^64):qS (.int a) (.int b)=.ok (.int (a^b.toNat)):=jk h
def v6.of (d:bits a<=m)(e:bits b<=n)(f:m<=60000000:=by decide)(g:n<=60000000:=by decide):v6 a b:=⟨aAs d f,aAs e g⟩
def bits_add (d:bits a<=n)(e:bits b<=n):bits (a+b)<=n+1:=by have:=PyProof.Rows.bits_add d e;rw[Nat.max_self]at this;exact this
def bits_sub (d:bits a<=n)(e:bits b<=n):bits (a-b)<=n+1:=by have:=PyProof.Rows.bits_sub d e;rw[Nat.max_self]at this;exact this
def bits_mul (d:bits a<=m)(e:bits b<=n):bits (a*b)<=m+n:=PyProof.Rows.bits_mul d e
def bits_neg (b:bits a<=m):bits (-a)<=m:=PyProof.Rows.bits_neg b
def HL (h:a.natAbs<2^n):bits a<=n:=PyProof.Rows.intBits_le h
def IG (h:bits a<=n):a.natAbs<2^n:=PyProof.Rows.lt_pow_of_bits h (aAj n)
@[simp]def C4 (d:D)(ρ:Ev):bL 0 (Sl.v d::ρ)=.ok d:=rfl
@[simp]def L3 (i:Nat)(x:Sl)(ρ:Ev):bL (i+1) (x::ρ)=bL i ρ:=rfl
@[simp]def D3 (d:D)(ρ:Ev):rY 0 (Sl.v d::ρ)=.ok d:=rfl
@[simp]def EY (d:List D)(ρ:Ev):rY 0 (Sl.o d::ρ)=.ok (.lst d):=rfl
@[simp]def E9 (i:Nat)(x:Sl)(ρ:Ev):rY (i+1) (x::ρ)=rY i ρ:=rfl
@[simp]def D9 (d:D)(ρ:Ev):YJ d ρ=.ok d:=rfl
@[simp]def A3 (ρ:Ev)(F:Ev->R Out):D6 (.ok (.nx ρ)) F=F ρ:=rfl
@[simp]def a1h (d:D)(F:Ev->R Out):D6 (.ok (.rt d)) F=.ok (.rt d):=rfl
@[simp]def a2d (d:D):R1 (.ok (.rt d))=.ok d:=rfl
@[simp]def a2g (ρ:Ev):R1 (.ok (.nx ρ))=.ok .non:=rfl
@[simp]def o6 (f:Ev->R D)(g:Ev->R (List D))(ρ:Ev):t5 f g ρ=(f ρ).bind λd=>(g ρ).bind λds=>.ok (d::ds):=rfl
@[simp]def u7 (ρ:Ev):U5 ρ=.ok []:=rfl
@[simp]def a4h (a:D):nV [a]=.ok (.tup [a]):=rfl
@[simp]def a4o (a b:D):nV [a,b]=.ok (.tup [a,b]):=rfl
@[simp]def a0f (a b c:D):nV [a,b,c]=.ok (.tup [a,b,c]):=rfl
@[simp]def a5e (a b c d:D):nV [a,b,c,d]=.ok (.tup [a,b,c,d]):=rfl
@[simp]def zx (a:D):CN [a]=.ok (.lst [a]):=rfl
@[simp]def a4k (a b:D):CN [a,b]=.ok (.lst [a,b]):=rfl
@[simp]def a4z (x y z:D):T0 (.tup [x,y,z]) (.int 0)=.ok x:=rfl
@[simp]def a4n (x y z:D):T0 (.tup [x,y,z]) (.int 1)=.ok y:=rfl
@[simp]def a4i (x y z:D):T0 (.tup [x,y,z]) (.int 2)=.ok z:=rfl
@[simp]def a4p (x y z t:D):T0 (.tup [x,y,z,t]) (.int 0)=.ok x:=rfl
@[simp]def a4v (x y z t:D):T0 (.tup [x,y,z,t]) (.int 1)=.ok y:=rfl
@[simp]def a5c (x y z t:D):T0 (.tup [x,y,z,t]) (.int 2)=.ok z:=rfl
@[simp]def a4y (x y z t:D):T0 (.tup [x,y,z,t]) (.int 3)=.ok t:=rfl
@[simp]def a4s (x y:D):T0 (.tup [x,y]) (.int 0)=.ok x:=rfl
@[simp]def a5a (x y:D):T0 (.tup [x,y]) (.int 1)=.ok y:=rfl
def gM (h:rP Y i=some d):T0 (.lst Y) (.int i)=.ok d:=by simp only[T0,h]
def NF {Y:List D}{i:Int}{d:D}(h:rP Y i=some d):T0 (.tup Y) (.int i)=.ok d:=by simp only[T0,h]
@[simp]def kB (a b:Int):mJ (.int a) (.int b)=.ok (.int (a+b)):=rfl
@[simp]def Y4 (a b:Int):MD (.int a) (.int b)=.ok (.int (a-b)):=rfl
@[simp]def QI (a b:Int):xy (.int a) (.int b)=.ok (.bl (decide (a<b))):=rfl
@[simp]def pD (a b:Int):leR (.int a) (.int b)=.ok (.bl (decide (a<=b))):=rfl
@[simp]def rD (a b:Int):tz (.int a) (.int b)=.ok (.bl (decide (b<a))):=rfl
@[simp]def a3x (a:Int):a1v (.int a)=.ok (.int (-a)):=rfl
@[simp]def uC (b:Bool):xU (.bl b)=.ok b:=rfl
@[simp]def a0p (b:Int):toI (.int b)=.ok (some b):=rfl
@[simp]def DU (Y:List D):tE [.lst Y]=.ok (.int Y.length):=rfl
@[simp]def PV (a:Int):a0n [.int a]=.ok (.int (if a<0 then-a else a)):=rfl
@[simp]def wY (f g:Ev->R Bool)(ρ:Ev):yV f g ρ=(f ρ).bind λb=>if b=true then g ρ else .ok false:=rfl
@[simp]def a3l (f g:Ev->R Bool)(ρ:Ev):orB f g ρ=(f ρ).bind λb=>if b=true then .ok true else g ρ:=rfl
@[simp]def xE (a b:Int):SG (.int a) (.int b)=.ok (.bl (a==b)):=by simp only[SG,F5,x9];rfl
@[simp]def TV (a b:Int):DH (.int a) (.int b)=.ok (.bl (!(a==b))):=by simp only[DH,F5,x9];rfl
@[simp]def pz (a b c d e f:Int):SG (.tup [.int a,.int b,.int c]) (.tup [.int d,.int e,.int f])=.ok (.bl (a==d&&(b==e&&c==f))):=by simp[SG,F5,J3,x9,aK]
@[simp]def CI (a b c d e f:Int):DH (.tup [.int a,.int b,.int c]) (.tup [.int d,.int e,.int f])=.ok (.bl (!(a==d&&(b==e&&c==f)))):=by simp[DH,F5,J3,x9,aK]
def cP {α:Type}{Y:List α}{k:Int}(h0:0<=k):rP Y k=Y[k.toNat]?:=by
 unfold rP YW;rw[jk h0];by_cases h:k<Y.length
 .rw[jk h];rfl
 .rw[ka h,aCt.mpr (by omega)];rfl
def iR (n:Nat)(Y:List D):Prop:=∀x∈Y,∃i,x=.int i/\bits i<=n
def VW {n:Nat}{ns:List Int}(h:∀x∈ns,bits x<=n):iR n (ns.map D.int):=λx a=>by obtain⟨i,b,rfl⟩:=aAk.mp a;exact⟨i,rfl,h i b⟩
def AN (g:Int->Int)(Y:List D)(k:Int):D:=match Y[k.toNat]? with
 |some d=>d
 |none=>.int (g k)
def u5 (b:-((2:Int)^n)<a)(d:a<(2:Int)^n):bits a<=n:=HL (by
 have e:((2^n:Nat):Int)=(2:Int)^n:=by simp
 omega)
def bits_fmod {a b:Int}{n:Nat}(h0:b≠0)(d:bits b<=n):bits (a.fmod b)<=n:=PyProof.Rows.bits_fmod_by h0 d
def bits_fdiv (d:bits a<=n):bits (a.fdiv b)<=n:=PyProof.Rows.bits_fdiv d
def f7 (h:bits a<=m)(b:m<=n:=by decide):bits a<=n:=aAs h b
@[simp]def K8 (Y:List D):kD (.lst Y)=.ok Y:=rfl
@[simp]def uV (Y:List D):GJ (.tup Y)=.ok Y:=rfl
@[simp]def kw (G:D->Ev->R Ev)(ft:Ev->R Bool)(fe:Ev->R D)(ρ:Ev):w8 G ft fe ρ []=.ok []:=rfl
@[simp]def cy (i:Nat)(ft:Ev->R Bool)(fe:Ev->R D)(ρ:Ev)(d:D)(ds:List D):w8 (λd ρ=>.ok (ρ.set i (Sl.v d))) ft fe ρ (d::ds)=(ft (ρ.set i (Sl.v d))).bind λb=>if b=true then(fe (ρ.set i (Sl.v d))).bind λr=>(w8 (λd ρ=>.ok (ρ.set i (Sl.v d))) ft fe ρ ds).bind λa=>.ok (r::a)else w8 (λd ρ=>.ok (ρ.set i (Sl.v d))) ft fe ρ ds:=rfl
@[simp]def a1y (d:D):seen (.v d)=.v d:=rfl
def YY (x:D)(r:List D):T0 (.tup (x::r)) (.int 0)=.ok x:=NF (by rw[cP (by decide)];rfl)
def ZC (x y:D)(r:List D):T0 (.tup (x::y::r)) (.int 1)=.ok y:=NF (by rw[cP (by decide)];rfl)
def YI (x y z:D)(r:List D):T0 (.tup (x::y::z::r)) (.int 2)=.ok z:=NF (by rw[cP (by decide)];rfl)
theorem iY (Iv:Nat->Ev->Prop)(b:∀n ρ,Iv (n+1) ρ->c ρ=.ok false\/(c ρ=.ok true/\∃ρ2,F ρ=.ok (.nx ρ2)/\Iv n ρ2))(a:∀ρ,¬Iv 0 ρ):∀n ρ,Iv n ρ->∃m ρ',S9 c F n ρ=.ok (.nx ρ')/\Iv m ρ'/\c ρ'=.ok false
 |0,ρ,h=>absurd h (a ρ)
 |n+1,ρ,h=>by
  rcases b n ρ h with e|⟨e,ρ2,d,f⟩
  .exact⟨n+1,ρ,by rw[S9,e];rfl,h,e⟩
  .obtain⟨m,ρ',g,i,j⟩:=iY Iv b a n ρ2 f;exact⟨m,ρ',by rw[S9,e];simp only[R.aa0,if_true,d];exact g,i,j⟩
def KL {Iv:Nat->Ev->Prop}(b:∀n ρ,Iv (n+1) ρ->c ρ=.ok false\/(c ρ=.ok true/\∃ρ2,F ρ=.ok (.nx ρ2)/\Iv n ρ2))(h0:Iv n ρ)(f:∀n ρ',Iv n ρ'->c ρ'=.ok false->R1 (g ρ')=.ok d)(a:∀ρ,¬Iv 0 ρ:=by(intro ρ;rintro⟨x,y,_,z,_⟩;omega)):
  R1 (D6 (S9 c F n ρ) g)=.ok d:=by
 obtain⟨m,ρ',e,h,i⟩:=iY Iv b a n ρ h0;rw[e];exact f m ρ' h i
end DL
namespace DL
open PySem PySem.Spec L2
open PyProof.Rows hiding St
section
variable [Tabs]
section
variable{K:kc}
def EnvOk.ae1 (E:EnvOk K e f H O σ ρ)(i:Nat)(h:H a=none)(d:K.lookup a=none)(r:Reps K H O L Y):
  EnvOk K e f (upd H a (.lst L)) (λb=>O b\/b=a) (σ.set i (some (.ref a))) (ρ.set i (.o Y)):=
 E.ad2 i h d trivial λg=>⟨a,L,rfl,.inr rfl,g,j8,r.ab7 h d⟩
def EnvOk.disown (E:EnvOk K f g H O σ ρ)(e:ρ[i]?=some (.o Y)):∃d,EnvOk K f g H d σ (ρ.set i (.v (.lst Y)))/\(∀b,d b->O b):=by obtain⟨a,L,h,l,m,j,k⟩:=E.own i Y e;exact⟨λb=>O b/\b≠a,E.ae7 e trivial h (λz=>z) ⟨.ref a,rfl,.lst (P4.of j) (λz=>z.2 rfl) (k.sub λ_ z=>z.1)⟩,λb z=>z.1⟩
def EnvOk.write (E:EnvOk K j k H O σ ρ)(e:ρ[i]?=some (.o Y))(b:σ[i]?=some (some (V.ref a)))(r:Reps K H O d l):
  EnvOk K j k (upd H a (.lst d)) O σ (ρ.set i (.o l))/\Kp H O (upd H a (.lst d)) O:=by
 obtain⟨f,L,m,g,n,h,q⟩:=E.own i Y e;have p:f=a:=by rw[m]at b;cases b;rfl
 subst p;exact E.ae4 e trivial b h trivial trivial λ_ _ _=>⟨f,d,rfl,g,n,j8,r.upd h trivial g⟩
end
section
def tF (X:Cx)(f:Ev->R (List D)):TE:=λσ H Q=>∃g h O ρ,EnvOk X.K g h H O σ ρ/\match f ρ with
 |.ok i=>∀L b a,Same H b->b a=none->Reps X.K b O L i->Q (.ref a) (upd b a<|.lst L)
 |.ex e=>∀d,Same H d->XW X e d
 |.bad=>False
def PF (X:Cx)(e:cf)(f:Ev->R (List D)):Prop:=PE X e (tF X f)
def HZ (I:Inv X b σ H s)(h:H a=some o):X.K.lookup a=none:=by
 cases e:X.K.lookup a with
 |none=>rfl
 |some d=>have:=(I.bs a d<|I.ok.mod.kin a d e).2;rw[h]at this;cases this
def PF.pd (h:PF X e f):PD X e (λρ=>(f ρ).bind λds=>.ok (.lst ds)):=VZ h λσ H Q i j O ρ E q=>⟨i,j,O,ρ,E,by
 dsimp only at q;cases b:f ρ with
 |ok ds=>rw[b]at q;intro L k a g d r;exact q _ _ (g.trans<|l9 d _) (.lst (P4.of j8) ((E.grow g).fresh d) (r.same<|l9 d _))
 |ex x=>rw[b]at q;exact q
 |bad=>rw[b]at q;exact q⟩
def kZ (h:IV X es f):PF X (.List es e) (λρ=>(f ρ).bind λds=>if ds.length<=sizeLine then .ok ds else .bad):=
 VZ (QH h) λσ H Q g i O ρ E q=>⟨g,i,O,ρ,E,by
  dsimp only at q;cases a:f ρ with
  |ok ds=>
   rw[a,R.aa0]at q;intro L j k d;by_cases b:ds.length<=sizeLine
   .rw[jk b]at q;exact⟨by rw[d.length];exact b,λp l=>q L j p k l d⟩
   .rw[ka b]at q;exact aAh q
  |ex x=>rw[a]at q;exact q
  |bad=>rw[a]at q;exact q⟩
def cM (i:Nat)(J:PF X e f)(Q:X.N.Nodup)(T:X.N[i]?=some x:=by rfl)(U:Loc X.env.scope x:=by first|exact aCw rfl|exact aBK rfl)(Y:dA e (some (.Name x g)) m.line X.env=pure false:=by rfl)(hf:X.fn x=true\/X.env.scope.names.lookup x=some .local:=by first|exact .inl rfl|exact .inr rfl|assumption):
  oG X (.Assign [.Name x g] e m) (λρ=>(f ρ).bind λds=>.ok (.nx (ρ.set i (.o ds)))):=by
 rintro u w h s σ H D I ⟨O,ρ,E,fk,q⟩;dsimp only at q;refine aEi (G5 (J h s σ H (λv A=>∃L d a ds,v=.ref a/\A=upd d a (.lst L)/\Same H d/\d a=none/\Reps X.K d O L ds/\RS X u w H O (.ok (.nx (ρ.set i<|.o ds))) D) I ⟨u,w,O,ρ,E,?_⟩) λv B z9=>?_) Y
 .cases j:f ρ with
  |ok ds=>rw[j,R.aa0]at q;exactλL d a B k r=>⟨L,d,a,ds,rfl,rfl,B,k,r,q⟩
  |ex x=>rw[j]at q;exactλH' s=>q H' (E.same.trans s)
  |bad=>rw[j]at q;exact q
 .obtain⟨y,A,p,r2,L,d,a,ds,j,e2,l,k,r,q'⟩:=z9;subst j e2;refine M8 p Q T U r2 (λs3 I3=>⟨_,_,I3,?_⟩) hf;have hk:=HZ p (j8 (H:=d) (a:=a) (o:=.lst L));have C:=(E.grow l).ae1 i k hk r;refine q' _ _ _ C (lQ p _ C.trk) ?_;exactλb o t n=>⟨by rw[m9 (u9 (l b o t) k)];exact l b o t,λz=>z.elim n (u9 (l b o t) k)⟩
def FQ (i:Nat)(ρ:Ev):Ev:=match ρ[i]? with
 |some (.o Y)=>ρ.set i (.v (.lst Y))
 |_=>ρ
def vU (i:Nat){st:bM}(h:oG X st F):oG X st (λρ=>F (FQ i ρ)):=by
 intro g j f s σ H D I ⟨O,ρ,E,k,q⟩;dsimp only at q;unfold FQ at q;cases e:ρ[i]? with
 |none=>rw[e]at q;exact h g j f s σ H D I ⟨O,ρ,E,k,q⟩
 |some l=>
  rw[e]at q;cases l with
  |x C=>exact h g j f s σ H D I ⟨O,ρ,E,k,q⟩
  |c m φ=>exact h g j f s σ H D I ⟨O,ρ,E,k,q⟩
  |d N=>exact h g j f s σ H D I ⟨O,ρ,E,k,q⟩
  |no=>exact h g j f s σ H D I ⟨O,ρ,E,k,q⟩
  |v d=>exact h g j f s σ H D I ⟨O,ρ,E,k,q⟩
  |o Y=>obtain⟨p,r,sub⟩:=E.disown e;exact h g j f s σ H D I ⟨p,_,r,λa o t z=>k a o t (sub a z),RS.grow q λb o u n=>⟨u,λz=>n (sub b z)⟩⟩
def BC (i:Nat)(ρ:Ev)(d:D):R Out:=match ρ[i]? with
 |some (.o Y)=>if Y.length<sizeLine then .ok (.nx (ρ.set i<|.o (Y++[d])))else .bad
 |_=>.bad
def W9 (i:Nat)(y:PD X e f)(z:X.N[i]?=some x:=by rfl)(A:yD X.env.scope x:=by first|exact aCw rfl|exact aBK (aCw rfl)|exact aBK (aBK rfl))(B:(x==kd)=false:=by decide)(I:(x==km)=false:=by decide)(J:eY (.Name x p) "append" X.env (cv (.Name x p) X.env)=cv (.Name x p) X.env:=by rfl)(Q:((cp g (az [e] X.env)).all (λx=>!x.1)&&(backToKw g (keywordEach [] X.env)).all (λx=>x.1.isSome)
   &&decide ([e].length+([]:List Keyword).length+(if([]:List Keyword).isEmpty then 0 else 1)<30))=true:=by rfl) (T:(b.endLine==g.line)=true:=by rfl) (r:az [e] X.env=(false,cv e X.env)::az [] X.env:=by rfl) (U:(cp g (az [] X.env)).any (·.1)=false:=by rfl) (sv:dA (.Call (.Attribute (.Name x p) "append" b) [e] [] g) none l.line X.env=pure false:=by rfl):
  oG X (.Expr (.Call (.Attribute (.Name x p) "append" b) [e] [] g) l) (λρ=>(f ρ).bind (BC i ρ)):=λH9 O0=>
 BY (jP (ZG PySem.F.plainAttrs_list PySem.F.slot_list_append PySem.F.type_list_append uX (M1 z A B I) (i6 y o7 r) J Q T r U) sv) λD σ H O ρ E fk q=>by
 cases j:f ρ with
 |ok d=>
  rw[j,R.aa0]at q;unfold BC at q;cases h:ρ[i]? with
  |none=>rw[h]at q;exact aAh q
  |some s=>
   rw[h]at q;cases s with
   |x C=>exact aAh q
   |c m φ=>exact aAh q
   |d N=>exact aAh q
   |no=>exact aAh q
   |v d=>exact aAh q
   |o Y=>
    dsimp only at q;split at q
    .rename_i hz;obtain⟨a,L,t,h2,h3,u,w⟩:=E.own i Y h;refine⟨_,t,.inl ⟨rfl,L,P4.of u⟩,H9,O0,O,ρ,E,?_⟩;show JU X H O ((f ρ).bind λd=>(R.ok []).bind λds=>.ok (d::ds)) _;rw[j];intro us H1 k n;cases n with
     |cons n rn=>cases rn;have E1:=E.grow k;refine⟨a,L,_,rfl,rfl,k _ _ u,by rw[w.length];exact hz,?_⟩;obtain⟨E2,k2⟩:=E1.write h t ((w.same k).snoc n);exact q σ _ O E2 fk ((Kp.of k).trans k2)
    .exact aAh q
 |ex x=>
  rw[j]at q;cases h:ρ[i]? with
  |none=>exact(q H E.same).elim
  |some s=>exact(q H E.same).elim
 |bad=>rw[j]at q;exact aAh q
def oj (i:Nat)(ρ:Ev)(d:D):R Out:=match ρ[i]?,d with
 |some (.o Y),.lst a=>if Y.length+a.length<=sizeLine then .ok (.nx (ρ.set i<|.o (Y++a)))else .bad
 |_,_=>.bad
def CL (i:Nat)(ρ:Ev):R (D×Ev):=match ρ[i]? with
 |some (.o Y)=>match Y[Y.length-1]? with
  |some d=>.ok (d,ρ.set i (.o Y.dropLast))
  |none=>.bad
 |_=>.bad
def YF (i:Nat)(n:X.N[i]?=some x:=by rfl)(r:yD X.env.scope x:=by first|exact aCw rfl|exact aBK (aCw rfl)|exact aBK (aBK rfl))(s:(x==kd)=false:=by decide)(t:(x==km)=false:=by decide)(u:eY (.Name x p) "pop" X.env (cv (.Name x p) X.env)=cv (.Name x p) X.env:=by rfl)(w:(b.endLine==j.line)=true:=by rfl)(y:dA (.Call (.Attribute (.Name x p) "pop" b) [] [] j) none f.line X.env=pure false:=by rfl):
  oG X (.Expr (.Call (.Attribute (.Name x p) "pop" b) [] [] j) f) (λρ=>(CL i ρ).bind λz=>.ok (.nx z.2)):=λT U=>
 BY (jP (FW PySem.F.plainAttrs_list PySem.F.slot_list_pop PySem.F.type_list_pop RN (M1 n r s t) u w) y) λD σ H O ρ E A q=>by
 unfold CL at q;cases e:ρ[i]? with
 |none=>rw[e]at q;exact aAh q
 |some B=>
  rw[e]at q;cases B with
  |x C=>exact aAh q
  |c m φ=>exact aAh q
  |d N=>exact aAh q
  |no=>exact aAh q
  |v d=>exact aAh q
  |o Y=>
   dsimp only at q;cases g:Y[Y.length-1]? with
   |none=>rw[g]at q;exact aAh q
   |some d=>rw[g]at q;obtain⟨a,L,k,h2,h3,l,h⟩:=E.own i Y e;obtain⟨v,I,g2⟩:=h.get g;refine⟨_,k,.inl ⟨rfl,L,P4.of l⟩,a,L,v,rfl,rfl,l,by rw[h.length];exact I,?_⟩;obtain⟨J,Q⟩:=E.write e k h.dropLast;exact q σ _ O J A Q
def DN (j i:Nat)(f:X.N.Nodup)(jo:i≠j:=by decide)(w:X.N[i]?=some x:=by rfl)(A:X.N[j]?=some y:=by rfl)(B:yD X.env.scope x:=by first|exact aCw rfl|exact aBK (aCw rfl)|exact aBK (aBK rfl))(I:(x==kd)=false:=by decide)(J:(x==km)=false:=by decide)(Q:eY (.Name x p) "pop" X.env (cv (.Name x p) X.env)=cv (.Name x p) X.env:=by rfl)(T:(b.endLine==n.line)=true:=by rfl)(g:Loc X.env.scope y:=by first|exact aCw rfl|exact aBK rfl)(U:dA (.Call (.Attribute (.Name x p) "pop" b) [] [] n) (some (.Name y py)) h.line X.env=pure false:=by rfl)(hf:X.fn y=true\/X.env.scope.names.lookup y=some .local:=by first|exact .inl rfl|exact .inr rfl|assumption):
  oG X (.Assign [.Name y py] (.Call (.Attribute (.Name x p) "pop" b) [] [] n) h) (λρ=>(CL i ρ).bind λz=>.ok (.nx (z.2.set j (.v z.1)))):=λH9 O0=>
 BY (ME f A g (FW PySem.F.plainAttrs_list PySem.F.slot_list_pop PySem.F.type_list_pop RN (M1 w B I J) Q T) U hf) λD σ H O ρ E r q=>by
 unfold CL at q;cases e:ρ[i]? with
 |none=>rw[e]at q;exact aAh q
 |some sl=>
  rw[e]at q;cases sl with
  |x C=>exact aAh q
  |c m φ=>exact aAh q
  |d N=>exact aAh q
  |no=>exact aAh q
  |v d=>exact aAh q
  |o Y=>
   dsimp only at q;cases k:Y[Y.length-1]? with
   |none=>rw[k]at q;exact aAh q
   |some d=>rw[k]at q;obtain⟨a,L,s,h2,h3,t,l⟩:=E.own i Y e;obtain⟨v,g1,g2⟩:=l.get k;refine⟨_,s,.inl ⟨rfl,L,P4.of t⟩,a,L,v,rfl,rfl,t,by rw[l.length];exact g1,?_⟩;obtain⟨E2,u⟩:=E.write e s l.dropLast;exact q _ _ O (E2.set j<|u.rep E.trk r g2) r u
def KO (i:Nat)(own fr:List Str)(U:List Nat)(hN:X.N.Nodup)(hc:X.calm=true)(S:CompSc X f own fr U)(hi:XV X tg iter fi)(hX:∀(g:R0) (fp:List a5) (X':Cx),(∃s9 Ha C,X'=FN X g s9 Ha (own++fr) f (cN X f C) C fp)->IU X' tg G/\UB X' k ft/\PD X' l fe)(hG:∀ρ d ρ1,G d (i8 own U ρ)=.ok ρ1->nR ρ1 (i8 own U ρ))(hy:X.N[i]?=some y:=by rfl)(Y:X.env.scope.names.lookup y=some .local:=by rfl)(sv:dA (.ListComp l [⟨tg,iter,k,0⟩] f pos) (some (.Name y py)) spos.line X.env=pure true:=by rfl)(hs:∀x,dC iter X.env x=pure x:=by intro _;rfl):
  oG X (.Assign [.Name y py] (.ListComp l [⟨tg,iter,k,0⟩] f pos) spos) (λρ=>((fi ρ).bind λds=>if ds.length<=sizeLine then(w8 G ft fe (i8 own U ρ) ds).bind λh=>R.ok h else .bad).bind λh=>.ok (.nx (ρ.set i (.o h)))):=by
 rintro H9 O0 g s σ H D I ⟨O,ρ,E,fk,q⟩;dsimp only at q;rw[exec_Assign_Name_used _ _ _ _ sv];refine aAa (aEC<|aAa ?_);show av _ X.A (do let _<-comprehension (.ListComp l [⟨tg,iter,k,0⟩] f pos) f X.env _ (newList []) false (cv iter X.env) (some<|gB (.Name y py) X.env)) _ _ s;refine aAa (aCI (aDU (use:=some (gB (.Name y py) X.env)) (Q:=λ_ t=>SP X g D .next t) rfl hs (aL<|Inv.aa9 I S) S.kind S.names ?_) (λ_ t hq=>aAb (aAb hq)) λ_ _ e=>e);refine G5 (hi g s σ H (λJ H1=>∃ds h,Same H H1/\ZI X.K J H1 O ds/\ds.length<=sizeLine/\w8 G ft fe (i8 own U ρ) ds=.ok h/\RS X H9 O0 H O (.ok (.nx (ρ.set i<|.o h))) D) I ⟨H9,O0,O,ρ,E,lQ I O E.trk,?_⟩) λv s1 h1=>G5 h1 λitv s2 h2=>?_
 .cases e1:fi ρ with
  |ex x=>rw[e1]at q;exactλH' s=>q H' (E.same.trans s)
  |bad=>rw[e1]at q;exact q
  |ok ds=>
   rw[e1,R.aa0]at q;intro J H1 s1 hJ;split at q
   .rename_i hl;cases e2:w8 G ft fe (i8 own U ρ) ds with
    |ex x=>rw[e2]at q;exact(q H E.same).elim
    |bad=>rw[e2]at q;exact q.elim
    |ok h=>rw[e2]at q;exact⟨ds,h,s1,hJ,hl,e2,q⟩
   .exact q.elim
 .obtain⟨it,fp,tn,J,H2,e,I2,T,ki,f2,ds,h,sm,hJ,hl,hrs,q⟩:=h2;subst e;refine pS (RR:=λB C=>compPost (a9 X.prog X.w) X.A X.xe (some<|gB (.Name y py) X.env) (λ_ t=>SP X g D .next t) B C) hc S (hX g fp) (hG ρ) I2 T ki f2 (E.grow sm) hJ.c hrs hl ?_;intro B C t H' m hn hCa j has sm' r nw hC hI;have I3:=hI t.heap (aGx ..);show av _ X.A (gB (.Name y py) X.env<|.ref B) _ _ t;refine wpAny_assign_Name (vI (i:=i) (v:=.ref B) I3 hN hy (.inl Y) rfl (λs4 I4 z9=>?_)<|.inr Y);obtain⟨a,hsb,ha⟩:=z9;have ir:∀x c,X.env.cells.lookup x=some c->c≠C:=λx c hc=>by obtain⟨v,hv⟩:=I2.cell x c hc;exact aAl (aAv hv.lt j)
  have hCL:C≠X.env.locals:=aCR (aAv I2.lt j);have hCa2:C≠a:=by
   rcases ha with ha|ha
   .rw[ha];exact hCL
   .exact aCA (ir y a ha)
  refine⟨m,hn.sameBut hsb hCa2,λh' jn=>?_⟩;obtain⟨H1,L,pf,u,eH,rr⟩:=nw;subst eH;have E2:=((E.grow sm).grow pf).ae1 i u (HZ I3<|j8 (H:=H1) (a:=B) (o:=.lst L)) rr;refine⟨_,_,?_,q _ _ _ E2 (lQ I3 _ E2.trk) λb o hb n=>⟨by rw[m9 (u9 ((sm.trans pf) b o hb) u)];exact(sm.trans pf) b o hb,λz=>z.elim n (u9 ((sm.trans pf) b o hb) u)⟩⟩;exact I4.turned (t':=s4.toks) (it:=C) (λb o hb e=>(jn.2 b hb).trans e) hC hCL (.inr (aAs I2.sz j)) ir λp hp=>aAl (aAv (aAf (I2.pin p hp).1) j)
def jE (i:Nat)(own s:List Str)(g:List Nat)(hN:X.N.Nodup)(hc:X.calm=true)(S:CompSc X f own s g)(t:XV X u iter Q)(hX:∀(h:R0) (fp:List a5) (p:Cx),(∃s9 Ha C,p=FN X h s9 Ha (own++s) f (cN X f C) C fp)->IU p u G/\UB p j ft/\PD p l fe)(hG:∀ρ d ρ1,G d (i8 own g ρ)=.ok ρ1->nR ρ1 (i8 own g ρ))(hy:X.N[i]?=some y:=by rfl)(w:X.env.scope.names.lookup y=some .local:=by rfl)(sv:dA (.ListComp l [⟨u,iter,j,0⟩] f A) (some (.Name y py)) m.line X.env=pure true:=by rfl)(hs:∀x,dC iter X.env x=pure x:=by intro _;rfl):
  oG X (.Assign [.Name y py] (.ListComp l [⟨u,iter,j,0⟩] f A) m) (λρ=>((Q ρ).bind λds=>if ds.length<=sizeLine then(w8 G ft fe (i8 own g ρ) ds).bind λr=>.ok (D.lst r)else .bad).bind λd=>.ok (.nx (ρ.set i (.v d)))):=λT U=>BY (KO i own s g hN hc S t hX hG hy w sv hs T U) λD σ H O ρ E fk q=>⟨O,ρ,E,fk,by
 dsimp only at q⊢;cases B:Q ρ with
 |ex x=>rw[B]at q;exact q
 |bad=>rw[B]at q;exact q
 |ok ds=>
  rw[B,R.aa0]at q;rw[R.aa0];by_cases hl:ds.length<=sizeLine
  .rw[jk hl]at q⊢;cases I:w8 G ft fe (i8 own g ρ) ds with
   |ex x=>rw[I]at q;exact q
   |bad=>rw[I]at q;exact q
   |ok r=>
    rw[I]at q;intro ah H' O' J f' L;by_cases t:i<ρ.length
    .obtain⟨O2,E2,sub⟩:=J.disown (i:=i) (Y:=r) (by rw[aBI t]);rw[List.set_set]at E2;exact q ah H' O2 E2 (λa o k z=>f' a o k (sub a z)) λb o hb n=>⟨(L b o hb n).1,λz=>(L b o hb n).2 (sub b z)⟩
    .have e:∀x,ρ.set i x=ρ:=λx=>List.set_eq_of_length_le (by lia);have q:RS X T U H O (.ok (.nx (ρ.set i<|.v (.lst r)))) D:=q;rw[e]at J q;exact q ah H' O' J f' L
  .rw[ka hl]at q;exact aAh q⟩
def mF {st:bM}:oG X st (λ_=>.bad):=λa b=>BY QZ λD σ H O ρ E d q=>q
end
end
section
theorem bS {α β:Type}[BEq α][LawfulBEq α]:∀{l:List (α×β)} {a:α} {b:β},(l.map (·.1)).Nodup->(a,b)∈l->l.lookup a=some b
 |(x,y)::l,a,b,h,f=>by
  rw[aAn,aAI]at h;rw[aBh];rcases aAd.mp f with e|d
  .cases e;simp
  .have:(a==x)=false:=by rw[beq_eq_false_iff_ne];rintro rfl;exact h.1 (aAk.mpr ⟨(a,b),d,rfl⟩)
   rw[this];exact bS h.2 d
theorem mem_lookup {α β:Type}[BEq α][LawfulBEq α]:∀{l:List (α×β)} {a:α} {b:β},l.lookup a=some b->(a,b)∈l
 |(x,y)::l,a,b,h=>by
  rw[aBh]at h;split at h
  .rename_i q;cases h;rw[eq_of_beq q];exact .head _
  .exact .tail _ (mem_lookup h)
def wC (o:Obj):Prop:=∃v,o.data=.cell v
def dG (H:Hp)(cs:R0):Hp:=λb=>match cs.lookup b with
 |some o=>some (.frz o (.own b))
 |none=>H b
def S5 (H:Hp)(cs:R0):Hp:=λb=>match cs.lookup b with
 |some _=>none
 |none=>H b
section
variable{K:kc}
def fW (e:cs.lookup b=some o):dG H cs b=some (.frz o (.own b)):=by unfold dG;rw[e]
def R7 (e:cs.lookup b=none):dG H cs b=H b:=by unfold dG;rw[e]
def cH (e:cs.lookup b=some o):S5 H cs b=none:=by unfold S5;rw[e]
def N4 (e:cs.lookup b=none):S5 H cs b=H b:=by unfold S5;rw[e]
def F9 (a:∀b o,cs.lookup b=some o->H b=none)(e:H b=some u):dG H cs b=some u:=by
 cases q:cs.lookup b with
 |none=>rw[R7 q];exact e
 |some o=>rw[a b o q]at e;cases e
def fK (a:∀b o,cs.lookup b=some o->H b=none):Same H (dG H cs):=λb u e=>F9 a e
def y8 (a:∀b o,cs.lookup b=some o->H b=some (.frz o (.own b)))(e:H b=some u)(ne:∀o,cs.lookup b=some o->u≠.frz o (.own b)):S5 H cs b=some u:=by
 cases q:cs.lookup b with
 |none=>rw[N4 q];exact e
 |some o=>rw[a b o q]at e;cases e;exact absurd rfl (ne o q)
def QA (x:gJ P w H h)(a:∀b o,cs.lookup b=some o->h.get? b=some o/\H b=none):gJ P w (dG H cs) h:=λb u e=>by
 have d:∀b o,cs.lookup b=some o->H b=none:=λb o q=>(a b o q).2;cases q:cs.lookup b with
 |some o=>rw[fW q]at e;cases e;exact⟨(a b o q).1,⟨o,(a b o q).1⟩⟩
 |none=>rw[R7 q]at e;exact(x b u e).ac0 (λ_ _ _ z=>z) (λc z=>F9 d z) λc u _ z=>F9 d z
def MY (x:gJ P w H h)(d:∀b o,cs.lookup b=some o->H b=some (.frz o (.own b))/\wC o):gJ P w (S5 H cs) h:=λb u e=>by
 have g:∀b o,cs.lookup b=some o->H b=some (.frz o (.own b)):=λb o q=>(d b o q).1;cases q:cs.lookup b with
 |some o=>rw[cH q]at e;cases e
 |none=>rw[N4 q]at e;refine(x b u e).ac0 (λ_ _ _ z=>z) (λc z=>y8 g z λo _ a=>by cases a) λc u f z=>y8 g z λo q a=>?_;subst a;obtain⟨L,j⟩:=f;obtain⟨v,i⟩:=(d c o q).2;rw[j]at i;cases i
def jx (U:Un fs [] (dG H cs) g h h')(k:gJ P w g h')(i:∀b o,cs.lookup b=some o->h.get? b=some o/\H b=none/\wC o):Un fs [] H (S5 g cs) h h'/\gJ P w (S5 g cs) h'/\∀b o,cs.lookup b=some o->g b=some (.frz o (.own b)):=by
 have j:∀b o,cs.lookup b=some o->H b=none:=λb o q=>(i b o q).2.1;have a:∀b o,cs.lookup b=some o->g b=some (.frz o (.own b)):=λb o q=>U.frzs b o _ (fW q);refine⟨⟨λb o e n l d=>?_,λb o e n l d=>?_,λb o e n d=>?_,λb o e d=>U.there b o e d,λb Y e=>?_,λb o u e=>?_,λb m e=>?_⟩,MY k λb o q=>⟨a b o q,(i b o q).2.2⟩,a⟩
 .cases q:cs.lookup b with
  |none=>exact U.keep b o e (by rw[R7 q];exact n) l d
  |some f=>have:=(i b f q).1;rw[e]at this;cases this;exact(k b _<|a b o q).1
 .cases q:cs.lookup b with
  |none=>exact U.slot b o e (by rw[R7 q];exact n) l d
  |some f=>have:=(i b f q).1;rw[e]at this;cases this;exact⟨o.slots,(k b _<|a b o q).1⟩
 .cases q:cs.lookup b with
  |none=>rw[N4 q];exact U.free b o e (by rw[R7 q];exact n) d
  |some f=>exact cH q
 .exact y8 a (U.tups b Y<|F9 j e) λo _ z=>by cases z
 .refine y8 a (U.frzs b o u<|F9 j e) λf q z=>?_;rw[j b f q]at e;cases e
 .exact y8 a (U.tbls b m<|F9 j e) λo _ z=>by cases z
def ak (U:Un fs [] (S5 H cs) f h h')(k:gJ P w f h')(i:∀b o,cs.lookup b=some o->h.get? b=some o/\H b=some (.frz o (.own b))/\b∉fs):Un fs [] H (dG f cs) h h'/\gJ P w (dG f cs) h'/\Same f (dG f cs):=by
 have j:∀b o,cs.lookup b=some o->H b=some (.frz o (.own b)):=λb o q=>(i b o q).2.1;have g:∀b o,cs.lookup b=some o->f b=none:=λb o q=>U.free b o (i b o q).1 (cH q) (by simp);have m:∀b o,cs.lookup b=some o->h'.get? b=some o:=λb o q=>U.keep b o (i b o q).1 (cH q) (i b o q).2.2 (by simp);have a:∀b,H b=none->cs.lookup b=none:=λb n=>by
  cases q:cs.lookup b with
  |none=>rfl
  |some o=>rw[j b o q]at n;cases n
 refine⟨⟨λb o e n l d=>U.keep b o e (by rw[N4 (a b n)];exact n) l d,λb o e n l d=>U.slot b o e (by rw[N4 (a b n)];exact n) l d,λb o e n d=>?_,λb o e d=>U.there b o e d,λb Y e=>?_,λb o u e=>?_,λb p e=>?_⟩,
  QA k λb o q=>⟨m b o q,g b o q⟩,fK g⟩
 .rw[R7 (a b n)];exact U.free b o e (by rw[N4 (a b n)];exact n) d
 .exact F9 g (U.tups b Y (y8 j e λo _ z=>by cases z))
 .cases q:cs.lookup b with
  |none=>exact F9 g (U.frzs b o u (by rw[N4 q];exact e))
  |some r=>rw[j b r q]at e;cases e;exact fW q
 .exact F9 g (U.tbls b p (y8 j e λo _ z=>by cases z))
def GE (d:∀b o,cs.lookup b=some o->H b=some (.frz o (.own b)))(q:Z0 K H a Y):Z0 K (S5 H cs) a Y:=by
 rcases q with(q|⟨o,q⟩)|q
 .exact .inl (.inl (y8 d q λo _ z=>by cases z))
 .exact .inl (.inr ⟨o,y8 d q λo _ z=>by cases z⟩)
 .exact .inr q
def GY (d:∀b o,cs.lookup b=some o->H b=some (.frz o (.own b)))(q:P4 K H a Y):P4 K (S5 H cs) a Y:=by
 rcases q with(q|⟨o,q⟩)|q
 .exact .inl (.inl (y8 d q λo _ z=>by cases z))
 .exact .inl (.inr ⟨o,y8 d q λo _ z=>by cases z⟩)
 .exact .inr q
def GQ {cs:R0}{φ:bt->Prop}(a:∀b o,cs.lookup b=some o->H b=some (.frz o (.own b)))(q:H b=some (.ext φ)):S5 H cs b=some (.ext φ):=by
 unfold S5;cases e:cs.lookup b with
 |none=>simpa[e]using q
 |some o=>have:=a b o e;rw[q]at this;cases this
def Rep.hid (a:∀b o,cs.lookup b=some o->H b=some (.frz o (.own b)))(r:Rep K H O v d):Rep K (S5 H cs) O v d:=r.mono (λ_ _ q=>GE a q) (λ_ _ n q=>⟨n,GY a q⟩) λb φ n q=>⟨n,GQ a q⟩
def Reps.hid (a:∀b o,cs.lookup b=some o->H b=some (.frz o (.own b)))(r:Reps K H O v d):Reps K (S5 H cs) O v d:=r.mono (λ_ _ q=>GE a q) (λ_ _ n q=>⟨n,GY a q⟩) λb φ n q=>⟨n,GQ a q⟩
end
variable [Tabs]
section
variable(P:ba) (w:be) (K:kc) (mg:cV) (base:bt) (k:Nat)
def LY (n:Nat)(m:List D->R D)(H:Hp)(O:a5->Prop)(a:a5):Prop:=
 (∃h i j l,H a=some (.frz ⟨h,i,.func j,l⟩ (.own a)))/\
 ∀(A:bc) (b:List Env) (s:aA) (g:List ao) (L:List V) (e:List D) (d:D) (Q:VK) (E:XK),Room k A->Env0 P w K mg base A b s H->p9 L g->Reps K H O L e->e.length=n->(∀a,O a->∃o,H a=some o/\Mt o)->Tb H->U6 K O->m e=.ok d->
  (∀v f,Same H f->Rep K f O v d->Q v f)->fg (a9 P w) A (.call (.ref a) ⟨g,[]⟩) (CR sG b P w H s Q E) s
end
open Classical in
def callC (Φ:(List D->R D)->Hp->(a5->Prop)->a5->Prop) (i:Nat) (f:Ev->R (List D)):Ev->R D:=λρ=>match ρ[i]? with
 |some (.c m φ)=>if φ=Φ m then(f ρ).bind m else .bad
 |_=>.bad
section
def PN (i:Nat)(ha:IV X (e::es) f)(hl:zR f n)(hr:Room k X.A)(hN:X.N[i]?=some x:=by rfl)(hv:yD X.env.scope x:=by first|exact aCw rfl|exact aBK (aCw rfl)|exact aBK (aBK rfl))(hd:(x==kd)=false:=by decide)(eh:(x==km)=false:=by decide)(he:az (e::es) X.env=(false,cv e X.env)::az es X.env:=by rfl)(br:(cp h (az es X.env)).any (·.1)=false:=by rfl):
  PD X (.Call (.Name x p) (e::es) [] h) (callC (LY X.prog X.w X.K X.mg X.base k n) i f):=by
 refine sM λb s σ H Q I H9 O0 O ρ E q=>?_;unfold callC at q;cases y:ρ[i]? with
 |none=>rw[y]at q;exact q.elim
 |some l=>
  rw[y]at q;cases l with
  |c m φ=>
   dsimp only at q;split at q
   .rename_i B;subst B;obtain⟨a,h1,U⟩:=E.slot i _ y;obtain⟨⟨Y,od,fd,l,hf⟩,_⟩:=U H O (Kp.refl _ _);refine aAZ (G5 (M1 hN hv hd eh b s σ H (λv H'=>v=.ref a/\H'=H) I ⟨_,h1,rfl,rfl⟩) λu s1 z9=>?_);obtain⟨v,H1,I1,r1,ev,eH⟩:=z9;subst ev eH;obtain rfl:u=aDy a:=r1;refine PySem.W.callWith_F ⟨Y,od,fd,l,(I1.hok a _ hf).1⟩ (G5 (ha h b s1 σ H1 _ I1 ⟨H9,O0,O,ρ,E,JU.seq q⟩) λus s2 ⟨L,H2,o,rv,C,e2,J,rr,g⟩=>⟨⟨Y,od,fd,l,(o.hok a _<|J _ _ hf).1⟩,?_⟩) he br;cases t:m C with
    |ex z=>rw[t]at g;exact(g H2<|Same.refl _).elim
    |bad=>rw[t]at g;exact g.elim
    |ok d=>
     rw[t]at g;have T:=E.grow J;refine wpAny_call (aDS ((U H2 O<|Kp.of J).2 X.A X.stack s2 us L C d Q (λ_ _ _=>False) hr o.af1 rv rr (hl ρ C e2) T.trk T.tab (lQ o O T.trk) t g) λr s' j=>?_);cases r with
     |error e=>exact j.elim
     |ok fl=>
      cases fl with
      |ret u=>exact o.after j
      |next=>exact aAh j
      |brk=>exact aAh j
      |cont=>exact aAh j
   .exact q.elim
  |_=>exact q.elim
end
def spF (K:kc)(Φ:(List D->R D)->Hp->(a5->Prop)->a5->Prop)(M:D->(List D->R D)->(List D->R D)->R D):Sp:=λL H Q _=>∃O v1 g h i j k d,L=[v1,.ref h,.ref j]/\Rep K H O v1 g/\(∀b e,Kp H O b e->Φ i b e h)/\(∀b e,Kp H O b e->Φ k b e j)/\
 (∀a,O a->∃o,H a=some o/\Mt o)/\Tb H/\U6 K O/\M g i k=.ok d/\∀v f,Same H f->Rep K f O v d->Q v f
def lY (N:List Str)(Φ:(List D->R D)->Hp->(a5->Prop)->a5->Prop)(d:D)(a b:List D->R D):Ev:=.v d::.c a (Φ a)::.c b (Φ b)::aCT (N.length-3) Sl.no
def DP {K:kc}{H:Hp}{O:a5->Prop}{N:List Str}{v1:V}{f:D}{a1 a2:a5}{g k:List D->R D}{Φ:(List D->R D)->Hp->(a5->Prop)->a5->Prop}(r:Rep K H O v1 f)(l:∀d e,Kp H O d e->Φ g d e a1)(m:∀d e,Kp H O d e->Φ k d e a2)
  (t:∀a,O a->∃o,H a=some o/\Mt o) (tb:Tb H):EnvOk K H O H O (start N [v1,.ref a1,.ref a2]) (lY N Φ f g k)where
 len:=by simp[L2.start,lY]
 same:=Same.refl H
 sub:=λ_ h=>h
 trk:=t
 trk0:=λa h=>let⟨o,q,_⟩:=t a h;⟨o,q⟩
 tab:=tb
 slot:=λi n h=>by
  match i with
  |0=>cases h;exact⟨v1,rfl,r⟩
  |1=>cases h;exact⟨a1,rfl,l⟩
  |2=>cases h;exact⟨a2,rfl,m⟩
  |i+3=>
   have b:(aCT (N.length-3) Sl.no)[i]?=some n:=h;rw[aBC]at b;split at b
   .cases b;trivial
   .cases b
 inj:=λi j x y a h _ o=>by
  match i with
  |0=>cases h;exact o.elim
  |1=>cases h;exact o.elim
  |2=>cases h;exact o.elim
  |i+3=>
   have b:(aCT (N.length-3) Sl.no)[i]?=some x:=h;rw[aBC]at b;split at b
   .cases b;exact o.elim
   .cases b
section
variable{K:kc}
def fnF {x qual:Str}{st:bM}{f:a5}{fd:dq}{N ps:List Str}{k:Nat}{M:D->(List D->R D)->(List D->R D)->R D}{Φ:(List D->R D)->Hp->(a5->Prop)->a5->Prop}{F:Ev->R Out}(m:Fun K x qual st f fd)(S:FnScope N ps (c6 st))(n:ps.length=3)
  (p:∀(T:ao) (A:bc) (a:List Env) (s:aA) (H:Hp) (E:XK),Room k (A.deeper (envOfC qual (c6 st) s.heap.objs.size f T))->bE (LZ P w K mg base N qual (c6 st) f T A a s H E) (t0 st) F)
  (t:∀g i j d,M g i j=.ok d->R1 (F (lY N Φ g i j))=.ok d):FnOk P w K mg base sG (k+1) f fd ps (spF K Φ M):=by
 refine m.ok S (λL H Q E z=>by obtain⟨O,v1,g,u,i,v,j,d,e,_⟩:=z;rw[e,n];rfl) (λT A a s H L Q E y z=>?_);obtain⟨O,v1,g,u,i,v,j,d,B,r,C,I,J,U,Y,e,q⟩:=z;subst B;refine⟨_,p T A a s H E y H O,O,_,DP r C I J U,Y,?_⟩;have h:=t g i j d e;cases l:F (lY N Φ g i j)with
 |ok o=>
  rw[l]at h;cases o with
  |rt d'=>have b:R.ok d'=R.ok d:=h;injection b with b;subst b;exact q
  |nx ρ=>have b:R.ok D.non=R.ok d:=h;injection b with b;subst b;exactλah H' O' E' _ _=>q .non H' E'.same .non
  |bk ρ=>cases h
  |ct ρ=>cases h
 |ex x=>rw[l]at h;cases h
 |bad=>rw[l]at h;cases h
end
structure NScope (ps ls fn:List Str)(sc:Scope):Prop where
 kind:sc.kind=.function
 co:sc.isCoroutine=false
 gen:sc.isGenerator=false
 nd:(ps++(ls++fn)).Nodup
 par:∀x∈ps,sc.names.lookup x=some .local
 fre:∀x∈fn,sc.names.lookup x=some .free
 all:∀x,sc.names.lookup x=some .free->x∈fn
 nocell:∀y∈sc.names,y.2≠.cell
abbrev cxM (P:ba)(w:be)(K:kc)(mg:cV)(base:bt)(N:List Str)(env:Env)(A:bc)(outer:List Env)(s:aA)(H:Hp):Cx where
 prog:=P
 w:=w
 K:=K
 mg:=mg
 base:=base
 A:=A.deeper env
 N:=N
 s9:=s
 H9:=H
 env:=env
 outer:=outer
 stack:=env::outer
 ex:=[]
 calm:=true
 fn:=λ_=>false
 pn:=[]
 xe:=λ_ _=>False
def M9 {α:Type}(L:List α)(n:Nat)(no:α)(ws:List α):List α:=L++(aCT n no++ws)
def iX {α:Type}{L ws:List α}{n i:Nat}{no a:α}(h:(M9 L n no ws)[i]?=some a):L[i]?=some a\/a=no\/(L.length+n<=i/\ws[i-(L.length+n)]?=some a):=by
 unfold M9 at h;by_cases d:i<L.length
 .rw[aAS d]at h;exact .inl h
 .rw[aAA (by lia)]at h;by_cases b:i-L.length<n
  .rw[aAS (by simpa using b),aBC,jk b]at h;exact .inr (.inl (aAm h).symm)
  .rw[aAA (by simpa using b),aCv]at h;exact .inr (.inr ⟨by lia,by rw[show i-(L.length+n)=i-L.length-n by lia];exact h⟩)
def PY {α:Type}{L ws:List α}{n i:Nat}{no a:α}(h:L[i]?=some a):(M9 L n no ws)[i]?=some a:=by unfold M9;rw[aAS (aAw.mp h).1];exact h
def SM {α:Type}{L ws:List α}{n i:Nat}{no a:α}(h:ws[i]?=some a):(M9 L n no ws)[L.length+n+i]?=some a:=by unfold M9;rw[aAA (by lia),aAA (by simp;lia),aCv,show L.length+n+i-L.length-n=i by lia];exact h
section
variable{K:kc}
def CH {A:bc}{g:List Env}{s:aA}{H:Hp}{N:List ao}{L wv:List V}{h₁:bt}{tk:Nat}(S:NScope ps k fn d)(T:A.handled=none)(j:Env0 P w K mg base A g s H)(B:L.length=ps.length)(r:p9 L N)(O:wv.length=fn.length)
  (Q:∀(i:Nat) (x:Str) (v:V),fn[i]?=some x->wv[i]?=some v->∃c u,clos.lookup x=some c/\RelV v u/\s.heap.IsCell c (some u)) (t:∀x c,clos.lookup x=some c->(∃v,s.heap.IsCell c v)/\H c=none)
  (U:∀x y c,clos.lookup x=some c->clos.lookup y=some c->x=y) (Y:h₁.Ns s.heap.objs.size (λx=>(ps.zip N).reverse.lookup x)) (C:∀b o,s.heap.get? b=some o->h₁.get? b=some o):
  Inv (cxM P w K mg base (ps++(k++fn)) (PySem.W.envX qual d s.heap.objs.size fa cd clos) A g s H) [] (M9 (L.map some) k.length none (wv.map some)) H {s with heap:=h₁,toks:=tk}:=by
 have l:∀b:a5,b∉(cxM P w K mg base (ps++(k++fn)) (PySem.W.envX qual d s.heap.objs.size fa cd clos) A g s H).ex:=λb z=>absurd (show b∈([]:List a5)from z) (by simp);have I:ps.Nodup:=(aCo.mp S.nd).1;refine⟨⟨j.mod,S.kind,rfl,rfl,aAj _,U,λy m=>?_,λy c hf _=>(by cases hf),λ_=>T,aFR j.frames,.inr ⟨rfl,rfl⟩,λb z=>absurd z (l b),j.bs,j.bsz,λb _ _=>l b,λb z=>absurd z (l b),j.funs,j.frf⟩,
  rfl,j.bare,Un.kept C,⟨_,Y,λi y v h1 f h3=>?_⟩,λy c h=>?_,j.hok.fresh (aAj _),λy c h=>(t y c h).2,λp hp=>absurd (show p∈([]:R0)from hp) (by simp),j.hok.kept C,?_⟩
 .have m:d.names.lookup y=some .cell\/d.names.lookup y=some .free:=m;rcases m with m|m
  .exact absurd rfl (S.nocell _<|PySem.mem_of_lookup m)
  .have hm:=S.all y m;obtain⟨i,E,e⟩:=aBi hm;have hw:i<wv.length:=by rw[O];exact E
   obtain⟨c,u,q,_⟩:=Q i y wv[i] (by rw[aAg E,e]) (aAg hw);exact⟨c,q⟩
 .have n:(ps++(k++fn))[i]?=some y:=h1;rcases iX f with f|f|⟨h4,f⟩
  .rw[aAE]at f;cases e:L[i]? with
   |none=>rw[e]at f;cases f
   |some a=>
    rw[e]at f;have J:a=v:=aAm (aAm f);subst J;obtain⟨u,hu,rv⟩:=r.get e;have E:i<ps.length:=by rw[<-B];exact(aAw.mp e).1
    rw[aAS E]at n;refine⟨u,rv,.inl ⟨S.par y (aAu n),?_⟩⟩;refine bS ?_ ?_
    .rw[aFy];refine(List.reverse_perm _).nodup_iff.mpr ?_;rw[aFw (by rw[<-B,r.length];exact aAj _)];exact I
    .rw[aCB];exact aAu (i:=i) (by rw[aBF];exact⟨n,hu⟩)
  .cases f
  .rw[aAi]at h4 f;rw[aAE]at f;cases e:wv[i-(L.length+k.length)]? with
   |none=>rw[e]at f;cases f
   |some a=>rw[e]at f;have J:a=v:=aAm (aAm f);subst J;rw[aAA (by lia),aAA (by lia),<-B,show i-L.length-k.length=i-(L.length+k.length)by lia]at n;obtain⟨c,u,q1,q2,q3⟩:=Q _ y a n e;exact⟨u,q2,.inr ⟨.inr (S.fre y<|aAu n),c,q1,q3.keeps C⟩⟩
 .obtain⟨⟨v,z⟩,_⟩:=t y c h;exact⟨v,z.keeps C⟩
 .unfold M9;simp[B,O]
def EI {H:Hp}{O:a5->Prop}{L wv:List V}{ds wd:List D}{n:Nat}(r:Reps K H O L ds)(k:Reps K H O wv wd)(t:∀a,O a->∃o,H a=some o/\Mt o)(tb:Tb H):
  EnvOk K H O H O (M9 (L.map some) n none (wv.map some)) (M9 (ds.map Sl.v) n .no (wd.map Sl.v))where
 len:=by unfold M9;simp[r.length,k.length]
 same:=Same.refl H
 sub:=λ_ h=>h
 trk:=t
 trk0:=λa h=>let⟨o,q,_⟩:=t a h;⟨o,q⟩
 tab:=tb
 slot:=λi l h=>by
  rcases iX h with h|h|⟨m,h⟩
  .rw[aAE]at h;cases e:ds[i]? with
   |none=>rw[e]at h;cases h
   |some d=>rw[e]at h;have b:Sl.v d=l:=aAm h;subst b;obtain⟨v,f,g⟩:=r.get e;exact⟨v,PY (by rw[aAE,f];rfl),g⟩
  .subst h;trivial
  .rw[aAE,aAi]at h;rw[aAi]at m;cases e:wd[i-(ds.length+n)]? with
   |none=>rw[e]at h;cases h
   |some d=>rw[e]at h;have b:Sl.v d=l:=aAm h;subst b;obtain⟨v,f,g⟩:=k.get e;refine⟨v,?_,g⟩;have:=SM (L:=L.map some) (n:=n) (no:=(none:Option V)) (ws:=wv.map some) (i:=i-(ds.length+n)) (a:=some v) (by rw[aAE,f];rfl);rw[aAi,r.length,show ds.length+n+(i-(ds.length+n))=i by lia]at this;exact this
 inj:=λi j x y a h _ o=>by
  rcases iX h with h|h|⟨_,h⟩
  .obtain⟨d,_,rfl⟩:=aAk.mp (aAu h);exact o.elim
  .subst h;exact o.elim
  .obtain⟨d,_,rfl⟩:=aAk.mp (aAu h);exact o.elim
def ZZ {name:Str}{j:Arguments}{body:List bM}{doc pm ctv:ao}{N:a5}{oc:Obj}{k:Nat}{m:List D->R D}{F:Ev->R Out}{H:Hp}{O:a5->Prop}{cs:R0}{wv:List V}{wd:List D}(S:NScope ps ls fn g)
  (hb:∀(A:bc) (f:List Env) (s:aA) (H:Hp),Room k (A.deeper (PySem.W.envX qual g s.heap.objs.size fa (.ref N) clos))->bE (cxM P w K mg base (ps++(ls++fn)) (PySem.W.envX qual g s.heap.objs.size fa (.ref N) clos) A f s H) body F)
  (hm:∀ds d,ds.length=ps.length->m ds=.ok d->R1 (F (M9 (ds.map Sl.v) ls.length .no (wd.map Sl.v)))=.ok d)
  (wc:∀(s:aA) (U:List ao),U.length=ps.length->BindsTo s (PySem.W.fnX name qual j body g clos .none .none doc pm none (.ref N) ctv) ⟨U,[]⟩ (ps.zip U))
  (hfa:H fa=some (.frz (PySem.W.fnMade name qual j body g clos doc pm N ctv) (.own fa))) (hc:H N=some (.frz oc (.own N))) (dc:∃L t,oc.data=.fields L/\L[1]?=some (.str qual t))
  (vh:∀b o,cs.lookup b=some o->H b=some (.frz o (.own b))/\wC o) (ya:∀(i:Nat) (x:Str) (v:V),fn[i]?=some x->wv[i]?=some v->∃c u o,clos.lookup x=some c/\cs.lookup c=some o/\o.data=.cell (some u)/\RelV v u)
  (hcc:∀x c,clos.lookup x=some c->∃o,cs.lookup c=some o) (ni:∀x y c,clos.lookup x=some c->clos.lookup y=some c->x=y) (sr:wv.length=fn.length) (hr:Reps K H O wv wd) (hO:∀a,O a->∃o,H a=some o/\Mt o):
  ∀l Y,Kp H O l Y->LY P w K mg base (k+1) ps.length m l Y fa:=by
 intro l Y kp;have fz:∀b o u,H b=some (.frz o u)->l b=some (.frz o u):=λb o u e=>(kp b _ e λz=>by obtain⟨o',q,mt⟩:=hO b z;rw[e]at q;cases q;exact mt).1;have T:∀b o,cs.lookup b=some o->l b=some (.frz o (.own b)):=λb o q=>fz _ _ _ (vh b o q).1;refine⟨⟨_,_,_,_,fz _ _ _ hfa⟩,λA f s U L ds d Q E og B rv rr hl ht tb fk em q=>?_⟩;have KX:K.In s.heap:=B.mod.kin.keeps λb o e=>(B.bs b o e).1;have lim:s.heap.NoLimit:=B.mod.nolimit.keeps λb o e=>(B.bs b o e).1;have gfa:=(B.hok fa _<|fz _ _ _ hfa).1;have goc:=(B.hok N _<|fz _ _ _ hc).1;obtain⟨ovs,ot,od1,od2⟩:=dc;have hidn:∀b,l b=none->S5 l cs b=none:=λb n=>by
  cases z:cs.lookup b with
  |none=>rw[N4 z];exact n
  |some o=>exact cH z
 have e1:Env0 P w K mg base A f s (S5 l cs):=⟨B.frames,B.mod,λb o e=>⟨(B.bs b o e).1,hidn b (B.bs b o e).2⟩,B.bsz,B.funs,λb hb=>hidn b (B.frf b hb),MY B.hok λb o z=>⟨T b o z,(vh b o z).2⟩,B.bare⟩;have zd:∀b o,cs.lookup b=some o->s.heap.get? b=some o:=λb o z=>(B.hok b _<|T b o z).1;have cfs:∀b o,cs.lookup b=some o->b∉yE f:=λb o z hb=>by have:=B.frf b hb;rw[T b o z]at this;cases this
 have hul:U.length=ps.length:=by rw[<-rv.length,rr.length];exact hl
 have hvl:L.length=ps.length:=by rw[rr.length];exact hl
 have rwv:Reps K (S5 l cs) Y wv wd:=(kp.ac5 hO fk hr).hid T;have tb1:Tb (S5 l cs):=λp hp=>y8 T (tb p hp) λo _ z=>by cases z
 have ht1:∀a,Y a->∃o,S5 l cs a=some o/\Mt o:=λa z=>by obtain⟨o,q1,q2⟩:=ht a z;exact⟨o,y8 T q1 λo' _ z'=>by subst z';exact q2,q2⟩
 let Q':VK:=λv H3=>(∀b o,cs.lookup b=some o->H3 b=none)->Q v (dG H3 cs)
 have qq:∀v C,Same (S5 l cs) C->Rep K C Y v d->Q' v C:=λv C sm r hn=>by
  refine q v _ (λb u e=>?_) (r.same<|fK hn);cases z:cs.lookup b with
  |none=>exact F9 hn (sm b u (by rw[N4 z];exact e))
  |some o=>rw[T b o z]at e;cases e;exact fW z
 have fin:∀{u:ao} {s':aA},CE f P w (S5 l cs) s Q' u s'->CE f P w l s Q u s':=λ{u s'} ⟨v,H3,os,bare,un,hok,r,qv⟩=>by obtain⟨U2,k2,xv⟩:=ak un hok λb o z=>⟨zd b o z,T b o z,cfs b o z⟩;exact⟨v,_,os,bare,U2,k2,r,qv λb o z=>un.free b o (zd b o z) (cH z) (by simp)⟩
 refine codeAny_call_def (fd:=PySem.W.fnX name qual j body g clos .none .none doc pm none (.ref N) ctv) (body:=body) (binds:=ps.zip U) og.depth gfa rfl lim ⟨N,oc,ovs,ot,rfl,goc,od1,od2⟩ rfl (wc s U hul) S.nocell (λy hy=>S.par y.1 (aDX hy).1) (λh₁ yp hk=>?_) S.co S.gen S.kind;show av (a9 P w) (A.deeper<|PySem.W.envX qual g s.heap.objs.size fa (.ref N) clos) (execs body<|PySem.W.envX qual g s.heap.objs.size fa (.ref N) clos) _ _ _;have I:=CH (qual:=qual) (fa:=fa) (cd:=.ref N) (clos:=clos) (tk:=s.toks+(ps.zip U).length) S og.hd e1 hvl rv sr (λi x v h1 h2=>by
   obtain⟨c,u,o,q1,q2,q3,q4⟩:=ya i x v h1 h2;exact⟨c,u,q1,q4,o,zd c o q2,q3⟩) (λx c h=>by
   obtain⟨o,z⟩:=hcc x c h;obtain⟨v,z2⟩:=(vh c o z).2;exact⟨⟨v,o,zd c o z,z2⟩,cH z⟩) ni yp hk
 have hx:=hb A f s (S5 l cs) (og.deeper _) (S5 l cs) Y [] _ _ _ {nx:=λ_ C=>Q' .non C,rt:=Q'} I ⟨Y,_,EI (rr.hid T) rwv ht1 tb1,fk,?_⟩
 .refine aCI hx (λfl s' hs=>?_) λe s' hs=>hs.elim;have fin2:∀{ah:St} {C:Hp} {v:V} {u:ao},Inv (cxM P w K mg base (ps++(ls++fn)) (PySem.W.envX qual g s.heap.objs.size fa (.ref N) clos) A f s<|S5 l cs) [] ah C s'->RelV v u->Q' v C->CE f P w l s Q u s':=
   λ{ah C v u} J rv q=>fin ⟨v,C,J.os,J.bare,J.base,J.hok,rv,q⟩
  cases fl with
  |ret u=>obtain⟨v,ah,C,J,rv,q⟩:=hs;exact fin2 J rv q
  |next=>obtain⟨ah,C,J,q⟩:=hs;exact fin2 (v:=V.non) (u:=Value.none) J rfl q
  |brk=>obtain⟨_,_,_,q⟩:=hs;exact aAh q
  |cont=>obtain⟨_,_,_,q⟩:=hs;exact aAh q
 .have h:=hm ds d hl em;cases e1:F (M9 (ds.map Sl.v) ls.length .no (wd.map Sl.v))with
  |ok o=>
   rw[e1]at h;cases o with
   |rt d'=>have h':R.ok d'=R.ok d:=h;injection h' with h';subst h';exact qq
   |nx ρ=>have h':R.ok D.non=R.ok d:=h;injection h' with h';subst h';exactλah C O' E' _ _=>qq .non C E'.same .non
   |bk ρ=>cases h
   |ct ρ=>cases h
  |ex x=>rw[e1]at h;cases h
  |bad=>rw[e1]at h;cases h
end
end
section
variable [Tabs]
def kG (mg:cV)(base:bt):Prop:=∃b a,mg "__builtins__"=some (.ref b)/\b≠builtinsNs/\base.get? b=some a/\a.cls=.type "module"/\a.dict=some builtinsNs/\a.data=.plain
def uU:∀(l:List ao),TriplesOk l->eR d l=some x->eR d (l++[dm a,dm b,c])=some x:=λl h e=>by
 fun_induction TriplesOk l with
 |case1=>simp[eR]at e
 |case2 i t j u y rest g=>
  simp only[aAD,eR]at e⊢;split at e
  .rename_i f;rw[jk f];exact e
  .rename_i f;rw[ka f];exact g h e
 |case3 l k m=>exact h.elim
def QF (ne:¬(a=d.line/\b=d.col)):∀(l:List ao),TriplesOk l->eR d l=none->eR d (l++[dm a,dm b,c])=none:=λl h e=>by
 fun_induction TriplesOk l with
 |case1=>simp only[aBq,dm,eR];rw[ka];simp only[aAO,beq_iff_eq];exact ne
 |case2 i t j u y rest f=>
  simp only[aAD,eR]at e⊢;split at e
  .cases e
  .rename_i g;rw[ka g];exact f h e
 |case3 l k m=>exact h.elim
def iN (H:Hp)(fa:a5)(name qual:Str)(a:Arguments)(body:List bM)(b:iu)(clos:List (Str×a5)):Prop:=
 ∃d g e h f,H fa=some (.frz (PySem.W.fnMade name qual a body b clos e h d f) (.own fa))/\H d=some (.frz g (.own d))/\∃L t,g.data=.fields L/\L[1]?=some (.str qual t)
def iN.same (h:iN H fa name qual a body b clos)(s:Same H H'):iN H' fa name qual a body b clos:=
 let⟨f,g,d,i,e,j,k,l⟩:=h;⟨f,g,d,i,e,s _ _ j,s _ _ k,l⟩
section
def zI {Q:Flow->aA->Prop}(I:Inv X pins σ H s)(hB:kG X.mg X.base)(jv:X.env.code=.ref c)(hK:PySem.W.codeHdIn X.K c x=true)(hT:H x=some (.tbl tb))(hq:qualnameIn X.env name name=qual)(hm:(g,qual)∈tb)(hu:∀p∈tb,p.1.line=g.line->p.1.col=g.col->p.2=qual)(ya:closureFor f X.env=pure clos)(hd0:d.defaults=[])(hk0:d.kw_defaults=[])(ha:annTrees d none X.env=[])(hN:X.N.Nodup)(hi:X.N[i]?=some name)(hx:Loc X.env.scope name)(hf:X.fn name=true\/X.env.scope.names.lookup name=some .local)(h:∀fa H' s',Inv X pins (σ.set i (some (.ref fa))) H' s'->Same H H'->iN H' fa name qual d body f clos->Q .next s'):av (a9 X.prog X.w) X.A (exec (.FunctionDef name d body [] none [] f none name g) X.env) Q X.xe s:=by
 refine PySem.W.nestDef_K hd0 hk0 ha ?_;rw[hq];have hg:s.heap.Ns bb X.mg:=I.mod.glob.keeps I.bk;have C:PySem.W.CodeHd s.heap c x:=PySem.W.codeHd_of_K I.kIn hK;obtain⟨ps,hP,m,O⟩:=I.hok x _ hT;have hgP:bb≠x:=λq=>by obtain⟨o,es,ep,e,hd,_⟩:=hg;rw[q,hP]at e;cases e;cases hd
 have T:s.heap.BuiltinsAt X.mg x:=by
  obtain⟨bm,ob,b1,b2,b3,b4,b5,b6⟩:=hB;have y:=I.bk _ _ b3;refine⟨bm,ob,b1,b2,λq=>?_,λq=>?_,y,b4,b5,b6⟩
  .obtain⟨o,es,ep,e,hd,_⟩:=hg;rw[<-q,y]at e;cases e;rw[hd]at b6;cases b6
  .rw[q,hP]at y;cases y;cases b4
 have U:∀b,H b=none->b≠x:=λb n z=>by rw[z,hT]at n;cases n
 have neL:X.env.locals≠x:=U _ I.free;rcases O _ hm with hnf|⟨j,oc,L,t,hf',hc',eh⟩
 .refine PySem.W.makeFunction_K (mg:=X.mg) ya I.ok.glob hg jv C hP m hnf hgP T λj k l h' tk hx' B ai hrec htb=>?_;obtain⟨c2,oc,L,t,e2,dc,hd,hv⟩:=hrec;cases e2;have old:∀b u,H b=some u->b<s.heap.objs.size:=λb u e=>I.hok.lt e;have hcN:H j=none:=I.hok.fresh B;have E:H h'.objs.size=none:=I.hok.fresh (aAs B<|aDx ai);have ncf:j≠h'.objs.size:=aAl ai;have J:Same H (upd (upd H j<|.frz oc (.own j)) h'.objs.size<|.frz (PySem.W.fnMade name qual d body f clos l ((X.mg "__name__").getD .none) j k) (.own h'.objs.size)):=λb u e=>by rw[m9 (u9 e E),m9 (u9 e hcN)];exact e
  have oh:∀b o,b≠x->s.heap.get? b=some o->(h'.push<|PySem.W.fnMade name qual d body f clos l ((X.mg "__name__").getD .none) j k).get? b=some o:=λb o T e=>aAc _ (hx' b o T e);have lts:∀b o,s.heap.get? b=some o->b≠j/\b≠h'.objs.size:=λb o e=>⟨aAl (aAv (aAf e) B),aAl (aAv (aAf e)<|aAs B<|aDx ai)⟩;have I1:=I.step (H':=upd (upd H j<|.frz oc (.own j)) h'.objs.size (.frz (PySem.W.fnMade name qual d body f clos l ((X.mg "__name__").getD .none) j k) (.own h'.objs.size)))
   (h':=h'.push (PySem.W.fnMade name qual d body f clos l ((X.mg "__name__").getD .none) j k)) (g':=s.gens) (t':=tk) (d':=s.drawn) (ch:=[]) (λ_ z=>nomatch z) (λb o _ _ _ e n=>oh b o (U b n) e) (λb o _ _ _ e n=>⟨o.slots,oh b o (U b n) e⟩)
   (λb o _ e n=>by rw[m9 (lts b o e).2,m9 (lts b o e).1];exact n) (λb o _ e=>by
    by_cases T:b=x
    .subst T;exact⟨_,aAc _ htb⟩
    .exact⟨o,oh b o T e⟩) (λb Y e=>J _ _ e) (λb o u e=>J _ _ e) (λb tb e=>J _ _ e) (λm' hm'=>by
    obtain⟨o,es,ep,e,r⟩:=hm';exact⟨o,es,ep,oh _ o neL e,r⟩) (λb u e=>by
    by_cases hbf:b=h'.objs.size
    .subst hbf;rw[j8]at e;cases e;exact⟨aAp _ rfl,_,aAp _ rfl⟩
    .rw[m9 hbf]at e;by_cases hbc:b=j
     .subst hbc;rw[j8]at e;cases e;exact⟨aAc _ dc,_,aAc _ dc⟩
     .rw[m9 hbc]at e;by_cases hbP:b=x
      .subst hbP;rw[hT]at e;cases e;refine⟨_,aAc _ htb,?_,λp hp=>?_⟩
       .rw[aGk];exact TriplesOk_snoc _ _ _ _ m
       .rw[aGk];show eR p.1 (ps.toList++[dm g.line,dm g.col,.ref j])=none\/_;by_cases hpp:(g.line:Int)=p.1.line/\(g.col:Int)=p.1.col
        .rcases O p hp with h0|⟨c3,oc3,vs3,t3,h0,h1,h2⟩
         .have e1:g.line=p.1.line:=by exact_mod_cast hpp.1
          have e2:g.col=p.1.col:=by exact_mod_cast hpp.2
          refine .inr ⟨j,oc,L,t,?_,by rw[m9 ncf,j8],hd,?_⟩
          .rw[e1,e2];exact codeAmong_snoc _ m h0
          .rw[hu p hp e1.symm e2.symm];exact hv
         .exact .inr ⟨c3,oc3,vs3,t3,uU _ m h0,J _ _ h1,h2⟩
        .rcases O p hp with h0|⟨c3,oc3,vs3,t3,h0,h1,h2⟩
         .exact .inl (QF hpp _ m h0)
         .exact .inr ⟨c3,oc3,vs3,t3,uU _ m h0,J _ _ h1,h2⟩
      .refine(I.hok b u e).ac0 (λb2 v hc q=>oh b2 v (λz=>?_) q) (λb2 z=>J _ _ z) λb2 u _ z=>J _ _ z;rcases hc with hc|hc
       .exact hbP (hc▸z)
       .rw[z,hT]at hc;cases hc) I.bare
  refine M8 I1 hN hi hx (show RelV (.ref h'.objs.size) _ from rfl) (λs' I'=>h _ _ s' I' J ⟨j,oc,l,_,k,j8,by rw[m9 ncf,j8],L,t,hd,hv⟩) hf
 .refine PySem.W.makeFunction_hit (mg:=X.mg) ya I.ok.glob hg jv C hP m hf' T λk l h' tk hk gc=>?_;have E:H h'.objs.size=none:=I.hok.fresh gc;have I1:=I.laid (a:=h'.objs.size) (o:=.frz (PySem.W.fnMade name qual d body f clos l ((X.mg "__name__").getD .none) j k) (.own h'.objs.size)) (h':=h'.push (PySem.W.fnMade name qual d body f clos l ((X.mg "__name__").getD .none) j k)) (t':=tk)
   (λb u e=>aAc _ (hk b u e)) gc ⟨aAp _ rfl,_,aAp _ rfl⟩
  refine M8 I1 hN hi hx (show RelV (.ref h'.objs.size) _ from rfl) (λs' I'=>h _ _ s' I' (l9 E _) ⟨j,oc,l,_,k,j8,l9 E _ _ _ hc',L,t,eh⟩) hf
end
structure Nst where
 name:Str
 qual:Str
 params:Arguments
 body:List Stmt
 scope:Scope
 pos:Pos
 ps:List Str
 ls:List Str
 fn:List Str
 js:List Nat
 F:Ev->R Out
 mm:List D->List D->R D
 i:Nat
abbrev Nst.stmt (n:Nst):bM:=.FunctionDef n.name n.params n.body [] none [] n.scope none n.name n.pos
structure NstOk (X:Cx)(k:Nat)(n:Nst):Prop where
 sc:NScope n.ps n.ls n.fn n.scope
 one:n.ps.length=1
 body:∀(fa:Addr) (cd:Value) (clos:List (Str×Addr)) (A:Around) (outer:List Env) (s:Shared) (H:Hp),Room k (A.deeper (PySem.W.envX n.qual n.scope s.heap.objs.size fa cd clos))->bE (cxM X.prog X.w X.K X.mg X.base (n.ps++(n.ls++n.fn)) (PySem.W.envX n.qual n.scope s.heap.objs.size fa cd clos) A outer s H) n.body n.F
 mm:∀wd ds d,wd.length=n.fn.length->ds.length=n.ps.length->n.mm wd ds=.ok d->R1 (n.F (M9 (ds.map Sl.v) n.ls.length .no (wd.map Sl.v)))=.ok d
 bind:∀(clos:List (Str×Addr)) (doc pm cd ctv:Value) (us:List Value),us.length=n.ps.length->bindArgs (PySem.W.fnX n.name n.qual n.params n.body n.scope clos .none .none doc pm none cd ctv) ⟨us,[]⟩=pure (n.ps.zip us)
 len:n.js.length=n.fn.length
 at_:∀(i j:Nat) (x:Str),n.js[i]?=some j->n.fn[i]?=some x->X.N[j]?=some x/\X.env.scope.names.lookup x=some .cell
 d0:n.params.defaults=[]
 k0:n.params.kw_defaults=[]
 nm:X.N[n.i]?=some n.name
 lc:Loc X.env.scope n.name
 st:X.fn n.name=true\/X.env.scope.names.lookup n.name=some .local
 dbg:(n.name==kd)=false
 cdt:(n.name==km)=false
structure ClosOk (X:Cx)(n:Nst)(clos:List (Str×Addr)):Prop where
 eq:closureFor n.scope X.env=pure clos
 ann:annTrees n.params none X.env=[]
 qn:qualnameIn X.env n.name n.name=n.qual
 sub:∀x c,clos.lookup x=some c->X.env.cells.lookup x=some c
 has:∀x∈n.fn,∃c,clos.lookup x=some c
def dZ:List Nat->Ev->R (List D)
 |[],_=>.ok []
 |j::a,ρ=>(bL j ρ).bind λd=>(dZ a ρ).bind λb=>.ok (d::b)
theorem OK {K:kc}{l H:Hp}{m O:a5->Prop}{σ:St}{ρ:Ev}(E:EnvOk K l m H O σ ρ):∀{b:List Nat} {wd:List D},dZ b ρ=.ok wd->∃wv,Reps K H O wv wd/\wv.length=b.length/\∀(i j:Nat) (v:V),b[i]?=some j->wv[i]?=some v->σ[j]?=some (some v)
 |[],wd,h=>by cases h;exact⟨[],.nil,rfl,λi j v e=>by simp at e⟩
 |j::b,wd,h=>by
  unfold dZ at h;cases a:bL j ρ with
  |ok d=>
   rw[a,R.aa0]at h;cases f:dZ b ρ with
   |ok u=>
    rw[f,R.aa0]at h;cases h;obtain⟨wv,r,n,at_⟩:=OK E f;have:ρ[j]?=some (.v d):=by
     unfold bL at a;split at a
     .rename_i q;cases a;exact q
     .cases a
    obtain⟨v,o,p⟩:=E.val j d this;refine⟨v::wv,.cons p r,by simp[n],λi s t g k=>?_⟩;cases i with
    |zero=>simp at g k;subst g k;exact o
    |succ i=>exact at_ i s t (by simpa using g) (by simpa using k)
   |ex z=>rw[f]at h;cases h
   |bad=>rw[f]at h;cases h
  |ex z=>rw[a]at h;cases h
  |bad=>rw[a]at h;cases h
section
def U4 (h:bt)(a:List (Str×a5)):List (a5×Obj):=a.filterMap λp=>(h.get? p.2).map λo=>(p.2,o)
def M3 (e:(U4 h a).lookup b=some o):h.get? b=some o/\∃x,(x,b)∈a:=by
 obtain⟨p,d,q⟩:=aCd.mp (mem_lookup e);cases z:h.get? p.2 with
 |none=>rw[z]at q;cases q
 |some f=>rw[z]at q;have g:(p.2,f)=(b,o):=aAm q;injection g with i j;subst i j;exact⟨z,p.1,d⟩
def mW (f:(x,b)∈a)(e:h.get? b=some o):∃d,(U4 h a).lookup b=some d:=by
 have:(b,o)∈U4 h a:=aCd.mpr ⟨(x,b),f,by show(h.get? b).map _=_;rw[e];rfl⟩;cases q:(U4 h a).lookup b with
 |some d=>exact⟨d,rfl⟩
 |none=>have:=List.lookup_eq_none_iff.mp q (b,o) this;simp at this
def a0q (X:Cx)(n1 n2:Nst)(clos1 clos2:List (Str×a5))(f:Ev->R D)(M:D->(List D->R D)->(List D->R D)->R D):TE:=λσ H Q=>∃d e O ρ b a,EnvOk X.K d e H O σ ρ/\σ[n1.i]?=some (some<|V.ref b)/\σ[n2.i]?=some (some<|V.ref a)/\
 iN H b n1.name n1.qual n1.params n1.body n1.scope clos1/\iN H a n2.name n2.qual n2.params n2.body n2.scope clos2/\RC X H O ((f ρ).bind λg=>(dZ n1.js ρ).bind λh=>(dZ n2.js ρ).bind λj=>M g (n1.mm h) (n2.mm j)) Q
def yL {n:Nst}{clos a:List (Str×a5)}{k:Nat}{h:R0}{σ:St}{H:Hp}{s:aA}{H9:Hp}{O0 O:a5->Prop}{ρ:Ev}{fa:a5}{wd:List D}(ok:NstOk X k n)(j:ClosOk X n clos)(I:Inv X h σ H s)(E:EnvOk X.K H9 O0 H O σ ρ)
  (hA:∀p∈clos,p∈a) (l:∀x b,(x,b)∈a->X.env.cells.lookup x=some b) (r:iN H fa n.name n.qual n.params n.body n.scope clos) (hw:dZ n.js ρ=.ok wd):
  ∀t z,Kp (dG H (U4 s.heap a)) O t z->LY X.prog X.w X.K X.mg X.base (k+1) 1 (n.mm wd) t z fa:=by
 obtain⟨c',oc,T,pm,U,h1,h2,h3⟩:=r;obtain⟨wv,pg,hl,at_⟩:=OK E hw;have hn:∀b o,(U4 s.heap a).lookup b=some o->H b=none:=λb o q=>by obtain⟨_,x,Y⟩:=M3 q;exact I.freeC x b (l x b Y)
 have N:=fK hn
 suffices B:∀t z,Kp (dG H<|U4 s.heap a) O t z->LY X.prog X.w X.K X.mg X.base (k+1) n.ps.length (n.mm wd) t z fa by rw[ok.one]at B;exact B
 refine ZZ (cs:=U4 s.heap a) (wv:=wv) (wd:=wd) (F:=n.F) ok.sc (λA g s H hr=>ok.body fa (.ref c') clos A g s H hr) (λds d nh e=>ok.mm wd ds d (by rw[<-pg.length,hl,ok.len]) nh e) (λs us nh=>.of_eq (ok.bind clos T pm (.ref c') U us nh)) (N _ _ h1) (N _ _ h2) h3
  (λb o q=>⟨fW q,?_⟩) (λi x v C q2=>?_) (λx c q=>?_) (λx y c C q2=>I.ok.inj x y c (j.sub x c C) (j.sub y c q2)) (by rw[hl,ok.len]) (pg.same N) (E.grow N).trk
 .obtain⟨e1,x,Y⟩:=M3 q;obtain⟨v,o',e2,e3⟩:=I.cell x b (l x b Y);rw[e1]at e2;cases e2;exact⟨v,e3⟩
 .have hi:i<n.js.length:=by rw[ok.len];exact(aAw.mp C).1
  have ej:n.js[i]?=some n.js[i]:=aAg hi;obtain⟨hN,hk⟩:=ok.at_ i _ x ej C;have hσ:=at_ i _ v ej q2;obtain⟨m,yp,J⟩:=I.loc;obtain⟨u,ru,L⟩:=J _ x v hN hσ (.inr (.inl hk));rcases L with⟨ku,_⟩|⟨_,c,ir,o,Q,hd⟩
  .have f:X.env.scope.names.lookup x=some .local:=ku;rw[hk]at f;cases f
  .obtain⟨c2,q3⟩:=j.has x (aAu C);have q4:=j.sub x c2 q3;rw[ir]at q4;cases q4;obtain⟨o',q5⟩:=mW (hA _<|PySem.mem_of_lookup q3) Q;have:=(M3 q5).1;rw[Q]at this;cases this;exact⟨c,u,o,q3,q5,hd,ru⟩
 .obtain⟨v,o,Q,_⟩:=I.cell x c (j.sub x c q);exact mW (hA _<|PySem.mem_of_lookup q) Q
def VR (qg:NstOk X k n1)(qh:NstOk X k n2)(yc:ClosOk X n1 clos1)(jt:ClosOk X n2 clos2)(J:∀x b,(x,b)∈clos1++clos2->X.env.cells.lookup x=some b)(FF:FnOk X.prog X.w X.K X.mg X.base sG kf g gd N (spF X.K (LY X.prog X.w X.K X.mg X.base (k+1) 1) M))(hr:Room kf X.A)(Y:X.mg x=some (.ref g))(hk:PySem.W.keepIn X.K (.ref g)=true)(n:Binds X.K gd N [])(h3:N.length=3)(he:PD X e f)(xp:∀y,X.fn y=true)(hg:Gl X x:=by rfl)(gh:(x==kd)=false:=by decide)(yr:az [e,.Name n1.name p1,.Name n2.name t] X.env=(false,cv e X.env)::az [.Name n1.name p1,.Name n2.name t] X.env:=by rfl)(zf:az [.Name n1.name p1,.Name n2.name t] X.env=(false,cv (.Name n1.name p1) X.env)::az [.Name n2.name t] X.env:=by rfl)(hs3:az [.Name n2.name t] X.env=(false,cv (.Name n2.name t) X.env)::az [] X.env:=by rfl)(br:(cp pos (az [.Name n1.name p1,.Name n2.name t] X.env)).any (·.1)=false:=by rfl):
  PE X (.Call (.Name x p) [e,.Name n1.name p1,.Name n2.name t] [] pos) (a0q X n1 n2 clos1 clos2 f M):=by
 rintro pins s σ H Q I ⟨H9,O0,O,ρ,yb,fa2,E,h1,h2,md1,md2,q⟩;have vis:∀{y:Str},Loc X.env.scope y->yD X.env.scope y:=λh=>h.elim .inl λz=>.inr (.inl z);have oo:PA X [e,.Name n1.name p1,.Name n2.name t] _:=L8 he (L8 (M1 qg.nm (vis qg.lc) qg.dbg qg.cdt) (L8 (M1 qh.nm (vis qh.lc) qh.dbg qh.cdt) cG hs3) zf) yr;refine aAZ (wZ I hg Y ?_ gh);refine PySem.W.callWith_K (h₀:=X.base) I.ok.mod.kin hk (G5 (oo pos pins s σ H (λL i=>∃v1 T w1 w2 d,L=[v1,.ref yb,.ref fa2]/\Same H i/\Rep X.K i O v1 T/\dZ n1.js ρ=.ok w1/\dZ n2.js ρ=.ok w2/\M T (n1.mm w1) (n2.mm w2)=.ok d/\∀v l,Same i l->Rep X.K l O v d->Q v l) I ⟨H9,O0,O,ρ,E,?_⟩) λus B z9=>?_) yr br
 .cases e1:f ρ with
  |ex z=>rw[e1]at q;exact q
  |bad=>rw[e1]at q;exact q
  |ok T=>
   rw[e1,R.aa0]at q;cases C:dZ n1.js ρ with
   |ex z=>rw[C]at q;exact(q H<|Same.refl _).elim
   |bad=>rw[C]at q;exact q.elim
   |ok w1=>
    rw[C,R.aa0]at q;cases e3:dZ n2.js ρ with
    |ex z=>rw[e3]at q;exact(q H<|Same.refl _).elim
    |bad=>rw[e3]at q;exact q.elim
    |ok w2=>
     rw[e3,R.aa0]at q;cases e4:M T (n1.mm w1) (n2.mm w2)with
     |ex z=>rw[e4]at q;exact(q H<|Same.refl _).elim
     |bad=>rw[e4]at q;exact q.elim
     |ok d=>rw[e4]at q;exactλv1 i B r1=>⟨_,h1,_,h2,v1,T,w1,w2,d,rfl,B,r1,rfl,rfl,e4,λv l s2 r2=>q v l (B.trans s2) r2⟩
 .obtain⟨L,i,a,r,v1,T,w1,w2,d,ev,sm,r1,c1,c2,em,qq⟩:=z9;refine⟨a.kIn,?_⟩;subst ev;have E1:=E.grow sm;generalize vh:U4 B.heap (clos1++clos2)=j;have hn:∀b o,j.lookup b=some o->B.heap.get? b=some o/\i b=none/\wC o:=λb o z=>by rw[<-vh]at z;obtain⟨e1,y,Y⟩:=M3 z;obtain⟨v,o',C,e3⟩:=a.cell y b (J y b Y);rw[e1]at C;cases C;exact⟨e1,a.freeC y b (J y b Y),v,e3⟩
  have hn0:∀b o,j.lookup b=some o->i b=none:=λb o z=>(hn b o z).2.1;have U:Same i (dG i j):=fK hn0;have E2:=E1.grow U;have m:=a.af1;have nofr:∀b o,j.lookup b=some o->b∉yE X.stack:=λb o z n=>by
   rw[<-vh]at z;obtain⟨_,y,hmy⟩:=M3 z;rcases aAd.mp (a.ab4 b n)with e|n
   .exact a.cne y b (J y b hmy) e
   .obtain⟨_,o',ho,_⟩:=a.ok.funs.mem n;exact absurd (aAv (aAf ho)<|a.ok.cab y b (xp y)<|J y b hmy) (aBv _)
  have nob:∀b o,X.base.get? b=some o->j.lookup b=none:=λb o e=>by
   cases z:j.lookup b with
   |none=>rfl
   |some o'=>rw[<-vh]at z;obtain⟨_,y,Y⟩:=M3 z;exact absurd (aAv (aAf e)<|aAs a.ok.bsz<|a.ok.cab y b (xp y)<|J y b Y) (aBv _)
  have C:Env0 X.prog X.w X.K X.mg X.base X.A X.stack B (dG i j):=⟨m.frames,m.mod,λb o e=>⟨(m.bs b o e).1,by rw[R7 (nob b o e)];exact(m.bs b o e).2⟩,m.bsz,m.funs,λb n=>by
   cases z:j.lookup b with
   |none=>rw[R7 z];exact m.frf b n
   |some o=>exact absurd n (nofr b o z),QA m.hok λb o z=>⟨(hn b o z).1,(hn b o z).2.1⟩,m.bare⟩
  have cl1:=yL qg yc a E1 (λp hp=>aBu _ hp) J (md1.same sm) c1;have cl2:=yL qh jt a E1 (λp hp=>aAH _ hp) J (md2.same sm) c2;rw[vh]at cl1 cl2;have hl:us.length=N.length:=by rw[<-r.length,h3];rfl
  have hbs:=n B us a.kIn (by rw[aBk];exact hl);rw[aBk]at hbs;refine wpAny_call (aDS (FF.run X.A X.stack B (dG i j) ⟨us,[]⟩ us _ (λv l=>Q v (S5 l j)) (λ_ _ _=>False) hr C hbs r ⟨O,v1,T,yb,_,fa2,_,d,rfl,r1.same U,cl1,cl2,E2.trk,E2.tab,lQ a O E1.trk,em,λv l s2 r2=>?_⟩) λrr s' hq=>?_)
  .have hz:∀b o,j.lookup b=some o->l b=some (.frz o (.own b)):=λb o z=>s2 _ _ (fW z);refine qq v _ (λb u e=>y8 hz (s2 b u<|U b u e) λo z _=>?_) (r2.hid hz);rw[hn0 b o z]at e;cases e
  .cases rr with
   |error e=>exact hq.elim
   |ok fl=>
    cases fl with
    |next=>exact aAh hq
    |brk=>exact aAh hq
    |cont=>exact aAh hq
    |ret u=>obtain⟨v,l,os,bare,un,hok,rv,qv⟩:=hq;obtain⟨U2,k2,_⟩:=jx un hok hn;exact a.after ⟨v,_,os,bare,U2,k2,rv,qv⟩
def KJ (a:NstOk X k n1)(h:NstOk X k n2)(u:ClosOk X n1 clos1)(B:ClosOk X n2 clos2)(hA:∀x b,(x,b)∈clos1++clos2->X.env.cells.lookup x=some b)(hB:kG X.mg X.base)(jv:X.env.code=.ref c)(hK:PySem.W.codeHdIn X.K c Pt=true)(l:(Pt,tb)∈Tabs.tbs)(L:(n1.pos,n1.qual)∈tb)(jm:(n2.pos,n2.qual)∈tb)(dh:∀p∈tb,p.1.line=n1.pos.line->p.1.col=n1.pos.col->p.2=n1.qual)(Q:∀p∈tb,p.1.line=n2.pos.line->p.1.col=n2.pos.col->p.2=n2.qual)(af:n1.i≠n2.i)(hN:X.N.Nodup)(FF:FnOk X.prog X.w X.K X.mg X.base sG kf g gd m (spF X.K (LY X.prog X.w X.K X.mg X.base (k+1) 1) M))(hr:Room kf X.A)(hm:X.mg x=some (.ref g))(hk:PySem.W.keepIn X.K (.ref g)=true)(hb:Binds X.K gd m [])(h3:m.length=3)(he:PD X e f)(xp:∀y,X.fn y=true)(hg:Gl X x:=by rfl)(gh:(x==kd)=false:=by decide)(yr:az [e,.Name n1.name n,.Name n2.name j] X.env=(false,cv e X.env)::az [.Name n1.name n,.Name n2.name j] X.env:=by rfl)(zf:az [.Name n1.name n,.Name n2.name j] X.env=(false,cv (.Name n1.name n) X.env)::az [.Name n2.name j] X.env:=by rfl)(T:az [.Name n2.name j] X.env=(false,cv (.Name n2.name j) X.env)::az [] X.env:=by rfl)(br:(cp U (az [.Name n1.name n,.Name n2.name j] X.env)).any (·.1)=false:=by rfl):
  bE X [n1.stmt,n2.stmt,.Return (some (.Call (.Name x p) [e,.Name n1.name n,.Name n2.name j] [] U)) rpos] (λρ=>((f ((ρ.set n1.i .no).set n2.i .no)).bind λY=>(dZ n1.js ((ρ.set n1.i .no).set n2.i .no)).bind λw1=>(dZ n2.js ((ρ.set n1.i .no).set n2.i .no)).bind λw2=>M Y (n1.mm w1) (n2.mm w2)).bind λd=>.ok (.rt d)):=by
 rintro H9 O0 o s σ H D I ⟨O,ρ,E,fk,q⟩;refine aEv (zI (σ:=σ) I hB jv hK (E.tab _ l) u.qn L dh u.eq a.d0 a.k0 u.ann hN a.nm a.lc a.st λC H1 s1 I1 sm1 md1=>?_);have E1:EnvOk X.K H9 O0 H1 O (σ.set n1.i<|some<|.ref C) (ρ.set n1.i .no):=(E.grow sm1).put n1.i (λz=>z) trivial;refine aEv (zI (σ:=σ.set n1.i (some<|.ref C)) I1 hB jv hK (E1.tab _ l) B.qn jm Q B.eq h.d0 h.k0 B.ann hN h.nm h.lc h.st λt H2 s2 I2 xv md2=>?_);have J:EnvOk X.K H9 O0 H2 O ((σ.set n1.i<|some<|.ref C).set n2.i (some<|.ref t)) ((ρ.set n1.i .no).set n2.i .no):=(E1.grow xv).put n2.i (λz=>z) trivial;have l1:n1.i<σ.length:=by rw[I.len];exact(aAw.mp a.nm).1
 have l2:n2.i<σ.length:=by rw[I.len];exact(aAw.mp h.nm).1
 refine oM (wL<|VR a h u B hA FF hr hm hk hb h3 he xp hg gh yr zf T br) o s2 _ H2 D I2 ⟨H9,O0,O,_,C,t,J,?_,?_,md1.same xv,md2,?_⟩
 .rw[aCD (aCA af),aBI l1]
 .rw[aBI (by rw[List.length_set];exact l2)]
 .revert q;dsimp only;generalize((f<|(ρ.set n1.i .no).set n2.i .no).bind λY=>(dZ n1.js<|(ρ.set n1.i .no).set n2.i .no).bind λw1=>(dZ n2.js<|(ρ.set n1.i .no).set n2.i .no).bind λw2=>M Y (n1.mm w1) (n2.mm w2))=rr;intro q;cases rr with
  |ok d=>exactλv H' s r=>q v H' (J.same.trans s) (r.sub J.sub)
  |ex z=>exactλH' s=>q H' (J.same.trans s)
  |bad=>exact q
end
def wW (K:kc):Sp:=λL H Q _=>∃(a:a5) (b:List Int),L=[.ref a]/\P4 K H a (b.map V.int)/\b.length<=63/\(∀x∈b,aBd x<=1048576)/\Tb H/\∀d,Q (.bl true) d
def VA {P:ba}{w:be}{K:kc}{mg:cV}{base:bt}{k:Nat}{f:a5}{fd:dq}{m:List D->R D}(F:FnOk P w K mg base sG k f fd ["script"] (vq K 1 m))
  (h:∀ns:List Int,ns.length<=63->(∀x∈ns,aBd x<=1048576)->m [.lst (ns.map D.int)]=.ok (.bl true)):FnOk P w K mg base sG k f fd ["script"] (wW K):=
 F.imp<|by rintro L H Q E ⟨a,ns,e,b,d,g,i,q⟩;exact⟨λ_=>False,_,_,by rw[e];exact .cons (.lst b (λz=>z) (Reps.ints ns)) .nil,rfl,λ_ z=>z.elim,i,λ_ _ _ z=>z,h ns d g,λv j _ r=>by cases r;exact q j⟩
def KM {P:ba}{w:be}{K:kc}{mg mb:cV}{k:Nat}{fa a:a5}{fd:dq}{f:aA}{L:List ao}{ns:List Int}
  (KX:K.In f.heap) (yp:f.heap.Ns bb mg) (j:f.heap.Ns builtinsNs mb) (hbb:∀x:Str,x≠ "__name__"->mb x=cu x) (J:f.heap.NoLimit) (hB:kG mg f.heap) (hg:f.gens=#[])
  (N:f.heap.get? a=some {cls:=.type "list",data:=.seq L.toArray}) (hi:IntsAre L ns) (hl:ns.length<=63) (we:∀x∈ns,aBd x<=1048576) (hr:Room k callerA)
  (hT:∀p∈Tabs.tbs,f.heap.get? p.1=some (PySem.W.tabObj #[])/\isCodeTable f.heap p.1) (hTd:(Tabs.tbs.map (·.1)).Nodup) (hKn:PySem.W.noTabs K=true)
  (F:∀base:bt,K.In base->base.Ns bb mg->kG mg base->FnOk P w K mg base sG k fa fd ["script"] (wW K)) (wc:∀(s:aA) (u:ao),BindsTo s fd ⟨[u],[]⟩ [("script",u)]):
  fg (a9 P w) callerA (.call (.ref fa) ⟨[.ref a],[]⟩) (λr s'=>r=.ok (.ret (.bool true))/\OldK f.heap s'.heap/\s'.os=f.os/\AllBare s'.gens) f:=by
 have rv:=L2.P8 hi;have O:=hi.length;have jf:ns.length<=sizeLine:=aAs hl (by decide);have C:∀b i,Tabs.tbs.lookup b=some i->f.heap.get? b=some (PySem.W.tabObj #[])/\isCodeTable f.heap b:=λb i e=>hT (b,i) (mem_lookup e);have nta:Tabs.tbs.lookup a=none:=by
  cases e:Tabs.tbs.lookup a with
  |none=>rfl
  |some i=>have:=(C a i e).1;rw[N]at this;cases this
 have noK:∀b o,K.lookup b=some o->Tabs.tbs.lookup b=none:=λb o e=>by
  cases z:Tabs.tbs.lookup b with
  |none=>rfl
  |some i=>have Q:=KX b o e;rw[(C b i z).1]at Q;cases Q;have l:=aBN.mp hKn (b,_) (PySem.W.mem_of_lookupK e);exact absurd (show false=true from l) aBg
 let put:Hp->Hp:=λH b=>match Tabs.tbs.lookup b with
  |some i=>some (.tbl i)
  |none=>H b
 have rB:∀(H:Hp) b i,Tabs.tbs.lookup b=some i->put H b=some (.tbl i):=λH b i e=>by show(match Tabs.tbs.lookup b with|some i=>some (HO.tbl i)|none=>H b)=_;rw[e]
 have E:∀(H:Hp) b,Tabs.tbs.lookup b=none->put H b=H b:=λH b e=>by show(match Tabs.tbs.lookup b with|some i=>some (HO.tbl i)|none=>H b)=_;rw[e]
 have y:∀g:Hp,(∀b,g b=none\/∃Y,g b=some (.frz {cls:=.type "list",data:=.seq L.toArray} (.lst Y)))->P4 K (put g) a (ns.map V.int)->(∀b u,g b=some u->ObjOk P w (put g) f.heap b u)->(∀b,g b≠none->b=a)->(g a≠none->K.lookup a=none)->
   fg (a9 P w) callerA (.call (.ref fa) ⟨[.ref a],[]⟩) (λr s'=>r=.ok (.ret (.bool true))/\OldK f.heap s'.heap/\s'.os=f.os/\AllBare s'.gens) f:=by
  intro g hO hS T hA hK;have U:gJ P w (put g) f.heap:=λb u e=>by
   cases z:Tabs.tbs.lookup b with
   |none=>rw[E _ b z]at e;exact T b u e
   |some i=>rw[rB _ b i z]at e;cases e;exact⟨#[],(C b i z).1,trivial,λp _=>.inl rfl⟩
  have mn:∀{b:a5} {o:Obj},f.heap.get? b=some o->put g b=none->(sZ f.heap<|put g).get? b=some o:=λe n=>SX e n;have none_of:∀{b:a5} {o:Obj},f.heap.get? b=some o->o≠PySem.W.tabObj #[]->o≠{cls:=.type "list",data:=.seq L.toArray}->put g b=none:=λ{b o} e n1 n2=>by
   cases z:Tabs.tbs.lookup b with
   |some i=>have:=(C b i z).1;rw[e]at this;exact absurd (aAm this) n1
   |none=>
    rw[E _ b z];cases q:g b with
    |none=>rfl
    |some u=>have e':b=a:=hA b (by rw[q];simp);subst e';rw[N]at e;exact absurd (aAm e).symm n2
  have t:∀{b:a5} {m:cV},f.heap.Ns b m->(sZ f.heap<|put g).Ns b m:=λ{b m} ⟨o,es,ep,e,d,r⟩=>⟨o,es,ep,mn e (none_of e (λz=>by rw[z]at d;cases d) λz=>by rw[z]at d;cases d),d,r⟩;have hKb:K.In (sZ f.heap<|put g):=λb o e=>mn (KX b o e) (by
   rw[E _ b (noK b o e)];cases q:g b with
   |none=>rfl
   |some u=>have e':b=a:=hA b (by rw[q];simp);subst e';rw[hK (by rw[q];simp)]at e;cases e)
  have hBb:kG mg (sZ f.heap<|put g):=by obtain⟨bm,ob,b1,b2,b3,b4,b5,b6⟩:=hB;exact⟨bm,ob,b1,b2,mn b3 (none_of b3 (λz=>by rw[z]at b6;cases b6) λz=>by rw[z]at b6;cases b6),b4,b5,b6⟩
  have hM:Mod K mg (sZ f.heap<|put g):=⟨hKb,t yp,⟨mb,t j,hbb⟩,let⟨mc,A,l⟩:=J;⟨mc,t A,l⟩⟩;have e0:Env0 P w K mg (sZ f.heap<|put g) callerA [] f (put g):=⟨rfl,hM,λb o e=>XG e,aEs (IS _ _),trivial,λb j=>absurd (show b∈([]:List a5)from j) (by simp),U,.of_eq hg⟩;have tb0:Tb (put g):=λp hp=>rB _ p.1 p.2 (bS hTd hp);refine aDS ((F _ hKb (t yp) hBb).run callerA [] f (put g) ⟨[.ref a],[]⟩ [.ref a] [.ref a] (λv _=>v=.bl true) (λ_ _ _=>False) hr e0 (wc f<|.ref a) (.cons rfl .nil) ⟨a,ns,rfl,hS,hl,we,tb0,λ_=>rfl⟩) λr s' h=>?_;cases r with
  |error e=>exact(show False from h).elim
  |ok fl=>
   cases fl with
   |next=>exact aAh h
   |brk=>exact aAh h
   |cont=>exact aAh h
   |ret u=>
    obtain⟨v,H',os,bare,un,yu,r',q⟩:=h;have q':v=.bl true:=q;subst q';obtain rfl:u=aDD true:=r';have B:∀b o,f.heap.get? b=some o->s'.heap.get? b=some o\/(isCodeTable f.heap b/\o=PySem.W.tabObj #[]/\∃I,s'.heap.get? b=some (PySem.W.tabObj I)):=λb o e=>by
     cases z:Tabs.tbs.lookup b with
     |some i=>have:=(C b i z).1;rw[e]at this;obtain⟨I,hps,_⟩:=yu b _ (un.tbls b i<|rB _ b i z);exact .inr ⟨(C b i z).2,aAm this,I,hps⟩
     |none=>
      refine .inl ?_;rcases hO b with n|⟨Y,n⟩
      .exact un.keep b o e (by rw[E _ b z];exact n) (by intro z;exact absurd (show b∈([]:List a5)from z) (by simp)) (by simp)
      .have z1:put g b=some (.frz {cls:=.type "list",data:=.seq L.toArray} (.lst Y)):=by rw[E _ b z];exact n
       have z2:=un.frzs b _ _ z1;obtain⟨Q,_⟩:=U b _ z1;obtain⟨e2,_⟩:=yu b _ z2;rw[e]at Q;cases Q;exact e2
    refine⟨rfl,⟨λb o e=>?_,λb o e=>?_⟩,os,bare⟩
    .rcases B b o e with h|⟨A,l,I,h3⟩
     .exact .inl h
     .subst l;exact .inr (.inl ⟨A,rfl,#[],I,rfl,by rw[Array.empty_append];exact h3⟩)
    .rcases B b o e with h|⟨A,l,I,h3⟩
     .exact⟨o,h⟩
     .exact⟨_,h3⟩
 cases hk:K.lookup a with
 |some o=>have e:=KX a o hk;rw[N]at e;cases e;refine y (λ_=>none) (λ_=>.inl rfl) (.inr ⟨_,L.toArray,_,hk,rfl,rfl,rfl,by rw[aAq,O];exact jf,by simpa using rv⟩) (λb u z=>by have z':(none:Option HO)=some u:=z;cases z') (λb z=>absurd rfl z) λz=>absurd rfl z
 |none=>
  obtain⟨g,A,l⟩:∃g:Hp,g a=some (.frz {cls:=.type "list",data:=.seq L.toArray} (.lst (ns.map V.int)))/\∀b,b≠a->g b=none:=⟨λb=>if b=a then _ else none,jk rfl,λb j=>ka j⟩;refine y g (λb=>?_) (.inl (.inr ⟨{cls:=.type "list",data:=.seq L.toArray},(E g a nta).trans A⟩)) (λb u z=>?_) (λb z=>?_) λ_=>hk
  .by_cases j:b=a
   .subst j;exact .inr ⟨_,A⟩
   .exact .inl (l b j)
  .by_cases j:b=a
   .subst j;rw[A]at z;cases z;exact⟨N,by rw[aAi];exact jf,L,_,rv,N⟩
   .rw[l b j]at z;cases z
  .by_cases j:b=a
   .exact j
   .exact absurd (l b j) z
def XT {l:PySem.W.OpenLaw}{k:Nat}{q:ba}{e:List Str}{B:(Str->Option ao)->bt->Prop}{y:be->bt->Prop}{d:DefRec}{K:Params->kc}{z:List a5}
  (C:l.most=some 63) (n:d.params.defaults=[]) (E:Room k callerA)
  (H:∀(w:be) (h:bt),y w h->(K w.params).In h/\∀P∈z,h.get? P=some (PySem.W.tabObj #[]))
  (r:∀p∈Tabs.tbs,p.1∈z/\∃c,∀w:be,PySem.W.codeHdIn (K w.params) c p.1=true) (t:(Tabs.tbs.map (·.1)).Nodup) (v:∀w:be,PySem.W.noTabs (K w.params)=true)
  (F:∀(w:be) (mg:cV) (fa:a5) (h:bt),(K w.params).In h->h.Ns bb mg->mg d.name=some (.ref fa)->
   ∃fd:dq,(∀(s:aA) (u:ao),BindsTo s fd ⟨[u],[]⟩ [("script",u)])/\
    ∀base:bt,(K w.params).In base->base.Ns bb mg->kG mg base->FnOk l.prog w (K w.params) mg base sG k fa fd ["script"] (wW (K w.params))):
  PySem.W.WalkO q e B y l.row.toRowW d [] (λf L=>PySem.call f L):=by
 refine Att2.attach_bits C n λw s9 ae mg mb fa o pm cd I a L ns G Y ho hd eh J j i m N O=>?_;obtain⟨x,Q⟩:=H w _ Y;obtain⟨fd,U,hF⟩:=F w mg fa _ x G.T.g J;refine KM x G.T.g G.T.b G.T.builtins G.T.nolimit G.T.bmain O j i m N E (λp hp=>?_) t (v w) hF U;obtain⟨h1,c,h2⟩:=r p hp;have A:=Q p.1 h1;exact⟨A,((PySem.W.codeHd_of_K x<|h2 w).tab A).isCodeTable⟩
section
def WB (own N:List Str)(h:List Nat)(hc:X.calm=true)(S:CompSc X f own N h)(hi:XV X U iter Y)(hX:∀(b:R0) (n:List a5) (k:Cx),(∃s9 Ha C,k=FN X b s9 Ha (own++N) f (cN X f C) C n)->IU k U G/\UB k o ft/\PD k p fe)(hG:∀ρ d ρ1,G d (i8 own h ρ)=.ok ρ1->nR ρ1 (i8 own h ρ))(hs:∀x,dC iter X.env x=pure x:=by intro _;rfl):
  PF X (.ListComp p [⟨U,iter,o,0⟩] f pos) (λρ=>(Y ρ).bind λds=>if ds.length<=sizeLine then w8 G ft fe (i8 own h ρ) ds else .bad):=by
 refine sM λb s σ H Q I H9 O0 O ρ E q=>?_;dsimp only at q;rw[eval_ListComp];refine aDU (use:=none) rfl hs (aL<|Inv.aa9 I S) S.kind S.names ?_;refine G5 (hi b s σ H (λJ g=>∃ds i,Same H g/\ZI X.K J g O ds/\ds.length<=sizeLine/\w8 G ft fe (i8 own h ρ) ds=.ok i/\∀L g a,Same H g->g a=none->Reps X.K g O L i->Q (.ref a) (upd g a<|.lst L)) I ⟨H9,O0,O,ρ,E,lQ I O E.trk,?_⟩) λv s1 h1=>G5 h1 λitv s2 h2=>?_
 .cases t:Y ρ with
  |ex x=>rw[t]at q;exact q
  |bad=>rw[t]at q;exact q
  |ok ds=>
   rw[t,R.aa0]at q;intro J g s1 u;by_cases j:ds.length<=sizeLine
   .rw[jk j]at q;cases l:w8 G ft fe (i8 own h ρ) ds with
    |ex x=>rw[l]at q;exact(q H<|Same.refl _).elim
    |bad=>rw[l]at q;exact q.elim
    |ok i=>rw[l]at q;exact⟨ds,i,s1,u,j,l,q⟩
   .rw[ka j]at q;exact q.elim
 .obtain⟨it,n,tn,J,H2,e,I2,T,ki,f2,ds,i,sm,u,j,y,q⟩:=h2;subst e;refine pS (RR:=λB C=>compPost (a9 X.prog X.w) X.A X.xe none (EP X b σ Q) B C) hc S (hX b n) (hG ρ) I2 T ki f2 (E.grow sm) u.c y j ?_;intro B C s' H' m hn _ _ _ sm' r nw _ hI;obtain⟨g,L,pf,z,eH,rr⟩:=nw;subst eH;exact⟨m,hn,λh' jn=>⟨.ref B,_,hI h' jn,rfl,q L g B (sm.trans pf) z rr⟩⟩
def a1n {Y es:List cf}{p:Pos}{env:Env}:az (.List Y p::es) env=(false,cv (.List Y p) env)::az es env:=rfl
def wz {Y:List cf}{p:Pos}{t:Option cf}{l:Nat}{env:Env}:dA (Expr.List Y p) t l env=pure false:=rfl
end
end
end DL
namespace DL
open PySem L2
def gF (G:D->Ev->R Ev)(F:Ev->R Out)(d:D)(ρ:Ev):R Out:=match G d ρ with
 |.ok a=>F a
 |_=>.bad
@[simp]def bY (i:Nat)(F:Ev->R Out)(d:D)(ρ:Ev):gF (λd ρ=>.ok (ρ.set i (Sl.v d))) F d ρ=F (ρ.set i (.v d)):=rfl
@[simp]def zq (G:D->Ev->R Ev)(F:Ev->R Out)(ρ:Ev):Q6 G F [] ρ=.ok (.nx ρ):=rfl
def KA (h:F (ρ.set i (.v d))=.ok (.nx ρ2)):Q6 (λd ρ=>.ok (ρ.set i (Sl.v d))) F (d::ds) ρ=Q6 (λd ρ=>.ok (ρ.set i (Sl.v d))) F ds ρ2:=by rw[Q6];dsimp only;rw[h]
def RM {α:Type}{a b:α}:(R.ok a=R.ok b)=(a=b):=by simp
class Bd (a:Int)(n:outParam Nat):Prop where
 h:bits a<=n
def X6 (h:bits a<=m)(b:m<=n):bits a<=n:=aAs h b
section
instance Bd.add [p:Bd a m][q:Bd b n]:Bd (a+b) (m+n+1):=⟨bits_add (X6 p.h<|aDP m n) (X6 q.h<|Nat.le_add_left n m)⟩
instance Bd.mul [p:Bd a m][q:Bd b n]:Bd (a*b) (m+n):=⟨bits_mul p.h q.h⟩
def N6 [p:Bd a m][q:Bd b n](d:m<=60000000)(e:n<=60000000):pR (.int a) (.int b)=.ok (.int (a*b)):=j9 ⟨aAs p.h d,aAs q.h e⟩
end
instance Bd.l2:Bd 2 2:=⟨by decide⟩
abbrev vd (v:G.V):D:=.tup [.int v.x,.int v.y,.int v.z]
def Sz (n:Nat)(v:G.V):Prop:=bits v.x<=n/\bits v.y<=n/\bits v.z<=n
def Sz.mono (h:Sz m v)(a:m<=n:=by decide):Sz n v:=⟨X6 h.1 a,X6 h.2.1 a,X6 h.2.2 a⟩
def Sz.sub (h:Sz n u)(h':Sz n v):Sz (n+1) (u-v):=⟨bits_sub h.1 h'.1,bits_sub h.2.1 h'.2.1,bits_sub h.2.2 h'.2.2⟩
def Sz.add (h:Sz n u)(h':Sz n v):Sz (n+1) (u+v):=⟨bits_add h.1 h'.1,bits_add h.2.1 h'.2.1,bits_add h.2.2 h'.2.2⟩
def Sz.cr (h:Sz m u)(h':Sz n v):Sz (m+n+1) (G.cr u v):=⟨bits_sub (bits_mul h.2.1 h'.2.2) (bits_mul h.2.2 h'.2.1),bits_sub (bits_mul h.2.2 h'.1) (bits_mul h.1 h'.2.2),bits_sub (bits_mul h.1 h'.2.1) (bits_mul h.2.1 h'.1)⟩
end DL
namespace M
open PySem L2 DL
abbrev pt (a b c:Int):D:=.tup [.int a,.int b,.int c]
abbrev ZF (n:Nat)(a b c:Int):Prop:=bits a<=n/\bits b<=n/\bits c<=n
def HW (k:List D->List D->R D):List D->R D
 |.lst Y::a=>k Y a
 |_=>.bad
def UC (k:List D->List D->R D):List D->R D
 |.tup Y::a=>k Y a
 |_=>.bad
def zA (k:Int->List D->R D):List D->R D
 |.int a::b=>k a b
 |_=>.bad
def X3 {k:Int->List D->R D}{ds:List D}{r:D}(h:zA k ds=.ok r):∃a e,ds=.int a::e/\k a e=.ok r:=by
 unfold zA at h;split at h
 .exact⟨_,_,rfl,h⟩
 .cases h
def iZ (q:R D):List D->R D
 |[]=>q
 |_=>.bad
def eJ (h:HW k ds=.ok r):∃Y e,ds=.lst Y::e/\k Y e=.ok r:=by
 unfold HW at h;split at h
 .exact⟨_,_,rfl,h⟩
 .cases h
def xW (h:UC k ds=.ok r):∃Y e,ds=.tup Y::e/\k Y e=.ok r:=by
 unfold UC at h;split at h
 .exact⟨_,_,rfl,h⟩
 .cases h
def y6 (h:iZ q ds=.ok r):ds=[]/\q=.ok r:=by
 unfold iZ at h;split at h
 .exact⟨rfl,h⟩
 .cases h
def v1 (k:Int->Int->Int->List D->R D):List D->R D:=UC λY e=>zA (λa=>zA λb=>zA λc=>iZ (k a b c e)) Y
def v4 (k:Int->Int->Int->Int->List D->R D):List D->R D:=UC λY e=>zA (λa=>zA λb=>zA λc=>zA λd=>iZ (k a b c d e)) Y
def v3 (k:Int->Int->Int->List D->R D):List D->R D:=UC λY e=>zA (λa=>zA λb=>zA λc _=>k a b c e) Y
def ZS (h:v3 k ds=.ok r):∃a b c t e,ds=.tup (.int a::.int b::.int c::t)::e/\k a b c e=.ok r:=by obtain⟨Y,e,rfl,h⟩:=xW h;obtain⟨a,x,rfl,h⟩:=X3 h;obtain⟨b,y,rfl,h⟩:=X3 h;obtain⟨c,z,rfl,h⟩:=X3 h;exact⟨a,b,c,z,e,rfl,h⟩
def B1 (h:v1 k ds=.ok r):∃a b c e,ds=.tup [.int a,.int b,.int c]::e/\k a b c e=.ok r:=by obtain⟨Y,e,rfl,h⟩:=xW h;obtain⟨a,x,rfl,h⟩:=X3 h;obtain⟨b,y,rfl,h⟩:=X3 h;obtain⟨c,z,rfl,h⟩:=X3 h;obtain⟨rfl,h⟩:=y6 h;exact⟨a,b,c,e,rfl,h⟩
def QN (h:v4 k ds=.ok r):∃a b c d e,ds=.tup [.int a,.int b,.int c,.int d]::e/\k a b c d e=.ok r:=by obtain⟨Y,e,rfl,h⟩:=xW h;obtain⟨a,x,rfl,h⟩:=X3 h;obtain⟨b,y,rfl,h⟩:=X3 h;obtain⟨c,z,rfl,h⟩:=X3 h;obtain⟨d,w,rfl,h⟩:=X3 h;obtain⟨rfl,h⟩:=y6 h;exact⟨a,b,c,d,e,rfl,h⟩
def l4:List D->R D:=v1 λa b c=>v1 λd e f=>iZ (.ok (pt (d-a) (e-b)<|f-c))
def u4:List D->R D:=v1 λa b c=>v1 λd e f=>iZ (if ZF 20000000 a b c/\ZF 20000000 d e f then .ok (pt (b*f-c*e) (c*d-a*f)<|a*e-b*d)else .bad)
def j2:List D->R D:=v3 λa b c=>v1 λd e f=>iZ (if ZF 50000000 a b c/\ZF 50000000 d e f then .ok (.int (a*d+b*e+c*f))else .bad)
@[simp]def qE (P Q:G.V):l4 [vd P,vd Q]=.ok (vd (Q-P)):=rfl
def S1 (a:Sz 20000000 u)(b:Sz 20000000 v):u4 [vd u,vd v]=.ok (vd (G.cr u v)):=jk ⟨a,b⟩
def V2 (a:Sz 50000000 u)(b:Sz 50000000 v):j2 [vd u,vd v]=.ok (.int (G.d5 u v)):=jk ⟨a,b⟩
def mY (P Q R S:G.V):Int:=G.d5 (G.cr (Q-P)<|R-P) (S-P)
open Classical in
def fS:List D->R D:=v1 λa b c=>v1 λd e f=>v1 λg h i=>v1 λj k l=>iZ (if Sz 1000000 ⟨a,b,c⟩/\Sz 1000000 ⟨d,e,f⟩/\Sz 1000000 ⟨g,h,i⟩/\Sz 1000000 ⟨j,k,l⟩then .ok (.int (mY ⟨a,b,c⟩ ⟨d,e,f⟩ ⟨g,h,i⟩ ⟨j,k,l⟩))else .bad)
def XE {P Q R S:G.V}(a:Sz 1000000 P)(b:Sz 1000000 Q)(d:Sz 1000000 R)(e:Sz 1000000 S):fS [vd P,vd Q,vd R,vd S]=.ok (.int (mY P Q R S)):=jk ⟨a,b,d,e⟩
def rule (k:Int):Int:=7*k*k+10*k+3
def P64:Int:=10^64
def P34:Int:=10^34
def a4m:Int:=P64*P34
def sgn (x:Int):Int:=if 0<x then 1 else if x<0 then-1 else 0
def aT:List D->R D:=v4 λa b c d=>v1 λx y z=>iZ (if ZF 50000000 a b c/\ZF 50000000 x y z then .ok (.int (sgn<|a*x+b*y+c*z-d))else .bad)
def XY (e:ZF 50000000 a b c)(f:ZF 50000000 x y z):aT [.tup [.int a,.int b,.int c,.int d],pt x y z]=.ok (.int (sgn (a*x+b*y+c*z-d))):=jk ⟨e,f⟩
def YX (i:Nat)(ρ:Ev):Nat:=match ρ[i]? with
 |some (.v (.int b))=>b.natAbs+2
 |_=>0
def BL (d:bits a<=n)(f:bits b<=n):bits (aGy a b)<=n:=by
 refine HL ?_;have g:=IG d;have h:=IG f;have e:((aGy a b:Nat):Int).natAbs=aGy a b:=by simp
 rw[e];unfold aGy;rcases Nat.eq_zero_or_pos a.natAbs with z|z
 .rw[z,Nat.gcd_zero_left];exact h
 .exact aCQ (Nat.gcd_le_left _ z) g
end M
namespace DL
open PySem PySem.Spec L2
open PyProof.Rows hiding St
theorem P8:∀{ns:List Int} {a:List ao},p9 (ns.map V.int) a->IntsAre a ns
 |[],_,.nil=>.nil
 |n::ns,_,.cons r t=>by obtain⟨b,rfl⟩:=r;exact .cons n b (P8 t)
section
def JN (j:X.calm=true):BQ X (.builtin "sum") (λY H Q=>∃(p:a5) (ns:List Int),Y=[.ref p]/\P4 X.K H p (ns.map V.int)/\Q (.int ns.sum) H):=by
 intro f s σ H Y x Q I r h;obtain⟨p,ns,rfl,k,q⟩:=h;obtain⟨u,rfl,l⟩:=vals1 r;cases l;obtain⟨a,m,n,y⟩:=I.list k;have g:=P8 m;obtain⟨b,e⟩:=g.allInts.items;have i:=n.isList;rw[e]at i;refine sum_intListG (I.ok.hd j) i λz A o t=>?_;have v:preSum (gA b) b.size=ns.sum:=by have d:=nums_intItems b;rw[<-e]at d;have w:=g.numsOf;rw[show a.toArray.toList=a from rfl,w]at d;rw[preSum_eq,aDn (by simp),d]
 rw[v];exact⟨.int ns.sum,H,I.kept t,⟨o,rfl⟩,q⟩
def dP:List D->Option (List Int)
 |[]=>some []
 |.int i::r=>(dP r).map (i::·)
 |_=>none
theorem fD:∀{ds:List D} {ns:List Int},dP ds=some ns->ds=ns.map D.int
 |[],ns,h=>by cases h;rfl
 |.int i::r,ns,h=>by simp only[dP,aDm]at h;obtain⟨m,a,rfl⟩:=h;rw[fD a];rfl
 |.non::_,_,h=>by cases h
 |.bl _::_,_,h=>by cases h
 |.str _::_,_,h=>by cases h
 |.tup _::_,_,h=>by cases h
 |.lst _::_,_,h=>by cases h
 |.dct::_,_,h=>by cases h
theorem jK:∀ns:List Int,dP (ns.map D.int)=some ns
 |[]=>rfl
 |n::ns=>by simp[dP,jK ns]
theorem fX {K:kc}{H:Hp}{O:a5->Prop}:∀{L:List V} {ns:List Int},Reps K H O L (ns.map D.int)->L=ns.map V.int
 |[],[],_=>rfl
 |v::L,n::ns,.cons h t=>by cases h;rw[fX t];rfl
def WV:List D->R D
 |[.lst Y]=>match dP Y with
  |some a=>.ok (.int a.sum)
  |none=>.bad
 |_=>.bad
variable [Tabs]in
def FU (d:X.calm=true):eZ X (.builtin "sum") WV:=by
 intro H O L f Q h r q;match f,q with
 |[.lst Y],q=>
  obtain⟨v,rfl,z⟩:=LV r;obtain⟨p,i,rfl,a,b⟩:=z.aa5;simp only[WV]at q;cases e:dP Y with
  |none=>rw[e]at q;exact q.elim
  |some g=>rw[e]at q;rw[fD e]at b;rw[fX b]at a;exact⟨_,JN d,p,g,rfl,a,q _ H (Same.refl _) .int⟩
end
theorem lW (Iv:List D->Ev->Prop)(b:∀d ds ρ,Iv (d::ds) ρ->∃ρ2,gF G F d ρ=.ok (.nx ρ2)/\Iv ds ρ2):∀{ds:List D} {ρ:Ev},Iv ds ρ->∃ρ',Q6 G F ds ρ=.ok (.nx ρ')/\Iv [] ρ'
 |[],ρ,h=>⟨ρ,rfl,h⟩
 |d::ds,ρ,h=>by
  obtain⟨ρ2,e,f⟩:=b d ds ρ h;obtain⟨ρ',g,i⟩:=lW Iv b f;unfold gF at e;cases a:G d ρ with
  |ok j=>rw[a]at e;exact⟨ρ',by rw[Q6,a];dsimp only at e⊢;rw[e];exact g,i⟩
  |ex x=>rw[a]at e;cases e
  |bad=>rw[a]at e;cases e
def aU (Iv:List D->Ev->Prop)(a:∀d ds ρ,Iv (d::ds) ρ->∃ρ2,gF G F d ρ=.ok (.nx ρ2)/\Iv ds ρ2)(h0:Iv ds ρ)(b:∀ρ',Iv [] ρ'->R1 (f ρ')=.ok d):
  R1 (D6 (Q6 G F ds ρ) f)=.ok d:=by
 obtain⟨ρ',e,h⟩:=lW Iv a h0;rw[e];exact b ρ' h
def qQ {Post:Ev->Prop}(Iv:Nat->Ev->Prop)(b:∀n ρ,Iv (n+1) ρ->c ρ=.ok false\/(c ρ=.ok true/\∃ρ2,F ρ=.ok (.nx ρ2)/\Iv n ρ2))(a:∀ρ,¬Iv 0 ρ)(h0:Iv n ρ)(d:∀m ρ',Iv m ρ'->c ρ'=.ok false->Post ρ'):∃ρ2,S9 c F n ρ=.ok (.nx ρ2)/\Post ρ2:=by obtain⟨m,ρ',e,h,f⟩:=iY Iv b a n ρ h0;exact⟨ρ',e,d m ρ' h f⟩
end DL
namespace M
open PySem L2 DL
abbrev wI (n:G.V)(d:Int):D:=.tup [.int n.x,.int n.y,.int n.z,.int d]
def K3:List D->R D:=v1 λa b c=>iZ (.ok (.int (G.u0 ⟨a,b,c⟩)))
def DQ (v:G.V):K3 [vd v]=.ok (.int (G.u0 v)):=rfl
def Sz3 (P Q R:G.V):Prop:=Sz 1000 P/\Sz 1000 Q/\Sz 1000 R
open Classical in
def T2:List D->R D:=v1 λa b c=>v1 λd e f=>v1 λg h i=>iZ (
 if Sz3 ⟨a,b,c⟩ ⟨d,e,f⟩ ⟨g,h,i⟩/\G.cr ((⟨d,e,f⟩:G.V)-⟨a,b,c⟩) ((⟨g,h,i⟩:G.V)-⟨a,b,c⟩)≠0 then .ok (wI (G.d9 ⟨a,b,c⟩ ⟨d,e,f⟩ ⟨g,h,i⟩).1 (G.d9 ⟨a,b,c⟩ ⟨d,e,f⟩ ⟨g,h,i⟩).2)else .bad)
def OI {P Q R:G.V}(h:Sz3 P Q R)(a:G.cr (Q-P) (R-P)≠0):T2 [vd P,vd Q,vd R]=.ok (wI (G.d9 P Q R).1 (G.d9 P Q R).2):=jk ⟨h,a⟩
def tQ (h:Sz n v):bits (G.u0 v:Nat)<=n:=by
 have e:((G.u0 v:Nat):Int)=aGy (aGy v.x v.y:Nat) v.z:=by simp[G.u0,aGy]
 rw[e];exact BL (BL h.1 h.2.1) h.2.2
def dJ {a g:Int}(h:0<g):a.fdiv g=a/g:=Int.fdiv_eq_ediv_of_nonneg a (aAT h)
end M
namespace DL
open PySem PySem.Spec L2
open PyProof.Rows hiding St
variable [Tabs]
mutual
inductive HV (h:Heap):Value->D->Prop
 |int (i:Int) (t:Tok):HV h (.int i t) (.int i)
 |tup {a:Addr} {items:Array Value} {ds:List D} (p:IsTup h a items) (r:HVs h items.toList ds):HV h (.ref a) (.tup ds)
inductive HVs (h:Heap):List Value->List D->Prop
 |nil:HVs h [] []
 |cons {v:Value} {d:D} {L:List Value} {ds:List D} (r:HV h v d) (t:HVs h L ds):HVs h (v::L) (d::ds)
end
mutual
def oE:D->Bool
 |.int _=>true
 |.tup Y=>cU Y
 |_=>false
def cU:List D->Bool
 |[]=>true
 |x::Y=>oE x&&cU Y
end
theorem iE:∀Y:List D,wS Y=Y.map q9
 |[]=>rfl
 |x::Y=>by rw[wS,iE Y];rfl
section
mutual
theorem HV.keeps (k:∀b o,h.get? b=some o->o.cls=.type "tuple"->h'.get? b=some o):∀{v:ao} {d:D},HV h v d->HV h' v d
 |_,_,.int i t=>.int i t
 |_,_,.tup p r=>.tup (by obtain⟨o,e,c,n,d⟩:=p;exact⟨o,k _ _ e c,c,n,d⟩) (HVs.keeps k r)
theorem HVs.keeps (k:∀b o,h.get? b=some o->o.cls=.type "tuple"->h'.get? b=some o):∀{v:List ao} {d:List D},HVs h v d->HVs h' v d
 |_,_,.nil=>.nil
 |_,_,.cons r t=>.cons (HV.keeps k r) (HVs.keeps k t)
end
mutual
theorem HV.inj:∀{v:ao} {d d':D},HV h v d->HV h v d'->d=d'
 |_,_,_,.int i t,.int _ _=>rfl
 |_,_,_,.tup p r,.tup f g=>by obtain⟨o,e,c,n,j⟩:=p;obtain⟨k,a,l,m,b⟩:=f;rw[e]at a;cases a;rw[j]at b;injection b with q _;subst q;rw[HVs.inj r g]
theorem HVs.inj:∀{v:List ao} {d d':List D},HVs h v d->HVs h v d'->d=d'
 |_,_,_,.nil,.nil=>rfl
 |_,_,_,.cons r t,.cons a b=>by rw[HV.inj r a,HVs.inj t b]
end
theorem HVs.length:∀{v:List ao} {d:List D},HVs h v d->v.length=d.length
 |_,_,.nil=>rfl
 |_,_,.cons _ t=>by simp[HVs.length t]
end
section
variable{prog:ba} {w:be}
def PH (prog:ba)(w:be)(h:bt)(v:ao)(d:D):Prop:=∀(A:bc) (E:E8) (s:aA) (Q:Int->aA->Prop),s.heap=h->A.units+8*F5 d<cq->(∀a,s.toks<=a->Q (q9 d) {s with toks:=a})->av (a9 prog w) A (pyHash v) Q E s
mutual
theorem ZR:∀{v:ao} {d:D},HV h v d->PH prog w h v d
 |_,_,.int i t=>λA E s Q J L q=>by exact(intKind prog w).pyHash (k:=i) (intKind_is _ _ _ _) (q _<|Nat.le_succ _)
 |_,_,.tup (a:=a) (items:=items) (ds:=ds) p r=>λA E s Q J L q=>by
  have fs:=SU r;subst J;obtain⟨o,N,T,n,U⟩:=p;have u:s.TypeIs (.ref a) "tuple":=⟨o,N,T⟩;have C:A.units<cq:=by lia
  rw[F5]at L;unfold pyHash;first|unfold pyHashByItsType|skip
  first|refine aAa (wpAny_cRoomFor_or (.inr C) ?_)|skip
  refine aAa (aBD u PySem.F.slot_tuple_hash.lookup ?_);show av _ _ (if(some (aGp "tuple.__hash__")==some Value.none)=true then _ else _) Q E s;rw[ka (by rw[aFz];exact aBg)];refine aAa (aBD u PySem.F.slot_tuple_hash.lookup ?_);show av _ _ (callSpecialIfBoundUnlessNone? (.ref a) "__hash__" _>>=_) Q E s;refine aAa (aDt u PySem.F.slot_tuple_hash<|aBn PySem.F.slot_tuple_hash u PySem.F.entry_tuple_hash ?_ (PySem.F.args_tuple_hash_1 _));show av _ _ (aDH (.ref a)>>=_) _ _ s;refine aAa (wpAny_tupleItemsOf N U ?_);refine aAa ?_;rw[<-aCz];refine aCC _
   (λrest (b:Array Int) H=>∃done left g,ds=done++left/\Paired (PH prog w s.heap) rest left/\b.toList=done.map q9/\s.toks<=g/\H={s with toks:=g})
   _ ?_ ?_ _ _ ⟨[],ds,s.toks,rfl,fs,rfl,aAj _,rfl⟩
  .rintro x rest b H ⟨done,left,g,l,I,y,Y,rfl⟩;cases I with
   |@cons _ d _ e h1 O=>
    refine aAa (h1 _ _ _ _ rfl ?_ λz f=>?_)
    .have:F5 d<=J3 ds:=by rw[l];exact xT (j:=done.length) (by simp)
     rw[w5];lia
    first
     |exact aAb ⟨done++[d],e,z,by simp[l],O,by simp[y],by(have:g<=z:=f);lia,rfl⟩
     |exact aAa (aAb (aAb ⟨done++[d],e,z,by simp[l],O,by simp[y],by(have:g<=z:=f;lia),rfl⟩))
  .rintro b H ⟨done,left,g,l,I,y,Y,rfl⟩;cases I;rw[aBk]at l;subst l;show av _ _ (retInt<|aAK b.toList) _ _ _;rw[y];refine wpAny_ret_mkInt ?_;show av _ _ (if(decide (-(2:Int)^63<=aAK (ds.map q9))&&decide (aAK (ds.map q9)<2^63))=true then _ else _) Q E _;have m:=q (g+1) (by lia);rw[q9,iE]at m;unfold reduceHash at m;by_cases B:(decide (-(2:Int)^63<=aAK (ds.map q9))&&decide (aAK (ds.map q9)<2^63))=true
   .rw[jk B];rw[jk B]at m;exact aAb m
   .rw[ka B];rw[ka B]at m;exact aAa (aDC<|aAb m)
theorem SU:∀{v:List ao} {d:List D},HVs h v d->Paired (PH prog w h) v d
 |_,_,.nil=>.nil
 |_,_,.cons r t=>.cons (ZR r) (SU t)
end
mutual
theorem HX:∀{v u:ao} {d e:D} {A:bc},HV s.heap v d->HV s.heap u e->A.units+F5 d<cq->SeqAt.EqAt A s v u (x9 d e)
 |_,_,_,_,A,.int i t,.int j h,_=>by simp only[x9];exact aFd _ _ _ _
 |_,_,_,_,A,.int i t,.tup p r,b=>by simp only[x9];exact aFT _ _ p (by lia)
 |_,_,_,_,A,.tup p r,.int j h,b=>by simp only[x9];exact aFU _ _ p (by lia)
 |_,_,_,_,A,.tup (a:=a) (ds:=ds) p r,.tup (a:=k) (ds:=l) g f,b=>by
  by_cases e:a=k
  .subst e;have:=HV.inj (.tup p r) (.tup g f);rw[this,P1];exact aEb _
  .simp only[x9];rw[F5]at b;exact aFe e (kS (by simpa using p) (by simpa using g) r.length f.length (by lia) (TJ r f (by rw[w5];lia))).1
theorem TJ:∀{L e:List ao} {ds es:List D} {A:bc},HVs s.heap L ds->HVs s.heap e es->A.in1.units+J3 ds<cq->oT A s L e ds es
 |_,_,_,_,A,.nil,_,_=>λj u w a b=>by simp at a
 |_,_,_,_,A,.cons r t,.nil,_=>λj u w a b=>by simp at b
 |_,_,_,_,A,.cons (d:=d) (ds:=ds) r t,.cons (d:=i) (ds:=k) f g,h=>λj u w a b=>by
  rw[J3]at h;match j,a,b with
  |0,a,b=>simp only[aCF,aGv]at a b;subst a b;exact HX r f (by lia)
  |j+1,a,b=>simp only[aEc]at a b;exact TJ t g (by lia) j u w a b
end
mutual
theorem fI:∀{d e:D},oE d=true->oE e=true->x9 d e=true->d=e
 |.int i,.int j,_,_,h=>by simp[x9]at h;rw[h]
 |.tup Y,.tup f,a,b,h=>by rw[oE]at a b;rw[x9]at h;rw[yW a b h]
 |.int _,.tup _,_,_,h=>by simp[x9]at h
 |.tup _,.int _,_,_,h=>by simp[x9]at h
 |.non,_,h,_,_=>by simp[oE]at h
 |.bl _,_,h,_,_=>by simp[oE]at h
 |.str _,_,h,_,_=>by simp[oE]at h
 |.lst _,_,h,_,_=>by simp[oE]at h
 |_,.non,_,h,_=>by simp[oE]at h
 |_,.bl _,_,h,_=>by simp[oE]at h
 |_,.str _,_,h,_=>by simp[oE]at h
 |_,.lst _,_,h,_=>by simp[oE]at h
theorem yW:∀{d e:List D},cU d=true->cU e=true->aK d e=true->d=e
 |[],[],_,_,_=>rfl
 |[],_::_,_,_,h=>by simp[aK]at h
 |_::_,[],_,_,h=>by simp[aK]at h
 |x::Y,y::f,a,b,h=>by rw[cU,aAO]at a b;rw[aK,aAO]at h;rw[fI a.1 b.1 h.1,yW a.2 b.2 h.2]
end
mutual
theorem HV.ok:∀{v:ao} {d:D},HV h v d->oE d=true
 |_,_,.int i t=>rfl
 |_,_,.tup p r=>by rw[oE];exact HVs.ok r
theorem HVs.ok:∀{v:List ao} {d:List D},HVs h v d->cU d=true
 |_,_,.nil=>rfl
 |_,_,.cons r t=>by rw[cU,HV.ok r,HVs.ok t];rfl
end
mutual
theorem jT:∀{v:ao} {d:D} (k:Nat),HV h v d->F5 d<k->∀(M:Model) (A:bc) (E:E8) (s:aA) (Q:zW),s.heap=h->Q true s->av M A (eqIsQuiet k v) Q E s
 |_,_,k,.int i t,_=>λM A E s Q m q=>by unfold eqIsQuiet;exact aAb q
 |_,_,k,.tup (a:=a) (items:=items) (ds:=ds) p r,e=>λM A E s Q m q=>by
  subst m;obtain⟨o,u,y,n,z⟩:=p;have x:s.TypeIs (.ref a) "tuple":=⟨o,u,y⟩;match k,e with
  |k+1,e=>
   rw[F5]at e;unfold eqIsQuiet;refine aAa (aBD x PySem.F.slot_tuple_eq.lookup ?_);show av _ _ (isInstance (.ref a) (.type "tuple")>>=_) _ _ s;refine aAa (aDi x isSubtype_tuple_tuple ?_);simp only[aDf,aAt,if_false];refine aAa (aBT u z ?_);refine aAa ?_;show av _ _ (forIn items _ _) _ _ s;rw[<-aCz];refine aCC _ (λrest r b=>r.1=none/\b=s/\∃f,HVs s.heap rest f/\J3 f<k) _ ?_ ?_ _ _ ⟨rfl,rfl,ds,r,by lia⟩
   .rintro v rest r b ⟨g,rfl,f,j,l⟩;cases j with
    |@cons _ d _ B j C=>rw[J3]at l;refine aAa (jT k j (by lia) M A E b _ rfl ?_);simp only[aDf,aAt,if_false];exact aAb ⟨rfl,rfl,B,C,by lia⟩
   .rintro⟨H,I⟩ b ⟨g,rfl,_⟩;simp only at g;subst g;exact aAb q
end
mutual
theorem iD:∀{v:ao} {d:D} (k:Nat),HV h v d->F5 d<k->∀(M:Model) (A:bc) (E:E8) (s:aA) (Q:zW),s.heap=h->Q false s->av M A (ofAClassStatement k v) Q E s
 |_,_,k,.int i t,_=>λM A E s Q m q=>by unfold ofAClassStatement;exact aAb q
 |_,_,k,.tup (a:=a) (items:=items) (ds:=ds) p r,e=>λM A E s Q m q=>by
  subst m;obtain⟨o,u,x,n,y⟩:=p;have z:s.TypeIs (.ref a) "tuple":=⟨o,u,x⟩;match k,e with
  |k+1,e=>
   rw[F5]at e;unfold ofAClassStatement;refine aAa (aDT z ?_);dsimp only;rw[jk (by decide)];refine aAa (aAb ?_);simp only[aDf,aAt,if_false];refine aAa (aBT u y ?_);dsimp only;refine aAa ?_;show av _ _ (forIn items _ _) _ _ s;rw[<-aCz];refine aCC _ (λrest r b=>r.1=none/\b=s/\∃f,HVs s.heap rest f/\J3 f<k) _ ?_ ?_ _ _ ⟨rfl,rfl,ds,r,by lia⟩
   .rintro v rest r b ⟨g,rfl,f,j,l⟩;cases j with
    |@cons _ d _ B j C=>rw[J3]at l;refine aAa (iD k j (by lia) M A E b _ rfl ?_);simp only[aAt,if_false];exact aAb ⟨rfl,rfl,B,C,by lia⟩
   .rintro⟨H,I⟩ b ⟨g,rfl,_⟩;simp only at g;subst g;exact aAb q
end
mutual
theorem qL:∀{v:ao} {d:D} (k:Nat),HV h v d->F5 d<k->∀(M:Model) (A:bc) (E:E8) (s:aA) (Q:zW),s.heap=h->Q true s->av M A (hashByValue k v) Q E s
 |_,_,k,.int i t,_=>λM A E s Q m q=>by unfold hashByValue;exact aAb q
 |_,_,k,.tup (a:=a) (items:=items) (ds:=ds) p r,e=>λM A E s Q m q=>by
  subst m;obtain⟨o,u,x,n,y⟩:=p;have z:s.TypeIs (.ref a) "tuple":=⟨o,u,x⟩;match k,e with
  |k+1,e=>
   rw[F5]at e;unfold hashByValue;refine aAa (aBD z PySem.F.slot_tuple_hash.lookup ?_);dsimp only;refine aAa (aBT u y ?_);refine aAa ?_;show av _ _ (forIn items _ _) _ _ s;rw[<-aCz];refine aCC _ (λrest r b=>r.1=none/\b=s/\∃f,HVs s.heap rest f/\J3 f<k) _ ?_ ?_ _ _ ⟨rfl,rfl,ds,r,by lia⟩
   .rintro v rest r b ⟨g,rfl,f,j,l⟩;cases j with
    |@cons _ d _ B j C=>rw[J3]at l;refine aAa (qL k j (by lia) M A E b _ rfl ?_);simp only[aDf,aAt,if_false];exact aAb ⟨rfl,rfl,B,C,by lia⟩
   .rintro⟨H,I⟩ b ⟨g,rfl,_⟩;simp only at g;subst g;exact aAb q
end
def lG {α:Type}{M:Model}{A:bc}{E:E8}{s:aA}{Q:α->aA->Prop}{c:Prop}[Decidable c]{a b:Sem α}(d:c->av M A a Q E s)(e:¬c->av M A b Q E s):av M A (if c then a else b) Q E s:=by
 by_cases h:c
 .rw[jk h];exact d h
 .rw[ka h];exact e h
def aj {M:Model}{A:bc}{E:E8}{s:aA}{Q:zW}{x:ao}{d:D}(j:HV s.heap x d)(k:F5 d<8)(ys:List ao)(m:∀y∈ys,∃e,HV s.heap y e/\F5 e<8)(q:Q false s):av M A (searchCouldBeSeen x ys) Q E s:=by
 unfold searchCouldBeSeen;refine aAa ?_;refine aCC _ (λrest r a=>r.1=none/\a=s/\∀y∈rest,y∈ys) _ ?_ ?_ _ _ ⟨rfl,rfl,λy h=>h⟩
 .rintro y rest r a ⟨f,rfl,g⟩;obtain⟨e,l,b⟩:=m y (g y (by simp));dsimp only;refine lG (λ_=>?_) (λ_=>?_)
  .exact aAb ⟨rfl,rfl,λz i=>g z (aAe _ i)⟩
  .refine aAa (jT 8 j k M A E a _ rfl ?_);simp only[aDf,aAt,if_false];refine aAa (jT 8 l b M A E a _ rfl ?_);simp only[aDf,aAt,if_false];refine aAa (iD 8 j k M A E a _ rfl ?_);simp only[aAt,if_false];refine aAa (iD 8 l b M A E a _ rfl ?_);simp only[aAt,if_false];exact aAb ⟨rfl,rfl,λz i=>g z (aAe _ i)⟩
 .rintro⟨n,o⟩ a ⟨f,rfl,_⟩;simp only at f;subst f;exact aAb q
end
def EV (h:bt)(e:Int×ao)(d:D):Prop:=HV h e.2 d/\e.1=q9 d
theorem J4 {α β:Type}{F:α->β->Prop}:∀{l:List α} {m:List β} {i:Nat} {a:α},Paired F l m->l[i]?=some a->∃b,m[i]?=some b/\F a b
 |_,_,_,_,.nil,h=>by simp at h
 |_,_,0,_,.cons r _,h=>by simp at h;subst h;exact⟨_,rfl,r⟩
 |_,_,i+1,a,.cons _ t,h=>by obtain⟨b,d,e⟩:=J4 (i:=i) t (by simpa using h);exact⟨b,by simpa using d,e⟩
theorem dM {α β:Type}{F:α->β->Prop}:∀{l:List α} {m:List β} {i:Nat} {b:β},Paired F l m->m[i]?=some b->∃a,l[i]?=some a/\F a b
 |_,_,_,_,.nil,h=>by simp at h
 |_,_,0,_,.cons r _,h=>by simp at h;subst h;exact⟨_,rfl,r⟩
 |_,_,i+1,a,.cons _ t,h=>by obtain⟨b,d,e⟩:=dM (i:=i) t (by simpa using h);exact⟨b,by simpa using d,e⟩
theorem gP {α β:Type}{F:α->β->Prop}:∀{l:List α} {m:List β},Paired F l m->l.length=m.length
 |_,_,.nil=>rfl
 |_,_,.cons _ t=>by simp[gP t]
section
variable{es:Array (Int×ao)}
def jU (K:ST.SOk t es.toList):t.fits es.size=true:=by
 have a:=K.len;have d:=K.room;have b:=K.tab.nod;unfold aGq SetTable.fill;rw[b];simp at a⊢
 lia
theorem nG (ho:s.heap.get? S=some o)(hd:o.data=.set es ep t)(K:ST.SOk t es.toList)(B:t.mask%2=1)(P:Paired (EV s.heap) es.toList ds)(N:HV s.heap (.ref x) (.tup Y))(C:F5 (.tup Y)<8)(xr:∀e∈ds,F5 e<8)(hT:∀e∈ds,∃ys,e=.tup ys)
  (hu:A.units+16<cq) (hf:ST.V6 t (q9 (.tup Y)) n0) {Q:SetFound->aA->Prop} (g:D.tup Y∈ds->Q (.there none) s) (b:D.tup Y∉ds->Q (.free (ST.n9 t.mask (q9 (.tup Y)) n0).j false) s):
  ∀(a n:Nat) (O:Option SetTable.Probe),O.getD (t.probeStart (q9 (.tup Y)))=ST.n9 t.mask (q9 (.tup Y)) n->n<=n0->n0-n<a->
   (∀m<n,∀(i:Nat),t.place[i]?=some (ST.n9 t.mask (q9 (.tup Y)) m).j->ds[i]?≠some (.tup Y))->av (a9 prog w) A (setSearchFrom S (.ref x) (q9 (.tup Y)) true a O) Q E s
 |0,n,O,_,_,h,_=>by lia
 |a+1,n,O,jl,hn,hfu,H=>by
  unfold setSearchFrom;refine aAa (aCq ho hd (jU K) ?_);dsimp only;refine lG (λz=>?_) (λ_=>?_)
  .unfold SetTable.gaveWay at z;simp at z;lia
  rw[jl];obtain⟨T,a1,a2,a3,a4⟩:=ST.SY K.tab (λi=>(es[i]?.map (·.1)).getD 0) (q9<|.tup Y) hf n hn;generalize hg:t.probe _ (q9<|.tup Y) (ST.n9 t.mask (q9<|.tup Y) n)=pm;rcases a4 with⟨en,e⟩|⟨ai,i,u,hh,e⟩
  .have ep:pm=_:=hg.symm.trans e;rw[ep];dsimp only;refine aAb (b λI=>?_);obtain⟨i,u⟩:=aCa.mp I;obtain⟨⟨J,v⟩,he,h1,h2⟩:=dM P u;obtain⟨j,U,qi⟩:=ST.WC K.len he;dsimp only at h2;have hr:=K.reach _ qi;dsimp only at hr;rw[h2]at hr;obtain⟨m,I,em⟩:=ST.Reach.before hf (by rw[<-aAB]at U;exact aAu U) hr;by_cases z:m<n
   .exact H m z i (by rw[em];exact U) u
   .obtain⟨f,fb,af⟩:=a3 m (by lia) (by lia);have:f=i:=by have g:=ST.M7 K.tab fb;have b:=ST.M7 K.tab U;rw[em]at g;rw[g]at b;injection b
    subst this;refine af ?_;show(es[f]?.map (·.1)).getD 0=_;rw[<-aAB,he];exact h2
  .have ep:pm=_:=hg.symm.trans e;rw[ep];dsimp only;have L:i<es.size:=by
    have:=(aCn.mp u).1;have h1:=K.len;simp at h1
    lia
   have l:es[i]?=some es[i]:=aAx L;obtain⟨di,d,J,q⟩:=J4 P (show es.toList[i]?=some es[i]by rw[aAB];exact l);obtain⟨ys,rfl⟩:=hT di (aAu d);have go:av (a9 prog w) A (do
     let some (_,y):=es[i]?|unsupported "internal:set-entry"
     let equal<-hV [y] (eqBool y<|.ref x)
     let(es',_,t')<-setState S
     if true&&equal then return .there none
     let some same:=t'.sameMemory t.moves t.mask|unsupported "set.changed-during-lookup:is-the-new-block-at-the-old-address"
     let ZH<-match(if same then t'.slot (ST.n9 t.mask (q9<|.tup Y) T).j else .empty)with
      |.live f=>match es'[f]? with
       |some (_,y')=>do pure (if<-isSame y' y then some f else none)
       |none=>pure none
      |_=>pure none
     match ZH with
     |none=>rule "set.search.anew";setSearchFrom S (.ref x) (q9<|.tup Y) true a none
     |some f=>if equal then return .there (some f)else setSearchFrom S (.ref x) (q9<|.tup Y) true a (some<|ST.n9 t.mask (q9<|.tup Y)<|T+1)) Q E s:=by
    rw[l];generalize he:es[i]=en at*
    obtain⟨hn,y⟩:=en;dsimp only at J q⊢;refine aAa (aAN (HX J N (by have:=xr _ (aAu d);lia) prog w E _ ?_));refine aAa (aCq ho hd (jU K) ?_);dsimp only;cases hq:x9 (.tup ys) (.tup Y)with
    |true=>rw[jk (show(true&&true)=true from rfl)];have:D.tup ys=.tup Y:=fI J.ok N.ok hq;rw[this]at d;exact aAb (g<|aAu d)
    |false=>
     rw[ka (by simp)];have hsm:t.sameMemory t.moves t.mask=some true:=by unfold SetTable.sameMemory;rw[jk (by simp)]
     rw[hsm];dsimp only;rw[jk rfl,ST.M7 K.tab u];dsimp only;rw[l];dsimp only;cases J with
     |tup p r=>
      refine aAa (wpAny_isSame_ref_self ?_);refine aAa (aAb ?_);rw[jk rfl];dsimp only;rw[ka (by simp)];refine nG ho hd K B P N C xr hT hu hf g b a (T+1) _ rfl (by lia) (by lia) λm I i2 ui hz=>?_;by_cases z:m<n
      .exact H m z i2 ui hz
      .by_cases z2:m=T
       .subst z2;have:i2=i:=by have g:=ST.M7 K.tab ui;have b:=ST.M7 K.tab u;rw[g]at b;injection b
        subst this;rw[d]at hz;have:D.tup ys=.tup Y:=aAm hz;rw[this,P1]at hq;cases hq
       .obtain⟨f,fb,af⟩:=a3 m (by lia) (by lia);have:f=i2:=by have g:=ST.M7 K.tab fb;have b:=ST.M7 K.tab ui;rw[g]at b;injection b
        subst this;obtain⟨⟨h0,v0⟩,he0,hv0,hh0⟩:=dM P hz;refine af ?_;show(es[f]?.map (·.1)).getD 0=_;rw[<-aAB,he0];exact hh0
   refine lG (λ_=>?_) (λ_=>go);refine aAa (aj N C _ (λy hy=>?_) ?_)
   .obtain⟨e',xi,rfl⟩:=aAk.mp hy;rw[Array.toList_filter]at xi;have I:=(aBS.mp xi).1;obtain⟨k,hk⟩:=aCa.mp I;obtain⟨dk,hdk,hvk,_⟩:=J4 P hk;exact⟨dk,hvk,xr _ (aAu hdk)⟩
   .rw[ka (by simp)];exact go
def wF (m n:Nat):Prop:=(m=7/\n<=4)\/(m=31/\n<=18)\/(m=127/\n<=76)
def wF.odd (h:wF m n):m%2=1:=by rcases h with⟨rfl,_⟩|⟨rfl,_⟩|⟨rfl,_⟩<;>rfl
def Keeps (h0 h:bt):Prop:=∀b o,h0.get? b=some o->h.get? b=some o
structure SetAt (L:Bool)(h0 h:Heap)(S:Addr)(ds:List D):Prop where
 ex:∃(o:Obj) (es:Array (Int×Value)) (ep:Nat) (t:SetTable),h.get? S=some o/\o.cls=.type "set"/\o.dict=none/\o.slots=#[]/\o.data=.set es ep t/\ST.SOk t es.toList/\wF t.mask es.size/\Paired (EV h0) es.toList ds/\t.led=L/\t.plain=true
 nd:ds.Nodup
def dW {α β:Type}{F:α->β->Prop}:∀{l b:List α} {m:List β},b.Perm l->Paired F l m->∃a,a.Perm m/\Paired F b a:=λ{l b m} p=>by
 induction p generalizing m with
 |nil=>intro h;exact⟨m,.refl _,h⟩
 |cons x _ f=>
  intro h;cases h with
  |cons r t=>obtain⟨a,g,i⟩:=f t;exact⟨_::a,g.cons _,.cons r i⟩
 |swap x y l=>
  intro h;cases h with
  |cons r t=>
   cases t with
   |cons j k=>exact⟨_,.swap _ _ _,.cons j (.cons r k)⟩
 |trans _ _ d e=>intro h;obtain⟨v,n,o⟩:=e h;obtain⟨q,s,u⟩:=d o;exact⟨q,s.trans n,u⟩
theorem dN {α β:Type}{F G:α->β->Prop}(i:∀a b,F a b->G a b):∀{l:List α} {m:List β},Paired F l m->Paired G l m
 |_,_,.nil=>.nil
 |_,_,.cons r t=>.cons (i _ _ r) (dN i t)
theorem qR {α β:Type}{F:α->β->Prop}{a:α}{b:β}(r:F a b):∀{l:List α} {m:List β} (p:Nat),Paired F l m->Paired F (l.take p++a::l.drop p) (m.take p++b::m.drop p)
 |_,_,0,h=>.cons r h
 |_,_,p+1,.nil=>.cons r .nil
 |_,_,p+1,.cons d t=>.cons d (qR r p t)
def NS {α:Type}(a:α)(l:List α)(p:Nat):(l.take p++a::l.drop p).Perm (a::l):=by have h:=List.perm_middle (a:=a) (l₁:=l.take p) (l₂:=l.drop p);rw[aFG]at h;exact h
def AA {α β:Type}{M:Model}{Q:α->aA->Prop}{c:Prop}[Decidable c]{a:Sem β}{k:β->Sem α}(b:β)(e:∀d:β->aA->Prop,d b s->av M A a d E s)(h:av M A (k b) Q E s):av M A (if c then a>>=k else pure b>>=k) Q E s:=
 lG (λ_=>aAa (e _ h)) (λ_=>aAa (aAb h))
def mV (h:bt)(S:a5)(f:Obj->Obj):Heap.SameBut S h (h.update S f):=⟨by simp[Heap.size_update],λb a=>aAF _ _ (aCA a)⟩
def uS {h:bt}{S:a5}{o:Obj}{es es':Array (Int×ao)}{ep:Nat}{t t':eQ}(b:h.get? S=some o)(a:o.data=.set es ep t):(h.update S (aEE es' t')).get? S=some {o with data:=.set es' (ep+1) t'}:=by
 have e:aEE es' t' o={o with data:=.set es' (ep+1) t'}:=by obtain⟨c,d,f,g⟩:=o;cases f<;>simp at a;obtain⟨rfl,rfl,rfl⟩:=a;rfl
 rw[aBr _ b (by rw[e];rfl),e]
def oz {L:Bool}{h0:bt}{Q:zW}(hS:SetAt L h0 s.heap S ds)(kp:Keeps h0 s.heap)(B:HV h0 (.ref x) (.tup Y))(C:F5 (.tup Y)<8)(xr:∀e∈ds,F5 e<8)(hT:∀e∈ds,∃ys,e=.tup ys)(hu:A.units+128<cq)(hn:ds.length<76)
  (q1:D.tup Y∈ds->∀tk,s.toks<=tk->Q false {s with toks:=tk})
  (q2:D.tup Y∉ds->∀h' tk bh,s.toks<=tk->Heap.SameBut S s.heap h'->SetAt L h0 h' S bh->bh.Perm (.tup Y::ds)->Q true {s with heap:=h',toks:=tk}):av (a9 prog w) A (setAdd S (.ref x)) Q E s:=by
 obtain⟨⟨o,es,ep,t,H,hc,zh,I,J,K,mk,P0,lp0⟩,nd⟩:=hS;have hx:HV s.heap (.ref x) (.tup Y):=B.keeps λb o e _=>kp b o e;have P:Paired (EV s.heap) es.toList ds:=dN (λe d r=>⟨r.1.keeps λb o e _=>kp b o e,r.2⟩) P0;have gc:es.size=ds.length:=by have:=gP P;simpa using this
 unfold setAdd;refine aAN (aAa (ZR hx A E s _ rfl (by lia) λtk wg=>?_));unfold setAddHashed setAddHashedIn;refine aAN (aAa<|aCq (s:={s with toks:=tk}) H J (jU K) ?_);dsimp only;rw[show byScan (.ref x) es=false from rfl];simp only[aAt,if_false];obtain⟨n0,hf⟩:=ST.FD K.full K.room (q9<|.tup Y);refine aAa (nG (s:={s with toks:=tk}) (n0:=n0) H J K mk.odd P hx C xr hT (by lia) hf (λn=>?_) (λn=>?_) 100000 0 none rfl (aAM _) ?_ (λm n=>by lia))
 .dsimp only;exact aAb (q1 n tk wg)
 .dsimp only;refine aAa (aCq (s:={s with toks:=tk}) H J (jU K) ?_);dsimp only;refine AA true (λU q=>qL 8 hx C _ _ _ _ _ rfl q) ?_;rw[jk rfl];have og:t.place.size+1<=t.mask:=by have:=K.len;simp at this;rcases mk with⟨a,k⟩|⟨a,k⟩|⟨a,k⟩<;>lia
  have p:=ST.aw K (x:=.ref x) hf og;have el:=ST.gE es (t.put (ST.n9 t.mask (q9<|.tup Y) n0).j).2 (q9 (.tup Y),aDy x);have lp:(t.put (ST.n9 t.mask (q9<|.tup Y) n0).j).1.led=L/\(t.put (ST.n9 t.mask (q9<|.tup Y) n0).j).1.plain=true:=lp0;have em:(t.put (ST.n9 t.mask (q9<|.tup Y) n0).j).1.mask=t.mask:=rfl;rw[<-el]at p;have N:Paired (EV h0) (aGz es (t.put (ST.n9 t.mask (q9<|.tup Y) n0).j).2 (q9 (.tup Y),aDy x)).toList (ds.take (t.put (ST.n9 t.mask (q9<|.tup Y) n0).j).2++.tup Y::ds.drop (t.put (ST.n9 t.mask (q9<|.tup Y) n0).j).2):=by rw[el];exact qR ⟨B,rfl⟩ _ P0
  have O:=NS (D.tup Y) ds (t.put (ST.n9 t.mask (q9<|.tup Y) n0).j).2;generalize hds2:ds.take (t.put (ST.n9 t.mask (q9<|.tup Y) n0).j).2++.tup Y::ds.drop (t.put (ST.n9 t.mask (q9<|.tup Y) n0).j).2=ph at N O;generalize hes2:aGz es (t.put (ST.n9 t.mask (q9<|.tup Y) n0).j).2 (q9 (.tup Y),aDy x)=h at p N⊢;generalize ht2:(t.put (ST.n9 t.mask (q9<|.tup Y) n0).j).1=g at p em lp⊢;have ri:ph.Nodup:=O.nodup_iff.mpr (aAI.mpr ⟨n,nd⟩);have i:h.size=es.size+1:=by
   have h1:=gP N;have h2:=O.length_eq;simp at h1 h2
   lia
  have cg:h.size<=sizeLine:=by rw[i,aFr];lia
  refine aAa (wpAny_storeSet_of (s:={s with toks:=tk}) H J ?_ cg);have kl:=uS (es':=h) (t':=g) H J;have T:=mV s.heap S (aEE h g);have l:g.fill=h.size:=by have h1:=p.len;have h2:=p.tab.nod;unfold SetTable.fill;rw[h2];simp at h1⊢;lia
  refine lG (λwm=>?_) (λwm=>?_)
  .
   have ql:g.fill*5>=g.mask*3:=by
    have:g.tooFull=true:=by simpa using wm
    simpa[aGH]using this
   rw[l,em,i]at ql;obtain⟨M,hM,hM1,u⟩:∃M,SetTable.sizeAbove (SetTable.grown<|es.size+1)=M+1/\ST.oB (M+1)/\wF M (es.size+1):=by
    rcases mk with⟨a,k⟩|⟨a,k⟩|⟨a,k⟩
    .have:es.size=4:=by lia
     rw[this];exact⟨31,by decide,ST.ZW,.inr (.inl ⟨rfl,by lia⟩)⟩
    .have:es.size=18:=by lia
     rw[this];exact⟨127,by decide,ST.XC,.inr (.inr ⟨rfl,by lia⟩)⟩
    .lia
   unfold setRelay;refine aAa (aAa<|aCq (s:={s with heap:=s.heap.update S (aEE h g),toks:=tk}) kl rfl (jU p) ?_);dsimp only;rw[hM];refine lG (λz=>?_) (λ_=>?_)
   .exfalso;rcases u with⟨a,_⟩|⟨a,_⟩|⟨a,_⟩<;>(subst a;exact absurd z (by rw[aFr];decide))
   obtain⟨y,f,r1,r2,r3,r4,r5,r6,r7,r8,r9⟩:=ST.RY (finger:=g.finger) (moves:=g.movedTo M) (led:=g.led) (plain:=g.plain) hM1 h (by rw[i];rcases u with⟨a,k⟩|⟨a,k⟩|⟨a,k⟩<;>lia);have er:g.relaid (h.map (·.1)) (SetTable.grown<|es.size+1)=some (y,f):=by unfold SetTable.relaid;rw[hM];exact r1
   rw[er];have hre:∀{U:Array (Int×ao)×eQ->aA->Prop} {s':aA},U (f.filterMap (h[·]?),y) s'->av (a9 prog w) A (do
     let es':=f.filterMap (h[·]?)
     if es'.size !=h.size then unsupported "internal:set-table-lost-an-element"
     pure (es',y)) U E s':=λ{U s'} qq=>by
    dsimp only;rw[ka (by simp[r2])];exact aAb qq
   refine aAa (hre ?_);dsimp only;generalize hes3:f.filterMap (h[·]?)=v at r2 r3 r4⊢;refine wpAny_storeSet_of (s:={s with heap:=s.heap.update S (aEE h g),toks:=tk}) kl rfl ?_ (by rw[r2];exact cg);refine aAb ?_;have ho3:=uS (es':=v) (t':=y) kl rfl;have sb3:=mV (s.heap.update S<|aEE h g) S (aEE v y);obtain⟨ds3,p3,P5⟩:=dW r3 N;exact q2 n _ tk ds3 wg (T.trans sb3) ⟨⟨_,v,_,y,ho3,hc,zh,I,rfl,r4,by rw[r5,r2,i];exact u,P5,by rw[r7];exact lp.1,by rw[r8];exact lp.2⟩,p3.nodup_iff.mpr ri⟩ (p3.trans O)
  .refine aAb ?_;refine q2 n _ tk ph wg T ⟨⟨_,h,_,g,kl,hc,zh,I,rfl,p,?_,N,lp⟩,ri⟩ O;have ql:¬g.fill*5>=g.mask*3:=λz=>wm (by simp[aGH,z]);rw[l,em,i]at ql;rw[em,i];rcases mk with⟨a,k⟩|⟨a,k⟩|⟨a,k⟩
   .exact .inl ⟨a,by lia⟩
   .exact .inr (.inl ⟨a,by lia⟩)
   .exact .inr (.inr ⟨a,by lia⟩)
 .have:=hf.1;have n:t.mask<=127:=by rcases mk with⟨a,_⟩|⟨a,_⟩|⟨a,_⟩<;>lia
  lia
end
section
variable{prog:ba} {w:be} {A:bc} {R:Result->aA->Prop} {I:a5} {fp wr:List a5} {G:Array GenState->Array GenState->Prop} {n:Nat} {P:Nat->ao->Prop} {St:Nat->aA->Prop} {h0:bt}
def lw (h0:bt)(v:ao)(d:D):Prop:=∃a Y,v=.ref a/\d=.tup Y/\F5 d<8/\HV h0 v d
def TC {L:Bool}(W:WalksS prog w A.in1 I fp wr G n P St)(S:a5)(qa:S∉fp)(hS0:h0.get? S=none)(hw0:∀b∈wr,h0.get? b=none)
  (val:Nat->D) (y:∀i v,P i v->lw h0 v (val i)) (tf:∀i<n,F5 (val i)<8/\∃ys,val i=.tup ys) {U:List D} (hU:∀i<n,val i∈U) (f:U.length<=75) (hu:A.units+200<cq):
  ∀(k i:Nat) (s:aA),n-i=k->i<=n->St i s->Keeps h0 s.heap->(∃ds,SetAt L h0 s.heap S ds/\∀d,d∈ds↔∃j<i,val j=d)->
   (∀s',Moved (S::wr) G s s'->(∃ds,SetAt L h0 s'.heap S ds/\∀d,d∈ds↔∃j<n,val j=d)->R (.ok (.ret .none)) s')->
   fg (a9 prog w) A (.builtin "set.update.loop" ⟨[.ref S,.ref I],[]⟩) R s:=by
 have B:S∉wr:=λh=>qa (W.sub _ h);have ke:∀b∈wr,b∈S::wr:=λb f=>aAe _ f;intro k;induction k with
 |zero=>
  intro i s hk hi jl C hS O;have Q:i=n:=by omega
  subst Q;refine aBE F.entry_set_update_loop ?_;rw[aBe F.plain_set_update_loop _];show av _ A.in1 (ff (.ref I)>>=_) _ _ s;refine aAa (W.done s _ _ jl λs' l=>?_);show av _ A.in1 (ret Value.none) _ _ s';refine aAb (O s' (l.mono ke) ?_);obtain⟨ds,⟨⟨o,es,ep,t,ho,r⟩,T⟩,p⟩:=hS;exact⟨ds,⟨⟨o,es,ep,t,l.heap S _ B ho,r⟩,T⟩,p⟩
 |succ k ih=>
  intro i s hk hi jl C hS O;have ai:i<n:=by omega
  refine aBE F.entry_set_update_loop ?_;rw[aBe F.plain_set_update_loop _];show av _ A.in1 (ff (.ref I)>>=_) _ _ s;refine aAa (W.item i s _ _ ai jl λv s' hP kr l=>?_);obtain⟨ds,⟨⟨o,es,ep,t,ho,r⟩,T⟩,p⟩:=hS;have jg:SetAt L h0 s'.heap S ds:=⟨⟨o,es,ep,t,l.heap S _ B ho,r⟩,T⟩;have q:Keeps h0 s'.heap:=λb ob e=>l.heap b ob (λz=>by rw[hw0 b z]at e;cases e) (C b ob e);obtain⟨a,Y,rfl,uh,E,hv⟩:=y i v hP;rw[uh]at E hv;show av _ A.in1 (hV [aDy a] (setAdd S<|.ref a)>>=_) _ _ s';have g:∀e∈ds,F5 e<8/\∃ys,e=.tup ys:=λe H=>by obtain⟨j,J,ej⟩:=(p e).mp H;rw[<-ej];exact tf j (by omega)
  refine aAa (aAN (oz jg q hv E (λe H=>(g e H).1) (λe H=>(g e H).2) (by rw[w5];omega) (by letI:DecidableEq D:=λa b=>aEd _;have:=ST.R6 (m:=U) T (λd hd=>by obtain⟨j,J,e⟩:=(p d).mp hd;rw[<-e];exact hU j (by omega));omega) (λQ tk N=>?_)<|λhni h' tk bh N hsb hS2 pm=>?_))
  .
   refine aAb ⟨aBW F.plain_set_update_loop _,ih (i+1) _ (by omega) ai (W.frame _ s' _ _ kr N λb f o e=>e) q ⟨ds,jg,λd=>?_⟩ λu mo wo=>?_⟩
   .rw[p];constructor
    .rintro⟨j,J,e⟩;exact⟨j,by omega,e⟩
    .rintro⟨j,J,e⟩;by_cases z:j=i
     .subst z;rw[uh]at e;rw[e]at Q;exact(p d).mp Q
     .exact⟨j,by omega,e⟩
   .exact O u (aFt W.gtrans ((l.mono ke).then_heap N λb o f e=>e) mo) wo
  .have x:∀b,b≠S->h'.get? b=s'.heap.get? b:=λb f=>hsb.2 b f;refine aAb ⟨aBW F.plain_set_update_loop _,ih (i+1) _ (by omega) ai (W.frame _ s' _ _ kr N λb f o e=>?_) (λb o e=>?_) ⟨bh,hS2,λd=>?_⟩ λu mo wo=>?_⟩
   .rw[x b (λz:b=S=>qa (by rw[<-z];exact f))];exact e
   .show h'.get? b=some o;rw[x b (λz=>by subst z;rw[hS0]at e;cases e)];exact q b o e
   .rw[pm.mem_iff,aAd,p];constructor
    .rintro(rfl|⟨j,J,e⟩)
     .exact⟨i,by omega,uh⟩
     .exact⟨j,by omega,e⟩
    .rintro⟨j,J,e⟩;by_cases z:j=i
     .subst z;rw[uh]at e;exact .inl e.symm
     .exact .inr ⟨j,by omega,e⟩
   .refine O u (aFt W.gtrans ((l.mono ke).then_heap N λb o f e=>?_) mo) wo;rw[x b (λz:b=S=>f (by rw[z];exact aBp))];exact e
end
section
variable{prog:ba} {w:be} {A:bc} {E:E8} {s:aA}
abbrev oC (led:Bool):Obj:={cls:=.type "set",dict:=none,data:=.set #[] 0 (.fresh 0 0 led)}
def LD (h0 h:bt)(S:a5)(led:Bool)(e:h.get? S=some (oC led)):SetAt led h0 h S []:=by
 refine⟨⟨_,#[],0,.fresh 0 0 led,e,rfl,rfl,rfl,rfl,⟨⟨λi k a=>?_,λj b=>?_,rfl⟩,ST.a1t,rfl,?_,λe d=>?_⟩,.inl ⟨rfl,aAM _⟩,.nil,rfl,rfl⟩,aDl⟩
 .exact absurd a (by show¬i<0;omega)
 .exact absurd b (by show¬j∈[];simp)
 .show 0<=7;omega
 .exact absurd d (by show¬e∈[];simp)
def AF (a:ao){Q₁:E8}(h:Q₁ (.ref s.heap.objs.size) {s with heap:=s.heap.push (oC (!w.params.followText "set-order"))}):
  fg (a9 prog w) A (.call (.builtin "set.__new__") ⟨[.type "set",a],[]⟩) (wants Q₁ E) s:=by
 refine codeAny_of_tree ?_;show av _ A.in1 (do checkBuiltinCall "set.__new__" ⟨[.type "set",a],[]⟩;again (.builtin "set.__new__" ⟨[.type "set",a],[]⟩)) _ _ s;refine aAa (aGl (F.newCall_set_1 a)<|aAb ⟨aBW F.plain_set_new _,aBE F.entry_set_new ?_⟩);rw[aBe F.plain_set_new _];unfold Builtin.«set.__new__» Builtin.Frozenset.newClass;have b:=sub_set_self;obtain⟨e,g,d,f,os⟩:=s;dsimp only
 wp_walk
 refine aFA (aAb ?_);dsimp only;simp only[newObj];exact aAa (wpAny_alloc<|aAb<|aAb h)
def AZ {h0:bt}(n:Keeps h0 s.heap){l:a5}{a:Array ao}{val:Nat->D}{Q:E8}(hh:A.handled=none)(hl:s.heap.IsList l a)
  (p:∀(i:Nat) (v:ao),a[i]?=some v->lw h0 v (val i)) (tf:∀i<a.size,F5 (val i)<8/\∃ys,val i=.tup ys) {U:List D} (hU:∀i<a.size,val i∈U) (k:U.length<=75) (hu:A.units+300<cq)
  (h:∀(h':bt) (tk:Nat) (ds:List D),SetAt (!w.params.followText "set-order") h0 h' s.heap.objs.size ds->(∀d,d∈ds↔∃j<a.size,val j=d)->Keeps s.heap h'->Q (.ref s.heap.objs.size) {s with heap:=h',toks:=tk}):
  av (a9 prog w) A (call (.type "set") [.ref l]) Q E s:=by
 obtain⟨c,tl,hmro⟩:=PySem.F.called_set.mro;have H:=PySem.F.called_set.made;have ke:=PySem.F.called_set.sub;refine wpAny_call (codeAny_of_tree ?_);show av _ _ (callAny (.type "set") _) _ _ _;refine aAb ⟨Code.quiet_builtin _ (by decide+kernel),aBE PySem.F.entry_type_call ?_⟩;rw[Around.under_plain (weight_type_call_type "set" [.ref l] []) rfl];have h1:=PySem.F.called_set.notType;have h2:=PySem.F.called_set.canCreate;have hct:=PySem.F.typeCall_set_1 (.ref l);repeat(any_goals(first|assumption|wp_step))
 refine aDS (AF (.ref l) (E:=E) (Q₁:=λob ae=>∃led:Bool,led=!w.params.followText "set-order"/\ob=.ref s.heap.objs.size/\ae={s with heap:=s.heap.push (oC led)}) ⟨_,rfl,rfl,rfl⟩) λr ae q=>?_;cases r with
 |error e=>exact q
 |ok fl=>
  cases fl with
  |next=>exact q.elim
  |brk=>exact q.elim
  |cont=>exact q.elim
  |ret ob=>
   obtain⟨led,eL,rfl,rfl⟩:=q;have hS:(s.heap.push<|oC led).get? s.heap.objs.size=some (oC led):=aAp _ rfl;have hT:Shared.TypeIs {s with heap:=s.heap.push (oC led)} (.ref s.heap.objs.size) "set":=⟨_,hS,rfl⟩;have hli:=PySem.F.called_set.init.lookup;have hbi:=PySem.F.called_set.init.bind (.ref s.heap.objs.size);repeat(any_goals(first|assumption|wp_step))
   refine aDS (codeAny_call_builtin (R:=wants (λr gg=>r=.none/\∃h' tk ds,gg={s with heap:=h',toks:=tk}/\SetAt (!w.params.followText "set-order") h0 h' s.heap.objs.size ds/\(∀d,d∈ds↔∃j<a.size,val j=d)/\Keeps s.heap h') E) PySem.F.called_set.init.plain PySem.F.entry_set_init<|check_set_init_1 hT ?_) λr0 gg f=>?_
   .obtain⟨ol,t,ya,nl,u⟩:=hl;obtain⟨ocls,m,I,g⟩:=ol;simp only at ya u;subst ya;subst u;have x:(s.heap.push<|oC led).get? l=some {cls:=.type "list",dict:=m,data:=.seq a nl,slots:=g}:=aAc _ t;have hsls:=PySem.F.sub_list_set;have hslf:=PySem.F.sub_list_frozenset;have af:(aCy "list"==aCy "dict")=false:=by decide
    have qm:(s.heap.push<|oC led).IsList l a:=⟨_,x,rfl,nl,rfl⟩;unfold Builtin.«set.__init__» noKeywords Builtin.Frozenset.updateFrom;generalize J:pyIter=PI
    wp_walk
    subst J;refine aDE qm (aAa<|aGb ?_);have y:l<s.heap.objs.size:=aAf t;have L:A.in1.in1.in1.handled=none:=by simp[hh]
    have B:l≠(s.heap.push<|oC led).objs.size:=by rw[aBG];exact aAl (aBz y)
    have qa:s.heap.objs.size∉[(s.heap.push<|oC led).objs.size,l]:=by rw[aBG];simp only[aAd,aAP,or_false,not_or];exact⟨aAl (aDh _),aCR y⟩
    have oi:∀b,s.heap.objs.size<=b->h0.get? b=none:=λb k=>by
     cases e:h0.get? b with
     |none=>rfl
     |some o=>have:=n b o e;rw[aEB k]at this;cases this
    refine TC (h0:=h0) ((Walks.list L _ l B a).toS) s.heap.objs.size qa (oi _<|aAj _) (λb k=>?hw) val p tf hU k (by show A.units+1+1+200<cq;omega) (a.size-0) 0 _ (by omega) (aAM _) ⟨⟨_,aAp _ rfl,rfl,rfl⟩,(qm.push _)⟩ (λb o e=>aAc _ (aAc _<|n b o e)) ⟨[],LD _ _ _ led (aAc _ hS),λd=>?he⟩ ?hR
    case he=>exact⟨λz=>(by cases z),by rintro⟨j,hj,_⟩;exact(by omega)⟩
    case hw=>
     have ji:b=(s.heap.push<|oC led).objs.size:=by simpa using k
     subst ji;rw[aBG];exact oi _ (Nat.le_succ _)
    case hR=>
     rintro⟨h',g',d',yd,N⟩ C ⟨ds,O,T⟩;have eg:g'=s.gens:=C.gens;have ed:d'=s.drawn:=C.drawn;have eo:N=s.os:=C.os;subst eg;subst ed;subst eo;refine aAb ?_;show av _ _ (ret Value.none) _ _ _;refine aAb ⟨rfl,h',yd,ds,rfl,(eL▸O),T,λb o e=>?_⟩;have k:=aAf e;have xl:b≠(s.heap.push<|oC led).objs.size:=by rw[aBG];exact aAl (aBz k)
     exact C.heap b o (by simp only[aAd,aAP,or_false,not_or];exact⟨aAl k,xl⟩) (aAc _<|aAc _ e)
   .cases r0 with
    |error e=>exact f
    |ok Y=>
     cases Y with
     |next=>exact f.elim
     |brk=>exact f.elim
     |cont=>exact f.elim
     |ret r=>
      obtain⟨rfl,h',tk,ds,rfl,O,T,ku⟩:=f;repeat(any_goals(first|assumption|wp_step))
      exact h _ _ _ O T ku
end
end DL
namespace SI
open PySem
theorem GV {α:Type}(next:Nat->Nat):∀(a k:Nat) (left:List α) (b:Array α),left.length=a->(aGG next a k left b).toList.Perm (b.toList++left)
 |0,k,left,b,h=>by have:left=[]:=aDj h;subst this;simp[aGG]
 |a+1,k,left,b,h=>by
  unfold aGG;have e:0<left.length:=by lia
  have d:next k%left.length<left.length:=aED _ e
  rw[aAg d];dsimp only;refine(GV next a (k+1) _ _ (by rw[List.length_eraseIdx_of_lt d];lia)).trans ?_;rw[Array.toList_push,aEj];refine List.Perm.append_left _ ?_;have:∀(l:List α) (i:Nat) (h:i<l.length),(l[i]::l.eraseIdx i).Perm l:=by
   intro l;induction l with
   |nil=>intro i h;simp at h
   |cons x l f=>
    intro i h;cases i with
    |zero=>simp
    |succ i=>
     have g:i<l.length:=by simpa using h
     rw[aFs,List.getElem_cons_succ];exact(List.Perm.swap _ _ _).trans ((f i g).cons _)
  exact this left _ d
def uF {α:Type}(next:Nat->Nat)(Y:Array α):(jb next Y).toList.Perm Y.toList:=by unfold jb;simpa using GV next Y.size 0 Y.toList #[] (by simp)
def walkL (w:be)(S:a5)(es:Array (Int×ao))(ep:Nat):List (Int×ao):=if w.params.followText "set-order"=true then(jb (w.params.setOrder S ep) es).toList else es.toList
def walkL_perm (w:be)(S:a5)(es:Array (Int×ao))(ep:Nat):(walkL w S es ep).Perm es.toList:=by
 unfold walkL;split
 .exact uF _ _
 .exact List.Perm.refl _
def slotAt (w:be)(t:eQ):Nat->Nat
 |0=>0
 |i+1=>if w.params.followText "set-order"=true then 0 else t.place.getD i 0+1
def Q9 (h:bt)(w:be)(it S:a5)(t:eQ)(i n ep:Nat):Prop:=
 h.get? it=some {cls:=.type "set_iterator",dict:=none,data:=.fields #[dm (slotAt w t i),dm i,.ref S,dm n,dm ep],slots:=#[]}
def IsSet (h:bt)(S:a5)(es:Array (Int×ao))(ep:Nat)(t:eQ):Prop:=∃o,h.get? S=some o/\o.cls=.type "set"/\o.data=.set es ep t
namespace F
def entry_set_iter:entryFor table "set.__iter__"=some Builtin.«frozenset.__iter__»:=entryFor_alias (id':= "frozenset.__iter__") (by kernel_rfl) rfl (by decide+kernel) (by kernel_rfl)
def slot_seti_next:Slot "set_iterator" "__next__" "set_iterator.__next__":=
 .of (owner:= "set_iterator") (n:= "__next__") (by rw[aDz,aCx];kernel_rfl) (by decide+kernel) (by decide+kernel) (by decide+kernel)
  (by first|exact .inl (by decide+kernel)|exact .inr (by decide+kernel)) (by rw[aFi];kernel_rfl)
def entry_seti_next:entryFor table "set_iterator.__next__"=some Builtin.«set_iterator.__next__»:=entryFor_of_tree (by kernel_rfl)
def args_seti_next (a:ao):argsOk "set_iterator.__next__" ⟨[a],[]⟩:=by unfold argsOk;kernel_rfl
def slot_seti_iter:Slot "set_iterator" "__iter__" "set_iterator.__iter__":=
 .of (owner:= "set_iterator") (n:= "__iter__") (by rw[aDz,aCx];kernel_rfl) (by decide+kernel) (by decide+kernel) (by decide+kernel)
  (by first|exact .inl (by decide+kernel)|exact .inr (by decide+kernel)) (by rw[aFi];kernel_rfl)
def entry_seti_iter:entryFor table "set_iterator.__iter__"=some Builtin.«dict_keyiterator.__iter__»:=entryFor_alias (id':= "dict_keyiterator.__iter__") (by kernel_rfl) rfl (by decide+kernel) (by kernel_rfl)
def args_seti_iter (a:ao):argsOk "set_iterator.__iter__" ⟨[a],[]⟩:=by unfold argsOk;kernel_rfl
end F
section
variable{s:aA} {t:eQ}
def JM {α:Type}{M:Model}{Q:α->aA->Prop}{c:Prop}[Decidable c]{a b:Sem α}(h:c)(k:av M A a Q E s):av M A (if c then a else b) Q E s:=by rw[jk h];exact k
def AW (es:Array (Int×ao))(a:t.plain=true):(!t.plain&&decide (es.size>1))=false:=by rw[a];rfl
def FT {Q:zW}(h:Q (w.params.followText "set-order") s):av (a9 prog w) A setsByText Q E s:=by unfold setsByText;exact aAa (aFA<|aAb h)
def RB {Q:E8}(f:IsSet s.heap S es ep t)(b:t.fits es.size=true)(g:t.plain=true)
  (h:Q (.ref s.heap.objs.size) {s with heap:=s.heap.push {cls:=.type "set_iterator",dict:=none,data:=.fields #[dm (slotAt w t 0),dm (0:Nat),.ref S,dm es.size,dm ep],slots:=#[]}}):
  av (a9 prog w) A (pyIter (.ref S)) Q E s:=by
 obtain⟨o,a,i,d⟩:=f;have e:s.TypeIs (.ref S) "set":=⟨o,a,i⟩;refine aEk e PySem.F.slot_set_iter (aBn PySem.F.slot_set_iter e F.entry_set_iter ?_ (PySem.F.args_set_iter_1 _));unfold Builtin.«frozenset.__iter__»;show av _ _ (aFu "__iter__" ⟨[.ref S],[]⟩>>=_) _ _ s;have j:aFu "__iter__" ⟨[.ref S],[]⟩=pure S:=rfl;rw[j];refine aAa (aAb ?_);unfold Builtin.Frozenset.sizeOf;refine aAa (aAa<|aEK a d b<|aAb ?_);refine aAa ?_;unfold setDrawn;refine aAa (aCq a d b<|aAa<|FT<|aAb ?_);show av _ _ (if(!w.params.followText "set-order"&&(!t.plain&&decide (es.size>1)))=true then _ else _) _ _ s;rw[AW es g,aFZ];simp only[aAt,if_false];refine aAa (aAb<|aAa<|wpAny_setEpoch_of a d b ?_);refine aAa (aAY<|aAb ⟨_,rfl, "set_iterator",_,⟨_,aAp _ rfl,rfl⟩,F.slot_seti_next.lookup,?_⟩);simpa[slotAt]using h
def EJ (a:ST.KP Y):aDM Y 0=0:=by
 obtain⟨d,b,e⟩:=ST.bV a 0;by_cases h:aDM Y 0=0
 .exact h
 .exact absurd (b 0 (by lia) (by lia)) (by lia)
def CW (b:ST.KP Y)(a:i<Y.size):aDM Y (Y.getD i 0+1)=i+1:=by
 have e:Y.getD i 0=Y[i]:=by simp[aFm,a]
 rw[e];obtain⟨h,f,g⟩:=ST.bV b (Y[i]+1);rcases Nat.lt_trichotomy (aDM Y<|Y[i]+1) (i+1)with q|q|q
 .have:=g i a (by lia);lia
 .exact q
 .have d:i+1<Y.size:=by lia
  have:=f (i+1) d q;have:=b i (i+1) a d (by lia)
  lia
def CS (t:eQ)(a:ST.KP t.place)(b:¬w.params.followText "set-order"=true)(d:i<=t.place.size):aDM t.place (slotAt w t i)=i:=by
 cases i with
 |zero=>exact EJ a
 |succ i=>show aDM t.place (if w.params.followText "set-order"=true then 0 else t.place.getD i 0+1)=i+1;rw[ka b];exact CW a (by lia)
def BD {Q:Option (ao×Nat)->aA->Prop}(p:IsSet s.heap S es ep t)(d:t.fits es.size=true)(q:t.plain=true)(r:¬w.params.followText "set-order"=true->t.led=true)(u:ST.KP t.place)(C:i<=es.size)(f:∀e,(walkL w S es ep)[i]?=some e->Q (some (e.2,slotAt w t (i+1))) s)(k:i=es.size->Q none s):av (a9 prog w) A (setNext S (slotAt w t i) i ep) Q E s:=by
 obtain⟨o,l,H,m⟩:=p;have I:t.place.size=es.size:=by simp only[aGq,aAO,beq_iff_eq,decide_eq_true_eq]at d;exact d.1
 unfold setNext;refine aAa (aCq l m d ?_);refine aAa (FT ?_);by_cases a:w.params.followText "set-order"=true
 .rw[jk a,ka (by simp)];unfold setWalk;refine aAa (aAa<|aCq l m d<|aAa<|FT ?_);rw[jk a];refine aAa (aFA<|aAb ?_);refine aAb ?_;have h:(walkL w S es ep)=(jb (w.params.setOrder S ep) es).toList:=by unfold walkL;rw[jk a]
  have j:slotAt w t i=slotAt w t (i+1):=by
   cases i with
   |zero=>show 0=if w.params.followText "set-order"=true then 0 else _;rw[jk a]
   |succ i=>show(if w.params.followText "set-order"=true then 0 else _)=if w.params.followText "set-order"=true then 0 else _;rw[jk a,jk a]
  rw[h,aAB]at f;show Q (((jb (w.params.setOrder S ep) es)[i]?).map λe=>(e.2,slotAt w t i)) s;cases e:(jb (w.params.setOrder S ep) es)[i]? with
  |some x=>rw[j];exact f x e
  |none=>
   have n:(jb (w.params.setOrder S ep) es).size=es.size:=by have:=(uF (w.params.setOrder S ep) es).length_eq;simpa using this
   have:=Array.getElem?_eq_none_iff.mp e;exact k (by lia)
 .rw[ka a];have v:¬(!t.plain&&decide (es.size>1))=true:=by rw[q];simp
  show av _ _ (if(!t.plain&&decide (es.size>1))=true then _ else _) _ _ s;rw[ka v];show av _ _ ((if(!t.led&&!es.isEmpty)=true then _ else _)>>=_) _ _ s;rw[ka (by rw[r a];simp)];refine aAa (aAb<|aAb ?_);rw[CS t u a (by lia)];have h:(walkL w S es ep)=es.toList:=by unfold walkL;rw[ka a]
  rw[h,aAB]at f;by_cases y:i<es.size
  .have g:es[i]?=some es[i]:=aAx y;have b:i<t.place.size:=by lia
   have z:t.place[i]?=some t.place[i]:=aAx b;have:=f _ g;rw[g,z];have B:slotAt w t (i+1)=t.place[i]+1:=by show(if w.params.followText "set-order"=true then 0 else t.place.getD i 0+1)=_;rw[ka a];simp[aFm,b]
   rw[B]at this;exact this
  .have g:es[i]?=none:=aBJ (by lia);rw[g];exact k (by lia)
def S4 (h:Q9 s.heap w it S t i n ep):s.TypeIs (.ref it) "set_iterator":=⟨_,h,rfl⟩
def QP {Q:Option ao->aA->Prop}(a:Q9 s.heap w it S t i es.size ep)(b:IsSet s.heap S es ep t)(d:t.fits es.size=true)(j:t.plain=true)(k:¬w.params.followText "set-order"=true->t.led=true)(l:ST.KP t.place)(m:i<es.size)(h:∀e h',(walkL w S es ep)[i]?=some e->Q9 h' w it S t (i+1) es.size ep->Heap.SameBut it s.heap h'->Q (some e.2) {s with heap:=h'}):av (a9 prog w) A (ff (.ref it)) Q E s:=by
 have f:=S4 a;obtain⟨o,n,z,p⟩:=id b;unfold ff;refine aAa (aDZ (aCe (name:=aDe "__next__") f F.slot_seti_next
  (aBn F.slot_seti_next f F.entry_seti_next ?_ (F.args_seti_next _))))
 refine aAa (aAb ?_);refine aAa (aGc a rfl ?_);show av _ _ (setEntries S>>=_) _ _ s;refine aAa (aEK n p d ?_);rw[ka (by simp)];show av _ _ (setNext S (aEL (slotAt w t i:Int)) (aEL (i:Int)) (aEL (ep:Int))>>=_) _ _ s;rw[aBx,aBx,aBx];refine aAa (BD b d j k l (aDx m) (λe q=>?_) λe=>by lia);show av _ _ (setField (.ref it) 0 (dm<|slotAt w t<|i+1)>>=_) _ _ s;refine aAa (aCg a (by simp) λr u v=>?_);show av _ _ (setField (.ref it) 1 (dm<|(i:Int)+1)>>=_) _ _ _;refine aAa (aCg (s:={s with heap:=r}) u (by simp) λg x y=>?_);refine aAb ⟨_,rfl,aAb (h e g q ?_ (v.trans y))⟩;have:g.get? it=some _:=x;unfold Q9;rw[this];simp
def XQ {Q:Option ao->aA->Prop}(k:A.handled=none)(d:Q9 s.heap w it S t es.size es.size ep)(f:IsSet s.heap S es ep t)(g:t.fits es.size=true)(l:t.plain=true)(n:¬w.params.followText "set-order"=true->t.led=true)(p:ST.KP t.place)(h:∀h',Heap.ExtBut it s.heap h'->Q none {s with heap:=h'}):av (a9 prog w) A (ff (.ref it)) Q E s:=by
 have i:=S4 d;obtain⟨o,q,x,r⟩:=id f;unfold ff;refine aAa (aDZ (aCe (name:=aDe "__next__") i F.slot_seti_next
  (aBn F.slot_seti_next i F.entry_seti_next ?_ (F.args_seti_next _))))
 refine aAa (aAb ?_);refine aAa (aGc d rfl ?_);show av _ _ (setEntries S>>=_) _ _ s;refine aAa (aEK q r g ?_);rw[ka (by simp)];show av _ _ (setNext S (aEL (slotAt w t es.size:Int)) (aEL (es.size:Int)) (aEL (ep:Int))>>=_) _ _ s;rw[aBx,aBx,aBx];refine aAa (BD f g l n p (aAj _) (λe u=>?_) λ_=>?_)
 .have v:=(walkL_perm w S es ep).length_eq;have j:=(aAw.mp u).1;rw[v]at j;simp at j
 .show av _ _ (setField (.ref it) 2 .none>>=_) _ _ s;refine aAa (aGd d rfl (by simp) ?_);show av _ _ (newExc (.type "StopIteration") []>>=_) _ _ _;refine aAa ?_;simp only[newExc,newTuple];refine aAa (aAY ?_ (by size_fits));refine aAa (m:=firstArgMember _ _) (aGl (a:=Value.none) (by first|rfl|(simp only[firstArgMember];rfl)) ?_);refine aAY ?_ (by size_fits);simp only[raiseNew];refine aAa (wpAny_handled ?_);rw[show A.in1.handled=none from k];refine aAa (aAb<|wpAny_throw ?_);refine aAa (aDi (T:= "StopIteration") (b:=true) ⟨_,aAp _ rfl,rfl⟩ aGe ?_);exact aAb (h _<|((aEM ..).extBut.push _).push _)
def eF (x:IsSet h S es ep t)(e:∀o,h.get? S=some o->h'.get? S=some o):IsSet h' S es ep t:=let⟨o,a,r⟩:=x;⟨o,e o a,r⟩
end
section
def LS (p:A.handled=none)(I S:a5)(r:S≠I)(g:t.fits es.size=true)(j:t.plain=true)(k:¬w.params.followText "set-order"=true->t.led=true)(l:ST.KP t.place):
  Walks prog w A I [I,S] [I] es.size (λi v=>∃e,(walkL w S es ep)[i]?=some e/\v=e.2) (λi h=>Q9 h w I S t i es.size ep/\IsSet h S es ep t)where
 sub:=λb a=>by simp at a;simp[a]
 frame:=λ_ _ _ st m=>⟨m I (by simp) _ st.1,eF st.2 λo e=>m S (by simp) o e⟩
 item:=λi s Q E u st d=>QP st.1 st.2 g j k l u λe f x y n=>d e.2 f s.toks ⟨e,x,rfl⟩ ⟨y,eF st.2 λo q=>(n.2 S r).trans q⟩ λb o a q=>(n.2 b (λz=>a (by simp[z]))).trans q
 done:=λs Q E st d=>XQ p st.1 st.2 g j k l λf B=>d f s.toks λb o a q=>B b o (λz=>a (by simp[z])) q
 self:=λi s Q E st d=>by refine aEk (S4 st.1) F.slot_seti_iter (aBn F.slot_seti_iter (S4 st.1) F.entry_seti_iter ?_ (F.args_seti_iter _));refine aAa (aAb<|aAb ⟨_,rfl, "set_iterator",_,S4 st.1,F.slot_seti_next.lookup,d⟩)
def collect_set {Q:List ao->aA->Prop}(hh:A.handled=none)(hS:IsSet s.heap S es ep t)(hf:t.fits es.size=true)(hp:t.plain=true)(hl:¬w.params.followText "set-order"=true->t.led=true)(ha:ST.KP t.place)(hn:es.size<=sizeLine)
  (hQ:∀h' tk,(∀b o,s.heap.get? b=some o->h'.get? b=some o)->Q ((walkL w S es ep).map (·.2)) {s with heap:=h',toks:=tk}):av (a9 prog w) A (collect (.ref S)) Q E s:=by
 obtain⟨I,f,j,hdS⟩:=id hS;have hT:s.TypeIs (.ref S) "set":=⟨I,f,j⟩;have C:S<s.heap.objs.size:=aAf f;unfold collect;refine aAa (aGb<|aBE PySem.F.entry_proto_collect ?_);rw[aBe PySem.F.plain_proto_collect _];show av _ A.in1 (newList []>>=λl=>again (.builtin "list.__iadd__" ⟨[l,.ref S],[]⟩)) _ _ s;refine aAa (aAY ?_);refine aAb ⟨aBW PySem.F.plain_list_iadd _,aBE PySem.F.entry_list_iadd ?_⟩;rw[aBe PySem.F.plain_list_iadd _];generalize k:s.heap.push {cls:=.type "list",data:=.seq ([]:List ao).toArray}=a;have g:∀b o,s.heap.get? b=some o->a.get? b=some o:=λb o e=>by rw[<-k];exact aAc _ e
 have d:a.objs.size=s.heap.objs.size+1:=by rw[<-k,aBG]
 have J:a.get? s.heap.objs.size=some {cls:=.type "list",data:=.seq ([]:List ao).toArray}:=by rw[<-k];exact aAp _ rfl
 have p:IsSet a S es ep t:=eF hS λo e=>g S o e;have L:Shared.TypeIs {s with heap:=a} (.ref S) "set":=⟨I,g _ _ f,j⟩;have q:aDc (.ref s.heap.objs.size) (.ref S)=false:=by simp[aDc,aCR C]
 show av _ A.in1 (aCh (.ref s.heap.objs.size) (.ref S)<|.ref s.heap.objs.size) _ _ _;unfold aCh;refine aAa (aDT L ?_);rw[ka (by rw[q];decide)];refine aAa (RB (s:={s with heap:=a}) p hf hp ?_);refine aAa (aAN ?_);generalize r:a.push {cls:=.type "set_iterator",dict:=none,data:=.fields #[dm (slotAt w t 0),dm (0:Nat),.ref S,dm es.size,dm ep],slots:=#[]}=n;have h:∀b o,a.get? b=some o->n.get? b=some o:=λb o e=>by rw[<-r];exact aAc _ e
 have N:Q9 n w a.objs.size S t 0 es.size ep:=by rw[<-r];exact aAp _ rfl
 have O:IsSet n S es ep t:=eF p λo e=>h S o e;have m:Shared.TypeIs {s with heap:=n} (.ref S) "set":=⟨I,h _ _ (g _ _ f),j⟩;have u:=h _ _ J;unfold aCM;refine aAa (aBD m PySem.F.slot_set_len.lookup ?_)
 (generalize hid:("set.__len__":String)=v;(fail_if_success (clear hid v));wp_delta;rw[show splitId v=some ("set", "__len__")from by subst hid;decide+kernel];subst hid)
 refine aAa (aDi (b:=true) m (by rw[aFi];kernel_rfl) ?_);rw[ka (by decide)];refine JM (by decide+kernel) ?_
 .refine aAa (aDT m<|aAb ?_);rw[jk (by decide)];show av _ A.in1 (rule "list.extend.makes-room">>=λ_=>aFE (.ref s.heap.objs.size)>>=λ_=>again (.builtin "list.extend.loop" ⟨[.ref s.heap.objs.size,.ref a.objs.size,.ref s.heap.objs.size],[]⟩)) _ _ _
  refine aAa (aDC ?_);refine aAa ?_;show av _ A.in1 (gW s.heap.objs.size (·.push .none)>>=λ_=>gW s.heap.objs.size (·.pop)) _ _ _;refine aAa (aCi u rfl ?_);have x:=aBr (aBQ (·.push Value.none)) u rfl;refine aCi x rfl ?_;have T:=aBr (aBQ (·.pop)) x rfl;have U:∀b o,b≠s.heap.objs.size->n.get? b=some o->((n.update s.heap.objs.size (aBQ (·.push Value.none))).update s.heap.objs.size (aBQ (·.pop))).get? b=some o:=
   λb o y e=>(aAF _ _<|aCA y).trans ((aAF _ _<|aCA y).trans e)
  have z:a.objs.size≠s.heap.objs.size:=by rw[d];lia
  have W:=(LS (prog:=prog) (w:=w) (A:=A.in1) (by simp[hh]) a.objs.size S (by rw[d];exact aAl (aBz C)) (es:=es) (ep:=ep) (t:=t) hf hp hl ha).toS;refine aAb ⟨aBW PySem.F.plain_extend_loop _,codeAny_extend_loopS W hn _ (by simp only[aAd,aAP,or_false,not_or];exact⟨aCA z,aCR C⟩) _ es.size 0 _ _ _ rfl (aAM _) ⟨U _ _ z N,eF O λo e=>U S o (aAl C) e⟩ T (ItemsOf.nil _) λB il c' H jg Y=>?_⟩;show av _ A (load s.heap.objs.size>>=_) _ _ B;refine aAa (wpAny_load jg ?_);refine aAb ?_;have g0:B.gens=s.gens:=H.gens;have d0:B.drawn=s.drawn:=H.drawn;have o0:B.os=s.os:=H.os;have ea:il.toList=(walkL w S es ep).map (·.2):=by
   have nh:=(walkL_perm w S es ep).length_eq;apply aEh;intro i;rw[aAE,aAB];by_cases hi:i<es.size
   .have ui:i<il.size:=by rw[Y.1];exact hi
    obtain⟨e,he,hv⟩:=Y.2 i _ (aAx ui);rw[he,aAx ui,hv];rfl
   .rw[aBJ (by rw[Y.1];lia),List.getElem?_eq_none (by rw[nh];simp;lia)];rfl
  obtain⟨h',g',d',yd,os'⟩:=B;subst g0 d0 o0;rw[ea];refine hQ h' yd λb o e=>?_;have y:b≠s.heap.objs.size:=aAl (aAf e);have xl:b≠a.objs.size:=by rw[d];exact aAl (aBz<|aAf e)
  exact H.heap b o (by simp only[aAd,aAP,or_false,not_or];exact⟨y,xl⟩) (U b o y<|h _ _<|g _ _ e)
end
end SI
namespace DL
open PySem PySem.Spec L2
open PyProof.Rows hiding St
def PK:D->Bool
 |.int _=>true
 |_=>false
def aP:D->Bool
 |.tup Y=>!Y.isEmpty&&Y.all PK
 |_=>false
def intD:D->Int
 |.int i=>i
 |_=>0
def flat:D->List Int
 |.tup Y=>Y.map intD
 |_=>[]
theorem TN:∀{Y:List D},Y.all PK=true->Y=(Y.map intD).map D.int
 |[],_=>rfl
 |x::Y,h=>by
  simp only[aGo,aAO]at h;cases x with
  |int i=>show D.int i::Y=D.int i::(Y.map intD).map D.int;rw[<-TN h.2]
  |_=>cases h.1
def iS (h:aP d=true):flat d≠[]/\d=.tup ((flat d).map .int):=by
 cases d with
 |tup Y=>simp only[aP,aAO,Bool.not_eq_true',List.isEmpty_eq_false_iff]at h;refine⟨by simpa[flat]using h.1,?_⟩;show D.tup Y=D.tup ((Y.map intD).map D.int);rw[<-TN h.2]
 |_=>cases h
def yK (h:aP d=true)(h':aP e=true)(q:flat d=flat e):d=e:=by rw[(iS h).2,(iS h').2,q]
theorem uI:∀l:List Int,cU (l.map D.int)=true
 |[]=>rfl
 |i::l=>by show(true&&cU (l.map D.int))=true;rw[uI l];rfl
def N5 (h:aP d=true):oE d=true:=by rw[(iS h).2];exact uI _
def IF (h:aP d=true):F5 d<8:=by
 rw[(iS h).2];have:∀l:List Int,J3 (l.map D.int)=0:=λl=>by
  induction l with
  |nil=>rfl
  |cons i l a=>show max 0 (J3<|l.map D.int)=0;rw[a];rfl
 show J3 _+1<8;rw[this];lia
def sD (d:D):List D->List D
 |[]=>[d]
 |x::Y=>if flat d=flat x then x::Y else if HT.lexLt (flat d) (flat x)=true then d::x::Y else x::sD d Y
def Y8 (ds:List D):List D:=ds.foldr sD []
def PM (ds:List D):Prop:=ds.Pairwise λx y=>HT.lexLt (flat x) (flat y)=true
theorem jS:∀{Y:List D},e∈sD d Y->e=d\/e∈Y
 |[],h=>by rcases aAd.mp h with h|h;exact .inl h;cases h
 |x::Y,h=>by
  unfold sD at h;split at h
  .exact .inr h
  .split at h
   .rcases aAd.mp h with h|h
    .exact .inl h
    .exact .inr h
   .rcases aAd.mp h with h|h
    .exact .inr (by rw[h];exact .head _)
    .rcases jS h with h|h
     .exact .inl h
     .exact .inr (.tail _ h)
theorem AG:∀{Y:List D},e∈Y->e∈sD d Y
 |x::Y,h=>by
  unfold sD;split
  .exact h
  .split
   .exact .tail _ h
   .rcases aAd.mp h with h|h
    .rw[h];exact .head _
    .exact .tail _ (AG h)
theorem zG (a:aP d=true):∀{Y:List D},(∀x∈Y,aP x=true)->d∈sD d Y
 |[],_=>.head _
 |x::Y,h=>by
  unfold sD;split
  .rename_i q;rw[yK a (h x (.head _)) q];exact .head _
  .split
   .exact .head _
   .exact .tail _ (zG a λy b=>h y (.tail _ b))
theorem yT:∀{Y:List D},PM Y->PM (sD d Y)
 |[],_=>aDW _ _
 |x::Y,h=>by
  have b:=aAz.mp h;unfold sD;split
  .exact h
  .rename_i ne;split
   .rename_i lt;refine aAz.mpr ⟨λy a=>?_,h⟩;rcases aAd.mp a with rfl|a
    .exact lt
    .exact TS.lex_trans _ _ _ lt (b.1 y a)
   .rename_i e;refine aAz.mpr ⟨λy a=>?_,yT b.2⟩;rcases jS a with rfl|a
    .cases q:HT.lexLt (flat x) (flat y)with
     |true=>rfl
     |false=>exact absurd (TS.lex_total _ _ (by simpa using e) q) ne
    .exact b.1 y a
theorem V5:∀ds:List D,PM (Y8 ds)
 |[]=>.nil
 |_::ds=>yT (V5 ds)
theorem yY:∀{ds:List D},(∀d∈ds,aP d=true)->∀d∈Y8 ds,aP d=true
 |[],_,d,h=>by cases h
 |e::ds,h,d,hd=>by
  rcases jS hd with rfl|hd
  .exact h _ (.head _)
  .exact yY (λd hd=>h d (.tail _ hd)) d hd
theorem K0:∀{ds:List D},(∀d∈ds,aP d=true)->∀d,d∈Y8 ds↔d∈ds
 |[],_,d=>Iff.rfl
 |e::ds,h,d=>by
  have a:∀d∈ds,aP d=true:=λd b=>h d (.tail _ b);constructor
  .intro q;rcases jS q with rfl|q
   .exact .head _
   .exact .tail _ ((K0 a d).mp q)
  .intro q;rcases aAd.mp q with rfl|q
   .exact zG (h _<|.head _) (yY a)
   .exact AG ((K0 a d).mpr q)
theorem eS:∀{Y ys:List D},PM Y->PM ys->(∀d,d∈Y↔d∈ys)->Y=ys
 |[],[],_,_,_=>rfl
 |[],y::ys,_,_,h=>by have:=(h y).mpr (.head _);cases this
 |x::Y,[],_,_,h=>by have:=(h x).mp (.head _);cases this
 |x::Y,y::ys,i,j,h=>by
  have b:=aAz.mp i;have e:=aAz.mp j;have a:∀d:D,HT.lexLt (flat d) (flat d)≠true:=λd q=>by rw[TS.lex_irrefl]at q;cases q
  have f:x=y:=by
   rcases aAd.mp ((h x).mp (.head _))with q|q
   .exact q
   .rcases aAd.mp ((h y).mpr (.head _))with g|g
    .exact g.symm
    .exact absurd (TS.lex_trans _ _ _ (e.1 x q)<|b.1 y g) (a y)
  subst f;congr 1;refine eS b.2 e.2 λd=>?_;constructor
  .intro q;rcases aAd.mp ((h d).mp (.tail _ q))with z|z
   .subst z;exact absurd (b.1 d q) (a d)
   .exact z
  .intro q;rcases aAd.mp ((h d).mpr (.tail _ q))with z|z
   .subst z;exact absurd (e.1 d q) (a d)
   .exact z
def JL (h:PM Y):Y.Nodup:=h.imp λ{x y} q z=>by subst z;rw[TS.lex_irrefl]at q;cases q
def ssR:D->R (List D)
 |.lst a=>if a.all aP=true/\(Y8 a).length<=63 then .ok (Y8 a)else .bad
 |_=>.bad
section
mutual
theorem X1 (I:Inv X a σ H s):∀{v:V} {d:D} {u:ao},Rep X.K H O v d->oE d=true->RelV v u->HV s.heap u d
 |_,_,_,.non,e,_=>by cases e
 |_,_,_,.bl,e,_=>by cases e
 |_,_,_,.str,e,_=>by cases e
 |_,_,_,.lst _ _ _,e,_=>by cases e
 |_,_,_,.dct _ _ _,e,_=>by cases e
 |_,_,_,.int,_,r=>by obtain⟨t,rfl⟩:=r;exact .int _ t
 |_,_,_,.tup h r,e,b=>by cases b;obtain⟨f,g,p,_⟩:=I.tuple h;exact .tup p (HD I r e g)
theorem HD (I:Inv X b σ H s):∀{v:List V} {d:List D} {u:List ao},Reps X.K H O v d->cU d=true->p9 v u->HVs s.heap u d
 |_,_,_,.nil,_,.nil=>.nil
 |_,_,_,.cons r t,e,.cons f g=>by have a:(oE _&&cU _)=true:=e;rw[aAO]at a;exact .cons (X1 I r a.1 f) (HD I t a.2 g)
end
end
variable [Tabs]
def yj (w:be)(o:Obj)(es:List ao):Prop:=o.ExactSet/\∃a b t,o.data=.set a b t/\t.fits a.size=true/\t.plain=true/\t.led=!w.params.followText "set-order"/\ST.KP t.place/\a.toList.map (·.2)=es
abbrev y9 (K:kc)(H:Hp)(O:a5->Prop):List ao->List D->Prop:=Paired λu d=>∃v,RelV v u/\Rep K H O v d
theorem y9.of {K:kc}{H:Hp}{O:a5->Prop}:∀{L:List V} {a:List ao} {ds:List D},p9 L a->Reps K H O L ds->y9 K H O a ds
 |_,_,_,.nil,.nil=>.nil
 |_,_,_,.cons r t,.cons q u=>.cons ⟨_,r,q⟩ (y9.of t u)
theorem y9.ac5 {K:kc}{H:Hp}{O:a5->Prop}:∀{a:List ao} {ds:List D},y9 K H O a ds->∃L,p9 L a/\Reps K H O L ds
 |_,_,.nil=>⟨[],.nil,.nil⟩
 |_,_,.cons ⟨v,r,q⟩ t=>let⟨L,b,d⟩:=y9.ac5 t;⟨v::L,.cons r b,.cons q d⟩
def y9.same {K:kc}{H H':Hp}{O:a5->Prop}(s:Same H H'){a:List ao}{ds:List D}(h:y9 K H O a ds):y9 K H' O a ds:=dN (by rintro _ _ ⟨v,r,q⟩;exact⟨v,r,q.same s⟩) h
theorem y9.get {K:kc}{H:Hp}{O:a5->Prop}:∀{a:List ao} {ds:List D} {u:ao},y9 K H O a ds->u∈a->∃d∈ds,∃v,RelV v u/\Rep K H O v d
 |_,_,_,.cons r t,h=>by
  rcases aAd.mp h with rfl|h
  .exact⟨_,.head _,r⟩
  .obtain⟨d,b,q⟩:=y9.get t h;exact⟨d,.tail _ b,q⟩
open Classical in
def R4 (K:kc) (H:Hp) (h:bt):bt:=PySem.W.hideAll h ((aAQ h.objs.size).filter λa=>decide (¬∃Y,Z0 K H a Y))
def Z7 (K:kc)(H:Hp)(h:bt):Keeps (R4 K H h) h:=λb o e=>PySem.W.of_hideAll _ e
open Classical in
def BJ {K:kc}{H:Hp}{h:bt}{b:a5}{o:Obj}{Y:List V}(e:h.get? b=some o)(q:Z0 K H b Y):(R4 K H h).get? b=some o:=PySem.W.hideAll_get _ e λa=>by have:=(aBS.mp a).2;exact(of_decide_eq_true this) ⟨Y,q⟩
open Classical in
def CV {K:kc}{H:Hp}{h:bt}{b:a5}{o:Obj}(e:(R4 K H h).get? b=some o):∃Y,Z0 K H b Y:=by refine Classical.byContradiction λn=>?_;have a:=Z7 K H h b o e;have:(R4 K H h).get? b=none:=PySem.W.hideAll_none _ (aBS.mpr ⟨aBA.mpr (aAf a),decide_eq_true n⟩);rw[this]at e;cases e
section
mutual
theorem QC (I:Inv X a σ H s):∀{v:V} {d:D} {u:ao},Rep X.K H O v d->oE d=true->RelV v u->HV (R4 X.K H s.heap) u d
 |_,_,_,.non,e,_=>by cases e
 |_,_,_,.bl,e,_=>by cases e
 |_,_,_,.str,e,_=>by cases e
 |_,_,_,.lst _ _ _,e,_=>by cases e
 |_,_,_,.dct _ _ _,e,_=>by cases e
 |_,_,_,.int,_,r=>by obtain⟨t,rfl⟩:=r;exact .int _ t
 |_,_,_,.tup h r,e,b=>by cases b;obtain⟨f,i,⟨o,g,c,n,d⟩,_⟩:=I.tuple h;exact .tup ⟨o,BJ g h,c,n,d⟩ (GO I r e i)
theorem GO (I:Inv X b σ H s):∀{v:List V} {d:List D} {u:List ao},Reps X.K H O v d->cU d=true->p9 v u->HVs (R4 X.K H s.heap) u d
 |_,_,_,.nil,_,.nil=>.nil
 |_,_,_,.cons r t,e,.cons f g=>by have a:(oE _&&cU _)=true:=e;rw[aAO]at a;exact .cons (QC I r a.1 f) (GO I t a.2 g)
end
mutual
theorem QW (I:Inv X b σ H s):∀{u:ao} {d:D},HV (R4 X.K H s.heap) u d->∃v,RelV v u/\Rep X.K H O v d
 |_,_,.int i t=>⟨.int i,⟨t,rfl⟩,.int⟩
 |_,_,.tup (a:=a) ⟨o,g,c,n,h⟩ r=>by obtain⟨Y,q⟩:=CV g;obtain⟨L,j,k⟩:=y9.ac5 (HC I r);obtain⟨l,m,⟨w,e,_,x,f⟩,_⟩:=I.tuple q;rw[Z7 _ _ _ _ _ g]at e;cases e;rw[h]at f;injection f with p _;subst p;have:L=Y:=j.inj (by simpa using m);subst this;exact⟨.ref a,rfl,.tup q k⟩
theorem HC (I:Inv X a σ H s):∀{u:List ao} {d:List D},HVs (R4 X.K H s.heap) u d->y9 X.K H O u d
 |_,_,.nil=>.nil
 |_,_,.cons r t=>.cons (QW I r) (HC I t)
end
end
section
def a0j (X:Cx)(B:D->Bool)(U:List D->List D)(f:Ev->R D):TE:=λσ H Q=>∃i j O ρ,EnvOk X.K i j H O σ ρ/\match f ρ with
 |.ok (.lst b)=>(b.all B=true/\(U b).length<=63)/\∀S o g e a,Same H a->a S=none->yj X.w o g->y9 X.K a O g e->e.Nodup->(∀d,d∈e↔d∈b)->Q (.ref S) (upd a S<|.frz o (.own S))
 |.ex x=>∀h,Same H h->XW X x h
 |_=>False
def WT {B:D->Bool}{U:List D->List D}(hB:∀{d},B d=true->oE d=true/\F5 d<8/\∃ys,d=.tup ys)(hU:∀{ds:List D},(∀d∈ds,B d=true)->∀d,d∈U ds↔d∈ds)(ha:PB X e f)(hh:X.calm=true)(hu:X.A.units+300<cq)(hg:Gl X "set":=by rfl)(hm:X.mg "set"=none:=by assumption)(hv:cu "set"=some (.type "set"):=by decide+kernel)(he:az [e] X.env=(false,cv e X.env)::az [] X.env:=by rfl)(br:(cp C (az [] X.env)).any (·.1)=false:=by rfl):
  PE X (.Call (.Name "set" p) [e] [] C) (a0j X B U f):=by
 refine sM λJ s σ H Q I H9 O0 O ρ E q=>?_;refine aAZ (Q0 I hg hm hv ?_ (by decide) (by decide));have oo:PA X [e] _:=L8 ha cG he;refine aBy (G5 (oo C J s σ H (λL g=>∃v ds,L=[v]/\f ρ=.ok (.lst ds)/\Same H g/\C5 X.K g O v (.lst ds)) I ⟨H9,O0,O,ρ,E,?_⟩) λus h z9=>?_) he br
 .cases b:f ρ with
  |ex z=>rw[b]at q;exact q
  |bad=>rw[b]at q;exact q.elim
  |ok d=>
   rw[b]at q;cases d with
   |lst ds=>exactλv g h r1=>⟨v,ds,rfl,rfl,h,r1⟩
   |_=>exact q.elim
 .obtain⟨L,g,m,r1,v,ds,ev,ef,sm,rb⟩:=z9;subst ev;rw[ef]at q;obtain⟨⟨hp,uo⟩,q⟩:=q;obtain⟨a,ws,rfl,hS,rr⟩:=rb.aa5;obtain⟨u,rfl,ru⟩:=vals1 r1;cases ru;obtain⟨k,rv,⟨oL,nL,gL,cL,dL,sL⟩,zL⟩:=m.list hS;have pt:∀d∈ds,B d=true:=aBN.mp hp;have hlen:k.toArray.size=ds.length:=by rw[aAq,<-rv.length,rr.length]
  have st:y9 X.K g O k ds:=y9.of rv rr;have goes:∀(i:Nat) (v:ao),k.toArray[i]?=some v->lw (R4 X.K g h.heap) v (ds.getD i .non):=λi v n=>by
   rw[aCS]at n;obtain⟨d,x,w,pg,rp⟩:=J4 st n;have qc:ds.getD i .non=d:=by rw[aAo,x];rfl
   rw[qc];have hpt:=pt d (aAu x);obtain⟨T,hd8,ys,rfl⟩:=hB hpt;have hv:=QC m rp T pg;cases hv with
   |tup p r=>exact⟨_,_,rfl,rfl,hd8,.tup p r⟩
  have vd:∀i<k.toArray.size,F5 (ds.getD i .non)<8/\∃ys,ds.getD i .non=.tup ys:=λi n=>by
   have N:i<ds.length:=by rw[<-hlen];exact n
   have b:ds.getD i .non=ds[i]:=by rw[aAo,aAg N];rfl
   rw[b];exact(hB<|pt _<|aCl N).2
  refine AZ (Z7 X.K g h.heap) (val:=λi=>ds.getD i .non) (U:=U ds) (m.ok.hd hh) ⟨oL,gL,cL,nL,sL⟩ goes vd (λi n=>?_) (by lia) hu λh' tk bh jg qi kp=>?_
  .have N:i<ds.length:=by rw[<-hlen];exact n
   rw[hU pt];have b:ds.getD i .non=ds[i]:=by rw[aAo,aAg N];rfl
   show ds.getD i .non∈ds;rw[b];exact aCl N
  .obtain⟨⟨o,y,ep,t,T,hc,zh,hsl,x,l,msk,pr,led,pl⟩,nd⟩:=jg;have mem:∀d,d∈bh↔d∈ds:=λd=>by
    rw[qi];constructor
    .rintro⟨j,Y,b⟩;have ud:j<ds.length:=by rw[<-hlen];exact Y
     have e2:ds.getD j .non=ds[j]:=by rw[aAo,aAg ud];rfl
     rw[<-b,e2];exact aCl ud
    .intro x;obtain⟨j,Y,b⟩:=aBi x;refine⟨j,by rw[hlen];exact Y,?_⟩;show ds.getD j .non=d;rw[aAo,aAg Y,<-b];rfl
   have I2:=m.laid (a:=h.heap.objs.size) (o:=.frz o (.own h.heap.objs.size)) (h':=h') (t':=tk) kp (aAj _) ⟨T,o,T⟩;refine⟨.ref h.heap.objs.size,_,I2,rfl,q h.heap.objs.size o (y.toList.map (·.2)) bh g sm (m.hok.fresh<|aAj _) ⟨⟨hc,zh,hsl⟩,y,ep,t,x,?_,pl,led,l.tab.asc,rfl⟩ ?_ nd mem⟩
   .have h1:=l.len;have h2:=l.room;simp only[aGq,aAO,beq_iff_eq,decide_eq_true_eq];exact⟨by simpa using h1,by show t.place.size+t.dummies.size<=t.mask;rw[l.tab.nod];simpa using h2⟩
   .have:∀{y:List (Int×ao)} {ds:List D},Paired (EV<|R4 X.K g h.heap) y ds->y9 X.K g O (y.map (·.2)) ds:=λ{y ds} p=>by
     induction p with
     |nil=>exact .nil
     |cons r _ ih=>exact .cons (QW m r.1) ih
    exact this pr
def LG (h:bt) (v:ao):List Int:=open Classical in if p:∃d,aP d=true/\HV h v d then flat p.choose else[]
def fV (b:aP d=true)(a:HV h v d):LG h v=flat d:=by unfold LG;have q:∃d,aP d=true/\HV h v d:=⟨d,b,a⟩;rw[dif_pos q,HV.inj q.choose_spec.2 a]
def cA (e:aP d=true)(a:HV h v d):∃b items,v=.ref b/\IsTup h b items/\IntsAre items.toList (flat d):=by
 rw[(iS e).2]at a;cases a with
 |tup p r=>
  refine⟨_,_,rfl,p,?_⟩;have:∀{L:List ao} {l:List Int},HVs h L (l.map D.int)->IntsAre L l:=λ{L l} r=>by
   induction l generalizing L with
   |nil=>cases r;exact .nil
   |cons i l f=>
    cases r with
    |cons r t=>cases r;exact .cons _ _ (f t)
  exact this r
def PU {prog:ba}{w:be}{A:bc}{E:E8}{s:aA}{x y:ao}{d e:D}{f:Bool}{Q:zW}(g:aP d=true)(h:aP e=true)(i:HV s.heap x d)(j:HV s.heap y e)(q:Q (HT.lexLt (flat d) (flat e)) s):av (a9 prog w) A (keyLt' (TS.tupK f) x y) Q E s:=by obtain⟨b,k,rfl,l,m⟩:=cA g i;obtain⟨p,a,rfl,n,o⟩:=cA h j;exact TS.lt_ints f l n m o q
def yO {prog:ba}{w:be}{A:bc}{E:E8}{s:aA}{L:List ao}{Q:SortKind->aA->Prop}(h:∀x∈L,∃d,aP d=true/\HV s.heap x d)(v:2<=L.length)(q:Q (TS.tupK true) s):av (a9 prog w) A (keyKind' L.toArray) Q E s:=by
 obtain⟨g,j⟩:∃g:ao->ao,∀x∈L,∃b a k t,x=.ref b/\IsTup s.heap b a/\a[0]?=some (g x)/\g x=.int k t:=by
  refine⟨λx=>open Classical in if z:∃p,∃b a k t,x=.ref b/\IsTup s.heap b a/\a[0]?=some p/\p=aGJ k t then z.choose else .none,λx m=>?_⟩;obtain⟨d,y,C⟩:=h x m;obtain⟨b,a,rfl,H,f⟩:=cA y C;have B:=(iS y).1;have z:∃p,∃i a k t,aDy b=.ref i/\IsTup s.heap i a/\a[0]?=some p/\p=aGJ k t:=by
   cases e:a.toList with
   |nil=>rw[e]at f;generalize flat d=l at f B;cases f;exact absurd rfl B
   |cons p J=>
    rw[e]at f;generalize flat d=l at f;cases f with
    |cons k t N=>exact⟨_,b,a,k,t,rfl,H,by rw[<-aAB,e];rfl,rfl⟩
  dsimp only;rw[dif_pos z];obtain⟨i,I,k,t,n,o,r,u⟩:=z.choose_spec;exact⟨i,I,k,t,n,o,r,u⟩
 refine TS.kind_tuples (T:= "int") g (λx m=>?_) (λz=>by rw[z]at v;simp at v) (by decide) q;obtain⟨b,a,k,t,n,o,r,u⟩:=j x m;exact⟨b,a,n,o,r,by rw[u];exact typeIs_int s k t⟩
def jC {K:kc}{H:Hp}{O:a5->Prop}{n b:List ao}{ds:List D}{key:ao->List Int}(st:y9 K H O n ds)(C:b.Perm n)(E:b.Pairwise λx y=>HT.lexLt (key y) (key x)=false)(I:∀u d,(∃v,RelV v u/\Rep K H O v d)->d∈ds->key u=flat d)(pt:∀d∈ds,aP d=true)(J:ds.Nodup):
  ∃a,y9 K H O b a/\a.Perm ds/\PM a:=by
 obtain⟨a,j,k⟩:=dW C st;refine⟨a,k,j,?_⟩;have m:a.Nodup:=j.nodup_iff.mpr J;have o:∀d∈a,aP d=true:=λd f=>pt d (j.mem_iff.mp f);have p:∀u d,(∃v,RelV v u/\Rep K H O v d)->d∈a->key u=flat d:=λu d h f=>I u d h (j.mem_iff.mp f);clear C j st J pt I;induction k with
 |nil=>exact .nil
 |@cons u d n ds r t s=>
  have w:=aAz.mp E;have A:=aAI.mp m;refine aAz.mpr ⟨λe g=>?_,s w.2 A.2 (λd f=>o d (.tail _ f)) λu d h f=>p u d h (.tail _ f)⟩;have:∃i∈n,∃v,RelV v i/\Rep K H O v e:=by
   clear s E w A m o p r;induction t with
   |nil=>cases g
   |cons r t s=>
    rcases aAd.mp g with rfl|g
    .exact⟨_,.head _,r⟩
    .obtain⟨i,B,q⟩:=s g;exact⟨i,.tail _ B,q⟩
  obtain⟨i,B,q⟩:=this;have l:=w.1 i B;rw[p i e q (.tail _ g),p u d r (.head _)]at l;cases z:HT.lexLt (flat d) (flat e)with
  |true=>rfl
  |false=>have:=yK (o _<|.head _) (o _<|.tail _ g) (TS.lex_total _ _ z l);subst this;exact absurd g A.1
def jX {p Y fu:Pos}{f:Ev->R D}(ha:PB X e f)(hh:X.calm=true)(hu:X.A.units+300<cq)(hg:Gl X "set":=by rfl)(hm:X.mg "set"=none:=by assumption)(hg2:Gl X "sorted":=by rfl)(jm:X.mg "sorted"=none:=by assumption)
  (hv:cu "set"=some (.type "set"):=by decide+kernel) (hv2:cu "sorted"=some (.builtin "sorted"):=by decide+kernel)
  (he:az [e] X.env=(false,cv e X.env)::az [] X.env:=by rfl) (br:(cp fu (az [] X.env)).any (·.1)=false:=by rfl)
  (la:az [.Call (.Name "set" Y) [e] [] fu] X.env=(false,cv (.Call (.Name "set" Y) [e] [] fu) X.env)::az [] X.env:=by rfl) (xa:(cp pos (az [] X.env)).any (·.1)=false:=by rfl):
  PF X (.Call (.Name "sorted" p) [.Call (.Name "set" Y) [e] [] fu] [] pos) (λρ=>(f ρ).bind ssR):=by
 refine sM λpins s σ H Q I H9 O0 O ρ E q=>?_;dsimp only at q;refine aAZ (Q0 I hg2 jm hv2 ?_ (by decide) (by decide));have oo:PA X [.Call (.Name "set" Y) [e] [] fu] _:=L8 (WT (p:=Y) (B:=aP) (U:=Y8) (λh=>⟨N5 h,IF h,_,(iS h).2⟩) K0 ha hh hu hg hm hv he br) cG la;refine aBP (G5 (oo pos pins s σ H (λL H2=>∃S o es i g N,L=[.ref S]/\H2=upd N S (.frz o (.own S))/\f ρ=.ok (.lst g)/\(g.all aP=true/\(Y8 g).length<=63)/\Same H N/\N S=none/\yj X.w o es/\y9 X.K N O es i/\i.Nodup/\(∀d,d∈i↔d∈g)) I ⟨H9,O0,O,ρ,E,?_⟩)
  λus s1 z=>?_) la xa
 .cases e1:f ρ with
  |ex z=>rw[e1]at q;exact q
  |bad=>rw[e1]at q;exact q.elim
  |ok d=>
   rw[e1,R.aa0]at q;cases d with
   |lst g=>
    simp only[ssR]at q;by_cases hc:g.all aP=true/\(Y8 g).length<=63
    .exact⟨hc,λS o es i N sm hS so st nd j=>⟨S,o,es,i,g,N,rfl,rfl,rfl,hc,sm,hS,so,st,nd,j⟩⟩
    .rw[ka hc]at q;exact q.elim
   |_=>exact q.elim
 .obtain⟨L,H2,I2,r1,S,o,es,i,g,N,ev,eH,ef,⟨hp,uo⟩,sm,hS1,so,st,nd,j⟩:=z;subst ev eH;obtain⟨u,rfl,ru⟩:=vals1 r1;cases ru;rw[ef,R.aa0]at q;simp only[ssR]at q;rw[jk ⟨hp,uo⟩]at q;have pt:∀d∈g,aP d=true:=aBN.mp hp;have ye:∀d∈i,aP d=true:=λd J=>pt d ((j d).mp J);have s12:Same N (upd N S<|.frz o (.own S)):=l9 hS1 _;have ki:=st.same s12;obtain⟨hc,ea,ep,t,J,hf,hpln,led,asc,ees⟩:=so;have goS:=(I2.hok S _ j8).1;have hS2:SI.IsSet s1.heap S ea ep t:=⟨o,goS,hc.1,J⟩;have hsl:(Y8 g).Perm i:=by
   letI:DecidableEq D:=λa b=>aEd _
   exact(aBO (JL<|V5 g) nd).mpr λd=>by rw[K0 pt,j]
  have gc:ea.size=i.length:=by have:=st.length;rw[<-ees]at this;simpa using this
  have h63':i.length<=63:=by rw[<-hsl.length_eq];exact uo
  have wp:=SI.walkL_perm X.w S ea ep;have wpv:((SI.walkL X.w S ea ep).map (·.2)).Perm es:=by rw[<-ees];exact wp.map _
  have m:∀u∈(SI.walkL X.w S ea ep).map (·.2),∃d,d∈i/\aP d=true/\HV s1.heap u d:=λu hu=>by obtain⟨d,J,v,rv,rp⟩:=ki.get (wpv.mem_iff.mp hu);exact⟨d,J,ye d J,X1 I2 rp (N5<|ye d J) rv⟩
  refine TS.sorted_keys (L:=(SI.walkL X.w S ea ep).map (·.2)) (f:=true) (key:=LG s1.heap) (C:=λs'=>∃h' T,s'={s1 with heap:=h',toks:=T}/\∀b o,s1.heap.get? b=some o->h'.get? b=some o)
   (λ{Q'} hq=>SI.collect_set (by simp[I2.ok.hd hh]) hS2 hf hpln (λnb=>by rw[led];simpa using nb) asc (by rw[gc];exact aAs h63' (by decide)) λh' T k=>hq _ ⟨h',T,rfl,k⟩)
   (λs' ⟨h',T,r,k⟩ s6 k6 x hx y hy prog w A E hA {Q} qq=>?_) (λh2 s' ⟨h',T,r,k⟩ s6 k6 A {Q} qq=>?_) (by rw[aAi,wp.length_eq,aBj,gc];lia) λs' ic h' l ⟨h1,T,r,k⟩ pm srt k2 hl ⟨n,gl⟩=>?_
  .subst r;obtain⟨d,_,pd,tf⟩:=m x hx;obtain⟨d',_,pd',xb⟩:=m y hy;rw[fV pd tf,fV pd' xb]at qq;exact PU pd pd' (tf.keeps λb o e _=>k6 b o (k b o e)) (xb.keeps λb o e _=>k6 b o (k b o e)) qq
  .subst r;refine yO (λx hx=>?_) h2 qq;obtain⟨d,_,pd,tf⟩:=m x hx;exact⟨d,pd,tf.keeps λb o e _=>k6 b o (k b o e)⟩
  .subst r;obtain⟨ph,st3,Y,xc⟩:=jC (key:=LG s1.heap) ki (pm.trans wpv) srt (by rintro u d ⟨v,rv,rp⟩ J;exact fV (ye d J) (X1 I2 rp (N5<|ye d J) rv)) ye nd;have e2:ph=Y8 g:=eS xc (V5 g) λd=>by rw[Y.mem_iff,j,K0 pt]
   subst e2;obtain⟨wv,pg,rr⟩:=st3.ac5;have I2':=I2.kept (h':=h1) (t':=T) k;have I3:=I2'.laid (a:=l) (o:=.lst wv) (h':=h') (t':=T) k2 hl ⟨by rw[rr.length];exact aAs uo (by decide),ic,n,pg,gl⟩;exact⟨.ref l,_,I3,rfl,q wv _ l (sm.trans s12) (I2'.hok.fresh hl) rr⟩
end
end DL
namespace SZ
open PySem
abbrev Zs (h:bt)(z TI TO:a5)(a b:ao):Prop:=h.get? z=some {cls:=.type "zip",dict:=none,data:=.fields #[a,b,.bool false,.ref TI,.ref TO],slots:=#[]}
def zT (b:ao):Prop:=b=.none\/∃a:Nat,b=dm a
section
def alive {Q:Option Obj->aA->Prop}(h:Q (s.heap.get? c) s):av (a9 prog w) A (loadIfAlive c) Q E s:=λΓ p _=>by unfold loadIfAlive;rw[Sem.wp_loadIfAlive];simpa using h
def oQ {Q:zW}(hz:Zs s.heap z TI TO b d)(j:zT b)(f:Q true s)(g:∀h' e,Zs h' z TI TO b e->Heap.SameBut z s.heap h'->Q false {s with heap:=h'}):av (a9 prog w) A (aBY (.ref z)) Q E s:=by
 unfold aBY;refine aAa (aCV hz rfl (x:=b) rfl ?_);rcases j with rfl|⟨a,rfl⟩
 .exact aAb f
 .show av _ _ (loadIfAlive (aEL (a:Int))>>=_) _ _ _;refine aAa (alive ?_);by_cases h:(s.heap.get?<|aEL (a:Int)).isNone=true
  .rw[jk h];exact aAb f
  .rw[ka h];refine aAa (aCV hz rfl (x:=d) rfl ?_);by_cases i:(d !=aDD true)=true
   .rw[jk i];refine aAa (aCg hz (by simp) λh' k l=>aAb (g h' (.bool true) k l))
   .rw[ka i];exact aAb (g s.heap d hz ⟨rfl,λ_ _=>rfl⟩)
def NH {Q:E8}(D:ZipApart z TI TO l m L l2)(hz:Zs s.heap z TI TO f0 f1)(ho:zT f0)(ur:fh s.heap TI (.ref l) (.ref m))(ua:fh s.heap TO a b)(h1:s.heap.IsListIter l L k)(h2:s.heap.IsListIter m l2 k)(qm:s.heap.IsList L Y)(nh:s.heap.IsList l2 ys)(hx:Y[k]?=some x)(hy:ys[k]?=some y)(hQ:∀h' T N t a' b',Zs h' z TI TO N t->zT N->fh h' TO a' b'->h'.IsListIter l L (k+1)->h'.IsListIter m l2 (k+1)->s.heap.objs.size<=T->fh h' T x y->
   (∀c o,c≠z->c≠TO->c≠l->c≠m->s.heap.get? c=some o->h'.get? c=some o)->Q (.ref T) {s with heap:=h'}):
  av (a9 prog w) A (Builtin.«zip.__next__» ⟨[.ref z],[]⟩) (λfin s'=>∃v,fin=.done (.ret v)/\Q v s') E s:=by
 show av _ _ (field (.ref z) 2>>=_) _ _ _;refine aAa (aCV hz rfl (x:=.bool false) rfl ?_);show av _ _ (field (.ref z) 3>>=_) _ _ _;refine aAa (aCV hz rfl (x:=.ref TI) rfl ?_);refine aAa (aBT ur rfl ?_);show av _ _ (aBY (.ref z)>>=_) _ _ _;refine aAa (oQ hz ho ?_ λp t O d=>?_)
 .simp only[if_true];refine aAa (aDC ?_);refine aAa (aCV hz rfl (x:=.ref TO) rfl ?_);refine aAa (aCg hz (by simp) λp O d=>?_);replace O:Zs p z TI TO .ellipsis f1:=O;refine aAa ?_;simp only[aEx,aEJ,aDb,aEn];refine aAa (aAa<|wpAny_onRaise ?_);show av _ _ (aBU (.ref l)>>=_) _ _ _;refine aAa (aDo (h1.extBut d.extBut D.i1z) (qm.extBut d.extBut D.l1z) hx λja u g=>aAb ?_);have q:fh ja TO a b:=g.extBut _ _ D.TOi1 (d.extBut _ _ D.TOz ua);refine aAa (aBT q rfl ?_);refine aAa (wpAny_updateSeq_pair q λaB h J=>?_);replace h:fh aB TO x b:=h;refine aAa (aEm<|aAb ?_);refine aAa (aAa<|wpAny_onRaise ?_);show av _ _ (aBU (.ref m)>>=_) _ _ _;refine aAa (aDo (((h2.extBut d.extBut D.i2z).extBut g.extBut D.i12.symm).extBut J.extBut D.TOi2.symm)
   (((nh.extBut d.extBut D.l2z).extBut g.extBut D.l2i1).extBut J.extBut D.l2TO) hy λB C i=>aAb ?_)
  have zl:fh B TO x b:=i.extBut _ _ D.TOi2 h;refine aAa (aBT zl rfl ?_);refine aAa (wpAny_updateSeq_pair zl λf zo j=>?_);replace zo:fh f TO x y:=zo;refine aAa (aEm<|aAb<|aAb ?_);refine aAa (aBT zo rfl ?_);refine aAa (aFY ?_);have gc:f.objs.size=s.heap.objs.size:=by rw[j.1,i.1,J.1,g.1,d.1]
  have U:Zs f z TI TO .ellipsis f1:=j.extBut _ _ D.TOz.symm (i.extBut _ _ D.i2z.symm<|J.extBut _ _ D.TOz.symm<|g.extBut _ _ D.i1z.symm O);have hk3:∀c o,c≠z->c≠TO->c≠l->c≠m->s.heap.get? c=some o->f.get? c=some o:=λc o n c2 c3 c4 e=>j.extBut _ _ c2 (i.extBut _ _ c4<|J.extBut _ _ c2<|g.extBut _ _ c3<|d.extBut _ _ n e)
  have h11:f.IsListIter l L (k+1):=((u.extBut J.extBut D.TOi1.symm).extBut i.extBut D.i12).extBut j.extBut D.TOi1.symm;have h21:f.IsListIter m l2 (k+1):=C.extBut j.extBut D.TOi2.symm;have r:z<f.objs.size:=aAf U;show av _ _ (aDN (.ref z) (.ref f.objs.size)>>=_) _ _ _;refine aAa ?_;unfold aDN;have hz5:Zs (f.push {cls:=.type "tuple",data:=.seq #[x,y]}) z TI TO .ellipsis f1:=aAc _ U;refine aAa (aCg hz5 (by simp) λaD H hs8=>?_);replace H:Zs aD z TI TO (dm f.objs.size) f1:=H;refine aCg H (by simp) λaC I hs9=>?_;replace I:Zs aC z TI TO (dm f.objs.size) (.bool false):=I;have up:∀c o,c≠z->f.get? c=some o->aC.get? c=some o:=λc o n e=>hs9.extBut _ _ n (hs8.extBut _ _ n<|aAc _ e);have hT0:fh aC f.objs.size x y:=hs9.extBut _ _ (aCR r) (hs8.extBut _ _ (aCR r)<|aAp _ rfl);refine aAb ⟨_,rfl,?_⟩;exact hQ aC f.objs.size _ _ x y I (.inr ⟨_,rfl⟩) (up _ _ D.TOz zo) (h11.at λo e=>up _ o D.i1z e) (h21.at λo e=>up _ o D.i2z e) (aEs gc.symm) hT0 λc o n c2 c3 c4 e=>up c o n (hk3 c o n c2 c3 c4 e)
 .simp only[aAt,if_false];refine aAa ?_;show av _ _ (forIn (#[.ref l,.ref m]:Array ao) _ _) _ _ _;rw[<-aCz];simp only[aDb,aEn];refine aAa (aAa<|aAN ?_);show av _ _ (aBU (.ref l)>>=_) _ _ _;refine aAa (aDo (h1.extBut d.extBut D.i1z) (qm.extBut d.extBut D.l1z) hx λja u g=>aAb ?_);refine aAb ?_;refine aAa (aAa<|aAN ?_);show av _ _ (aBU (.ref m)>>=_) _ _ _;refine aAa (aDo ((h2.extBut d.extBut D.i2z).extBut g.extBut D.i12.symm) ((nh.extBut d.extBut D.l2z).extBut g.extBut D.l2i1) hy λB C i=>aAb ?_);refine aAb (aAb ?_);have gc:B.objs.size=s.heap.objs.size:=by rw[i.1,g.1,d.1]
  have hz6:Zs B z TI TO f0 t:=i.extBut _ _ D.i2z.symm (g.extBut _ _ D.i1z.symm O);have zl:fh B TO a b:=i.extBut _ _ D.TOi2 (g.extBut _ _ D.TOi1<|d.extBut _ _ D.TOz ua);have h12:B.IsListIter l L (k+1):=u.extBut i.extBut D.i12;show av _ _ (newTuple [x,y]>>=_) _ _ _;refine aAa (aFY ?_);refine aAb ⟨_,rfl,?_⟩;exact hQ _ B.objs.size _ _ a b (aAc _ hz6) ho (aAc _ zl) (h12.at λo e=>aAc _ e) (C.at λo e=>aAc _ e) (aEs gc.symm) (aAp _ rfl)
   λc o n c2 c3 c4 e=>aAc _ (i.extBut _ _ c4<|g.extBut _ _ c3<|d.extBut _ _ n e)
def US {Q:Fin->aA->Prop}(v:A.handled=none)(D:ZipApart z TI TO h l y l2)(hz:Zs s.heap z TI TO L B)(N:zT L)(O:fh s.heap TI (.ref h) (.ref l))(ua:fh s.heap TO a b)
  (C:s.heap.IsListIter h y k) (h2:s.heap.IsListIter l l2 k) (H:s.heap.IsList y Y) (nh:s.heap.IsList l2 ys) (I:Y[k]?=none)
  (hE:∀h' e,(∀c o,c≠z->c≠TO->c≠h->c≠l->s.heap.get? c=some o->h'.get? c=some o)->(∃o,h'.get? e=some o/\o.cls=.type "StopIteration")->E (.ref e) {s with heap:=h'}):
  av (a9 prog w) A (Builtin.«zip.__next__» ⟨[.ref z],[]⟩) Q E s:=by
 show av _ _ (field (.ref z) 2>>=_) _ _ _;refine aAa (aCV hz rfl (x:=.bool false) rfl ?_);show av _ _ (field (.ref z) 3>>=_) _ _ _;refine aAa (aCV hz rfl (x:=.ref TI) rfl ?_);refine aAa (aBT O rfl ?_);show av _ _ (aBY (.ref z)>>=_) _ _ _;refine aAa (oQ hz N ?_ λd T m f=>?_)
 .simp only[if_true];refine aAa (aDC ?_);refine aAa (aCV hz rfl (x:=.ref TO) rfl ?_);refine aAa (aCg hz (by simp) λd m f=>?_);replace m:Zs d z TI TO .ellipsis B:=m;refine aAa ?_;simp only[aEx,aEJ,aDb,aEn];refine aAa (aAa<|wpAny_onRaise ?_);show av _ _ (aBU (.ref h)>>=_) _ _ _;refine aAa (wpAny_nextOf_list_end v (C.extBut f.extBut D.i1z) (H.extBut f.extBut D.l1z) I λq e n r=>?_);obtain⟨U,g,i⟩:=r;have j:Zs q z TI TO .ellipsis B:=n _ _ D.i1z.symm m;have t:e≠z:=λx=>by subst x;rw[j]at g;cases g;simp at i
  exact aCg j (by simp) λaB _ J=>hE aB e (λc o p _ u _ x=>J.extBut _ _ p (n _ _ u<|f.extBut _ _ p x)) ⟨U,J.extBut _ _ t g,i⟩
 .simp only[aAt,if_false];refine aAa ?_;show av _ _ (forIn (#[.ref h,.ref l]:Array ao) _ _) _ _ _;rw[<-aCz];simp only[aDb,aEn];refine aAa (aAa<|aAN ?_);show av _ _ (aBU (.ref h)>>=_) _ _ _;exact aAa (wpAny_nextOf_list_end v (C.extBut f.extBut D.i1z) (H.extBut f.extBut D.l1z) I λq e n r=>hE q e (λc o p _ u _ x=>n _ _ u (f.extBut _ _ p x)) r)
end
def ON (z TI TO d e f l2:a5)(Y ys:Array ao)(i:Nat)(h:bt):Prop:=
 (∃g j,Zs h z TI TO g j/\zT g)/\fh h TI (.ref d) (.ref e)/\(∃a b,fh h TO a b)/\h.IsListIter d f i/\h.IsListIter e l2 i/\h.IsList f Y/\h.IsList l2 ys
section
variable{s:aA}
def ON.type (h:ON z TI TO b d e l2 Y ys i s.heap):s.TypeIs (.ref z) "zip":=by obtain⟨⟨f,g,a,_⟩,_⟩:=h;exact⟨_,a,rfl⟩
def ON.keeps (x:ON z TI TO d f g l2 Y ys i h)(k:∀b o,b∈[z,TI,TO,d,f,g,l2]->h.get? b=some o->h'.get? b=some o):ON z TI TO d f g l2 Y ys i h':=by obtain⟨⟨j,l,m,n⟩,p,⟨a,b,q⟩,r,t,u,v⟩:=x;exact⟨⟨j,l,k z _ (by simp) m,n⟩,k TI _ (by simp) p,⟨a,b,k TO _ (by simp) q⟩,r.at λo e=>k d o (by simp) e,t.at λo e=>k f o (by simp) e,u.at λo e=>k g o (by simp) e,v.at λo e=>k l2 o (by simp) e⟩
def TL {Q:Option ao->aA->Prop}(D:ZipApart z TI TO g h l l2)(hl:Y.size=ys.size)(st:ON z TI TO g h l l2 Y ys i s.heap)(u:i<Y.size)(v:∀h' T x y,Y[i]?=some x->ys[i]?=some y->ON z TI TO g h l l2 Y ys (i+1) h'->s.heap.objs.size<=T->fh h' T x y->(∀c o,c∉[z,TO,g,h]->s.heap.get? c=some o->h'.get? c=some o)->Q (some (.ref T)) {s with heap:=h'}):
  av (a9 prog w) A (ff (.ref z)) Q E s:=by
 have m:=st.type;obtain⟨⟨f0,f1,B,C⟩,n,⟨a,b,H⟩,I,J,p,q⟩:=st;have r:Y[i]?=some Y[i]:=aAx u;have t:ys[i]?=some (ys[i]'(by lia)):=aAx (by lia);unfold ff;refine aAa (aDZ (aCe (name:=aDe "__next__") m aEe
  (aBn aEe m F.entry_zip_next (NH D B C n H I J p q r t λh' T j k L N O U e3 e4 e5 e6 e7 f=>aAb ?_)<|F.args_zip_next_1 _)))
 refine v h' T _ _ r t ⟨⟨j,k,O,U⟩,f _ _ D.TIz D.TITO D.TIi1 D.TIi2 n,⟨L,N,e3⟩,e4,e5,p.at λo e=>f _ o D.l1z D.l1TO D.l1i1 D.l1i2 e,q.at λo e=>f _ o D.l2z D.l2TO D.l2i1 D.l2i2 e⟩ e6 e7 λc o d e=>?_;simp only[aAd,aAP,or_false,not_or]at d;exact f c o d.1 d.2.1 d.2.2.1 d.2.2.2 e
def TK {Q:Option ao->aA->Prop}(i:A.handled=none)(D:ZipApart z TI TO f g j l2)(st:ON z TI TO f g j l2 Y ys Y.size s.heap)
  (k:∀h',(∀c o,c∉[z,TO,f,g]->s.heap.get? c=some o->h'.get? c=some o)->Q none {s with heap:=h'}):av (a9 prog w) A (ff (.ref z)) Q E s:=by
 have h:=st.type;obtain⟨⟨B,C,l,m⟩,n,⟨a,b,p⟩,q,r,t,u⟩:=st;unfold ff;refine aAa (aDZ (aCe (name:=aDe "__next__") h aEe
  (aBn aEe h F.entry_zip_next (US (by simpa using i) D l m n p q r t u (aBJ<|aAj _) λh' e v x=>?_)<|F.args_zip_next_1 _)))
 obtain⟨o,y,d⟩:=x;refine aAa (aDi (T:= "StopIteration") (b:=true) ⟨o,y,d⟩ aGe ?_);refine aAb (k _ λc o d e=>?_);simp only[aAd,aAP,or_false,not_or]at d;exact v c o d.1 d.2.1 d.2.2.1 d.2.2.2 e
def Pairs (h0:bt)(Y ys B:Array ao)(i:Nat)(h:bt)(off:List a5):Prop:=B.size=i/\∀(j:Nat) (v:ao),B[j]?=some v->∃T x y,v=.ref T/\Y[j]?=some x/\ys[j]?=some y/\fh h T x y/\T∉off/\h0.get? T=none
def MB (hh:A.handled=none)(D:ZipApart z TI TO g l O l2)(hl:Y.size=ys.size)(hn:Y.size<=sizeLine)(S:a5)(qa:S∉[z,TI,TO,g,l,O,l2])(res:ao)(h0:bt):
  ∀(k i:Nat) (s:aA) (B:Array ao) (c:Nat),Y.size-i=k->i<=Y.size->(∀b o,b∉[z,TO,g,l,S]->h0.get? b=some o->s.heap.get? b=some o)->ON z TI TO g l O l2 Y ys i s.heap->s.heap.get? S=some {cls:=.type "list",dict:=none,data:=.seq B c,slots:=#[]}->Pairs h0 Y ys B i s.heap [z,TO,g,l,S]->
  (∀h' L Q,(∀b o,b∉[z,TO,g,l,S]->s.heap.get? b=some o->h'.get? b=some o)->h'.get? S=some {cls:=.type "list",dict:=none,data:=.seq L Q,slots:=#[]}->Pairs h0 Y ys L Y.size h' [z,TO,g,l,S]->R (.ok (.ret res)) {s with heap:=h'})->
  fg (a9 prog w) A (.builtin "list.extend.loop" ⟨[.ref S,.ref z,res],[]⟩) R s:=by
 have C:S∉[z,TO,g,l]:=λh=>qa (by simp only[aAd,aAP,or_false]at h⊢;rcases h with h|h|h|h<;>simp[h]);have m:∀b,b∉[z,TO,g,l,S]->b∉[z,TO,g,l]:=λb h q=>h (by simp only[aAd,aAP,or_false]at q⊢;rcases q with q|q|q|q<;>simp[q]);intro k;induction k with
 |zero=>
  intro i s B c hk hi p N E n U;have ni:i=Y.size:=by lia
  subst ni;refine aBE F.entry_extend_loop ?_;rw[aBe aDg _];show av _ A.in1 (ff (.ref z)>>=_) _ _ s;refine aAa (TK (by simpa using hh) D N λh' kp=>?_);refine aAb (U h' B c (λb o d e=>kp b o (m b d) e) (kp S _ C E) ⟨n.1,λj v t=>?_⟩);obtain⟨T,x,y,e1,e2,e3,e4,u,e6⟩:=n.2 j v t;exact⟨T,x,y,e1,e2,e3,kp T _ (m T u) e4,u,e6⟩
 |succ k ih=>
  intro i s B c hk hi p N E n U;have ai:i<Y.size:=by lia
  refine aBE F.entry_extend_loop ?_;rw[aBe aDg _];show av _ A.in1 (ff (.ref z)>>=_) _ _ s;refine aAa (TL D hl N ai λh' T x y hx hy kr hT hP kp=>?_);have jg:=kp S _ C E;have f:∀b o,s.heap.get? b=some o->T≠b:=λb o e q=>absurd (aAv (aAf e) hT) (by rw[q];exact aBv _);obtain⟨⟨f0,f1,hz,_⟩,_,⟨a,b,ua⟩,⟨o1,g1,_⟩,⟨o2,g2,_⟩,_⟩:=id N;have H:T∉[z,TO,g,l,S]:=by simp only[aAd,aAP,or_false,not_or];exact⟨f _ _ hz,f _ _ ua,f _ _ g1,f _ _ g2,f _ _ E⟩
  show av _ A.in1 (gW S (·.push (.ref T))>>=_) _ _ _;refine aAa ?_;have I:∀b o,b≠S->h'.get? b=some o->(h'.update S (aBQ (·.push (.ref T)))).get? b=some o:=λb o d e=>(aAF _ _<|aCA d).trans e;have neS:∀b,b∈[z,TI,TO,g,l,O,l2]->b≠S:=λb d q=>qa (q▸d);refine aCi jg rfl (aAb ⟨aBW aDg _,ih (i+1) _ (B.push<|.ref T) _ (by lia) ai (λb o d e=>I b o (λq=>d (by simp[q])) (kp b o (m b d)<|p b o d e)) (kr.keeps λb o d e=>I b o (neS b d) e) (aBr _ jg rfl) ⟨by rw[Array.size_push,n.1],λj v t=>?_⟩ λh'' L Q kp' wo r=>?_⟩)
   (by rw[n.1];lia) (by show(B.push<|.ref T).size<=sizeLine+1;rw[Array.size_push,n.1];lia)
  .rw[Array.getElem?_push]at t;split at t
   .rename_i q;cases t;rw[n.1]at q;subst q;refine⟨T,x,y,rfl,hx,hy,I T _ (f _ _ E) hP,H,?_⟩;cases q0:h0.get? T with
    |none=>rfl
    |some o=>exact absurd rfl (f T o<|p T o H q0)
   .obtain⟨J,x',y',e1,e2,e3,e4,u,e6⟩:=n.2 j v t;have n5:J≠S:=λq=>u (by simp[q]);exact⟨J,x',y',e1,e2,e3,I J _ n5 (kp J _ (m J u) e4),u,e6⟩
  .refine U h'' L Q (λb o d e=>kp' b o d (I b o (λq=>d (by simp[q]))<|kp b o (m b d) e)) wo r
end
section
def dH {Q:E8}(St:bt->Prop)(N:∀d:aA,St d.heap->d.TypeIs (.ref I) T)(B:∀h h',St h->(∀b o,b≠s.heap.objs.size->h.get? b=some o->h'.get? b=some o)->St h')(r:I≠s.heap.objs.size)
  (n1:(aCy T==aCy "list")=false) (n2:(aCy T==aCy "tuple")=false) (O:∀{M:Model} {A:bc} {E:E8} {s:aA} {Q:Fin->aA->Prop} {a b:Sem Fin},(room=true->av M A a Q E s)->(room=false->av M A b Q E s)->av M A (if(room||["set", "frozenset", "dict", "dict_keys", "dict_values", "dict_items"].any (aCy T==aCy ·))=true then a else b) Q E s)
  (self:∀(d:aA) (Q:E8) (E:E8),St d.heap->Q (.ref I) d->av (a9 prog w) A.in1.in1 (pyIter (.ref I)) Q E d)
  (hint:∀(d:aA) (Q:zW) (E:E8),St d.heap->Q room d->av (a9 prog w) A.in1.in1 (aCM (.ref I)) Q E d) (U:St s.heap)
  (f:∀(n:bt) (c:Nat) (R:Result->aA->Prop),(∀b o,s.heap.get? b=some o->n.get? b=some o)->St n->n.get? s.heap.objs.size=some {cls:=.type "list",dict:=none,data:=.seq #[] c,slots:=#[]}->(∀s',Q (.ref s.heap.objs.size) s'->R (.ok (.ret .none)) s')->
   fg (a9 prog w) A.in1 (.builtin "list.extend.loop" ⟨[.ref s.heap.objs.size,.ref I,.none],[]⟩) R {s with heap:=n}):
  av (a9 prog w) A (call (.type "list") [.ref I]) Q E s:=by
 refine callType_codes (Q₁:=λj C=>j=.ref s.heap.objs.size/\C={s with heap:=s.heap.push {cls:=.type "list",data:=.seq #[]}}) F.called_list (F.typeCall_list_1 _) F.entry_list_init
  (code_list_new _ ⟨rfl,rfl⟩) λj C k=>?_
 obtain⟨rfl,rfl⟩:=k;have p:(s.heap.push {cls:=.type "list",data:=.seq #[]}).get? s.heap.objs.size=some {cls:=.type "list",data:=.seq #[]}:=aAp _ rfl;have H:∀b o,s.heap.get? b=some o->b≠s.heap.objs.size:=λb o e=>aAl (aAf e);refine⟨⟨_,p,rfl⟩,F.args_list_init_2 _ _,?_⟩;show av _ A.in1.in1 (do let t<-aCO (.ref s.heap.objs.size);Builtin.List.listUpdate (.ref s.heap.objs.size) (λ_=>#[]);letGo t.toList.reverse;aCh (.ref s.heap.objs.size) (.ref I) .none) _ _ _;refine aAa ?_;unfold aCO;refine aAa (aBT p rfl<|aAb ?_);show av _ A.in1.in1 (gW s.heap.objs.size (λ_=>#[])>>=λ_=>letGo (#[]:Array ao).toList.reverse>>=λ_=>aCh (.ref s.heap.objs.size) (.ref I) .none) _ _ _;refine aAa (aCi p rfl ?_);have i:=aBr (aBQ<|λ_=>(#[]:Array ao)) p rfl;refine aAa (aEm ?_);generalize u:(s.heap.push {cls:=.type "list",data:=.seq #[]}).update s.heap.objs.size (aBQ<|λ_=>(#[]:Array ao))=g at*
 have v:∀b o,s.heap.get? b=some o->g.get? b=some o:=λb o e=>by rw[<-u];exact(aAF _ _<|aCA<|H b o e).trans (aAc _ e)
 have l:St g:=B s.heap g U λb o _ e=>v b o e;have x:aDc (.ref s.heap.objs.size) (.ref I)=false:=by simp[aDc,aCA r]
 have y:Shared.TypeIs {s with heap:=g} (.ref I) T:=N {s with heap:=g} l;unfold aCh;refine aAa (aDT y ?_);simp only[x,n1,n2,Bool.or_false,aAt,if_false];refine aAa (self _ _ _ l ?_);refine aAa (aAN<|hint _ _ _ l ?_);refine O (λ_=>?_) (λ_=>?_)
 .show av _ A.in1.in1 (rule "list.extend.makes-room">>=λ_=>aFE (.ref s.heap.objs.size)>>=λ_=>again (.builtin "list.extend.loop" ⟨[.ref s.heap.objs.size,.ref I,.none],[]⟩)) _ _ _;refine aAa (aDC ?_);refine aAa ?_;show av _ A.in1.in1 (gW s.heap.objs.size (·.push .none)>>=λ_=>gW s.heap.objs.size (·.pop)) _ _ _;refine aAa (aCi i rfl ?_);have m:=aBr (aBQ (·.push Value.none)) i rfl;refine aCi (hz:=by seq_fits) m rfl ?_;have z:=aBr (aBQ (·.pop)) m rfl;have J:∀b o,b≠s.heap.objs.size->g.get? b=some o->((g.update s.heap.objs.size (aBQ (·.push Value.none))).update s.heap.objs.size (aBQ (·.pop))).get? b=some o:=
   λb o L e=>(aAF _ _<|aCA L).trans ((aAF _ _<|aCA L).trans e)
  exact aAb ⟨aBW aDg _,f _ _ _ (λb o e=>J b o (H b o e) (v b o e)) (B g _ l J) z λs' q=>⟨rfl,q⟩⟩
 .exact aAb ⟨aBW aDg _,f _ _ _ v l i λs' q=>⟨rfl,q⟩⟩
def KG:typeLookup (.type "zip") "__len__"=pure none:=by rw[aDz,aCx];kernel_rfl
def EQ:typeLookup (.type "zip") "__length_hint__"=pure none:=by rw[aDz,aCx];kernel_rfl
def RE {Q:E8}(r:A.handled=none)(D:ZipApart z TI TO f g i l2)(t:Y.size=ys.size)(u:Y.size<=sizeLine)(st:ON z TI TO f g i l2 Y ys 0 s.heap)(y:∀h' B c,(∀b o,b∉[z,TO,f,g]->s.heap.get? b=some o->h'.get? b=some o)->h'.get? s.heap.objs.size=some {cls:=.type "list",dict:=none,data:=.seq B c,slots:=#[]}->Pairs s.heap Y ys B Y.size h' [z,TO,f,g,s.heap.objs.size]->Q (.ref s.heap.objs.size) {s with heap:=h'}):
  av (a9 prog w) A (call (.type "list") [.ref z]) Q E s:=by
 have lt:∀b∈[z,TI,TO,f,g,i,l2],b≠s.heap.objs.size:=λb d=>by
  obtain⟨⟨C,H,m,_⟩,I,⟨a,b',J⟩,⟨o1,L,_⟩,⟨o2,N,_⟩,⟨o3,O,_⟩,⟨o4,U,_⟩⟩:=st;simp only[aAd,aAP,or_false]at d;rcases d with rfl|rfl|rfl|rfl|rfl|rfl|rfl
  .exact aAl (aAf m)
  .exact aAl (aAf I)
  .exact aAl (aAf J)
  .exact aAl (aAf L)
  .exact aAl (aAf N)
  .exact aAl (aAf O)
  .exact aAl (aAf U)
 refine dH (T:= "zip") (room:=true) (ON z TI TO f g i l2 Y ys 0) (λl h=>h.type) (λh h' x k=>x.keeps λb o d e=>k b o (lt b d) e) (lt z (by simp)) (by decide) (by decide) (λn h2=>by rw[jk (by decide)];exact n rfl)
  (λl Q E x q=>?_) (λl Q E x q=>?_) st λn c R p YK hS hR=>?_
 .obtain⟨⟨C,H,m,_⟩,_⟩:=id x;refine aEk x.type F.slot_zip_iter (aBn F.slot_zip_iter x.type F.entry_zip_iter ?_ (F.args_zip_iter_1 _));show av _ _ (ret<|.ref z) _ _ l;exact aAb ⟨_,rfl, "zip",_,x.type,aEe.lookup,q⟩
 .unfold aCM;refine aAa (aBD x.type KG ?_);show av _ _ (specialOf (aDy z) (aDe "__length_hint__")>>=_) _ _ _;exact aAa (aBD x.type EQ<|aAb q)
 .refine MB (by simpa using r) D t u s.heap.objs.size (λh=>lt _ h rfl) .none s.heap Y.size 0 _ #[] c (by lia) (aAM _) (λb o _ e=>p b o e) YK hS ⟨rfl,λj v h=>by simp at h⟩ λh' il c' kp jg hP=>hR _ (y h' il c' (λb o d e=>kp b o ?_ (p b o e)) jg hP);have:=aAl (aAf e);simp only[aAd,aAP,or_false,not_or]at d⊢;exact⟨d.1,d.2.1,d.2.2.1,d.2.2.2,this⟩
def LK:typeLookup (.type "list_reverseiterator") "__len__"=pure none:=by rw[aDz,aCx];kernel_rfl
def SC:typeLookup (.type "list_reverseiterator") "__length_hint__"=pure (some (.builtin "list_reverseiterator.__length_hint__")):=by rw[aDz,aCx];kernel_rfl
def OQ {Q:E8}(C:A.handled=none)(H:l≠r)(I:Y.size<=sizeLine)(p:s.heap.IsRevIter r l ((Y.size:Int)-1))(t:s.heap.IsList l Y)(J:∀h' tk c,(∀b o,b≠r->s.heap.get? b=some o->h'.get? b=some o)->h'.get? s.heap.objs.size=some {cls:=.type "list",dict:=none,data:=.seq Y.reverse c,slots:=#[]}->Q (.ref s.heap.objs.size) {s with heap:=h',toks:=tk}):
  av (a9 prog w) A (call (.type "list") [.ref r]) Q E s:=by
 have j:r≠s.heap.objs.size:=by obtain⟨o,g,_⟩:=p;exact aAl (aAf g)
 have u:l≠s.heap.objs.size:=by obtain⟨o,g,_⟩:=t;exact aAl (aAf g)
 refine dH (T:= "list_reverseiterator") (room:=false) (λh=>h.IsRevIter r l ((Y.size:Int)-1)/\h.IsList l Y) (λv h=>h.1.typeIs) (λh h' x k=>⟨x.1.at λo e=>k r o j e,x.2.at λo e=>k l o u e⟩) j (by decide) (by decide)
  (λL N=>by rw[ka (by decide)];exact N rfl) (λv Q E x q=>wpAny_pyIter_revIter x.1 q) (λv Q E x q=>?_) ⟨p,t⟩ λL c R O YK U hR=>?_
 .have m:=x.1.typeIs;unfold aCM;refine aAa (aBD m LK ?_);show av _ _ (specialOf (aDy r) (aDe "__length_hint__")>>=_) _ _ _;refine aAa (aBD m SC ?_)
  (generalize hid:("list_reverseiterator.__length_hint__":String)=a;(fail_if_success (clear hid a));wp_delta;rw[show splitId a=some ("list_reverseiterator", "__length_hint__")from by subst hid;decide+kernel];subst hid)
  refine aAa (aDi (b:=true) m (by rw[aFi];kernel_rfl) ?_);exact aAb q
 .have W:=(Walks.listRev (prog:=prog) (w:=w) (A:=A.in1.in1) (by simp[C]) r l H Y).toS;refine codeAny_extend_loopS W I s.heap.objs.size (by simp only[aAd,aAP,or_false,not_or];exact⟨aCA j,aCA u⟩) .none Y.size 0 _ #[] c (by lia) (aAM _) ⟨aAM _,by simpa using YK.1,YK.2⟩ U (ItemsOf.nil _) λd y c' f jg n=>hR _ ?_;have ea:y=Y.reverse:=by
   apply Array.ext';apply aEh;intro i;rw[aAB,aAB];by_cases z:i<Y.size
   .have B:i<y.size:=by rw[n.1];exact z
    have:=n.2 i _ (aAx B);rw[aAx B,Array.getElem?_reverse z,this]
   .rw[aBJ (by rw[n.1];lia),aBJ (by simp;lia)]
  subst ea;have g0:d.gens=s.gens:=f.gens;have d0:d.drawn=s.drawn:=f.drawn;have o0:d.os=s.os:=f.os;obtain⟨h',g',d',yd,os'⟩:=d;subst g0 d0 o0;refine J h' yd c' (λb o hb e=>?_) jg;exact f.heap b o (by simp only[aAd,aAP,or_false,not_or];exact⟨aAl (aAf e),hb⟩) (O b o e)
end
end SZ
namespace DL
open PySem PySem.Spec L2
open PyProof.Rows hiding St
section
variable [Tabs]
section
def a1m:D->R (List D)
 |.lst Y=>.ok Y.reverse
 |_=>.bad
def DR (ha:PB X e f)(hh:X.calm=true)(hg:Gl X "reversed":=by rfl)(hm:X.mg "reversed"=none:=by assumption)(A:Gl X "list":=by rfl)(jm:X.mg "list"=none:=by assumption)(hv:cu "reversed"=some (.type "reversed"):=by decide+kernel)(B:cu "list"=some (.type "list"):=by decide+kernel)(Y:az [e] X.env=(false,cv e X.env)::az [] X.env:=by rfl)(br:(cp j (az [] X.env)).any (·.1)=false:=by rfl)(la:az [.Call (.Name "reversed" C) [e] [] j] X.env=(false,cv (.Call (.Name "reversed" C) [e] [] j) X.env)::az [] X.env:=by rfl)(xa:(cp i (az [] X.env)).any (·.1)=false:=by rfl)(J:cp i (az [] X.env)=[]:=by rfl):
  PF X (.Call (.Name "list" p) [.Call (.Name "reversed" C) [e] [] j] [] i) (λρ=>(f ρ).bind a1m):=by
 refine sM λk s σ H Q I H9 O0 O ρ E q=>?_;dsimp only at q;refine aAZ (Q0 I A jm B ?_ (by decide) (by decide));refine aBy ?_ la xa;rw[la];show av _ _ (spliced ((false,cv (.Call (.Name "reversed" C) [e] [] j) X.env)::cp i (az [] X.env))) _ _ s;refine aFc (aAZ (Q0 I hg hm hv ?_ (by decide) (by decide)));have oo:PA X [e] _:=L8 ha cG Y;refine aBy (G5 (oo j k s σ H (λL l=>∃v m,L=[v]/\f ρ=.ok (.lst m)/\Same H l/\C5 X.K l O v (.lst m)) I ⟨H9,O0,O,ρ,E,?_⟩) λy h z9=>?_) Y br
 .cases N:f ρ with
  |ex z=>rw[N]at q;exact q
  |bad=>rw[N]at q;exact q.elim
  |ok d=>
   rw[N,R.aa0]at q;cases d with
   |lst m=>exactλv l h T=>⟨v,m,rfl,rfl,h,T⟩
   |_=>exact aAh q
 .obtain⟨L,l,n,T,v,m,ev,ef,sm,rb⟩:=z9;subst ev;rw[ef,R.aa0]at q;obtain⟨a,U,rfl,hS,rr⟩:=rb.aa5;obtain⟨u,rfl,ru⟩:=vals1 T;cases ru;obtain⟨g,rv,⟨oL,nL,gL,cL,dL,sL⟩,zL⟩:=n.list hS;have hl:h.heap.IsList a g.toArray:=⟨oL,gL,cL,nL,sL⟩;refine call_reversed_list hl ?_;rw[J];refine aFo ?_;have ge:a≠h.heap.objs.size:=aAl (aAf gL);have I2:=n.kept (h':=h.heap.push (revObj a<|(g.toArray.size:Int)-1)) (t':=h.toks) λb u e=>aAc _ e;refine SZ.OQ (s:={h with heap:=h.heap.push (revObj a<|(g.toArray.size:Int)-1)}) (n.ok.hd hh) ge (by rw[aAq,<-rv.length];exact zL) ⟨_,aAp _ rfl,rfl,rfl⟩ (hl.push _) λh' tk c kp gl=>?_;have kk:∀b u,h.heap.get? b=some u->h'.get? b=some u:=λb u e=>kp b u (aAl<|aAf e) (aAc _ e);have w:h.heap.objs.size<=(h.heap.push<|revObj a<|(g.toArray.size:Int)-1).objs.size:=by rw[aBG];lia
  have x:p9 U.reverse g.reverse:=by
   have:∀{L:List V} {y:List ao},p9 L y->p9 L.reverse y.reverse:=λ{L y} r=>by
    induction r with
    |nil=>exact .nil
    |cons r t ih=>rw[aAJ,aAJ];exact ih.append (.cons r .nil)
   exact this rv
  have I3:=n.laid (a:=(h.heap.push<|revObj a<|(g.toArray.size:Int)-1).objs.size) (o:=.lst U.reverse) (h':=h') (t':=tk) kk w ⟨by rw[aCN];exact zL,g.reverse,c,x,by rw[gl];simp⟩;exact⟨.ref _,_,I3,rfl,q U.reverse l _ sm (n.hok.fresh w) rr.reverse⟩
def _root_.L2.Inv.ae3 (I:Inv X d σ H s)(k:∀b u,s.heap.get? b=some u->h'.get? b=some u)(a:Same H Hn)(f:∀b u,H b=none->Hn b=some u->s.heap.get? b=none/\ObjOk X.prog X.w Hn h' b u):
  Inv X d σ Hn {s with heap:=h',toks:=t'}:=by
 refine I.un ⟨λb o e _ _ _=>k b o e,λb o e _ _ _=>⟨o.slots,k b o e⟩,λb o e n _=>?_,λb o e _=>⟨o,k b o e⟩,λb Y e=>a _ _ e,λb o u e=>a _ _ e,λb h e=>a _ _ e⟩ λb u e=>?_
 .cases q:Hn b with
  |none=>rfl
  |some u=>rw[(f b u n q).1]at e;cases e
 .cases q:H b with
  |none=>exact(f b u q e).2
  |some g=>have:=a b g q;rw[e]at this;cases this;exact(I.hok b u q).ac0 (λc v _ z=>k c v z) (λc z=>a _ _ z) λc u _ z=>a _ _ z
def lR (Y ys:List D):List D:=List.zipWith (λa b=>D.tup [a,b]) Y ys
def WX:List D->R (List D)
 |[.lst Y,.lst a]=>if Y.length=a.length then .ok (lR Y a)else .bad
 |_=>.bad
def LH {K:kc}{i:Hp}{O:a5->Prop}{h0 h':bt}{l:a5}(hf:∀b,h0.get? b=none->i b=none):∀{Y ys:List D} {m p B:List ao},y9 K i O m Y->y9 K i O p ys->Y.length=ys.length->
  (∀(j:Nat) (v:ao),B[j]?=some v->∃T x y,v=.ref T/\m[j]?=some x/\p[j]?=some y/\fh h' T x y/\T≠l/\h0.get? T=none)->B.length=Y.length->
  ∃(L:List V) (Hn:Hp),p9 L B/\Same i Hn/\(∀b u,i b=none->Hn b=some u->h0.get? b=none/\b≠l/\∃ws e,u=.tup ws/\ws.length<=2/\p9 ws e/\IsTup h' b e.toArray)/\Reps K Hn O L (lR Y ys):=by
 intro Y ys m p B;induction B generalizing Y ys m p with
 |nil=>
  intro s t z _ A;cases Y with
  |nil=>cases ys with
   |nil=>exact⟨[],i,.nil,Same.refl _,λb u n q=>(by rw[n]at q;cases q),.nil⟩
   |cons _ _=>cases z
  |cons _ _=>cases A
 |cons v B ih=>
  intro s t z hP A;cases s with
  |nil=>cases A
  |@cons u d m Y rx s=>
   cases t with
   |nil=>cases z
   |@cons J d' p ys ry t=>
    obtain⟨T,x,y,rfl,ex,ey,hp,nl,r⟩:=hP 0 v rfl;cases ex;cases ey;obtain⟨L,Hn,r1,k,N,rr⟩:=ih s t (by simpa using z) (λj v hj=>by obtain⟨T,x,y,e1,Q,e3,e4⟩:=hP (j+1) v (by simpa using hj);exact⟨T,x,y,e1,by simpa using Q,by simpa using e3,e4⟩) (by simpa using A)
    obtain⟨C,U,f⟩:=rx;obtain⟨E,rvy,h⟩:=ry;have v2:p9 [C,E] [u,J]:=.cons U (.cons rvy .nil);cases q:Hn T with
    |none=>
     have H:Same Hn (upd Hn T<|.tup [C,E]):=l9 q _;refine⟨.ref T::L,upd Hn T (.tup [C,E]),.cons rfl r1,k.trans H,λb w n I=>?_,.cons (.tup (Z0.of j8) (.cons ((f.same k).same H) (.cons ((h.same k).same H) .nil))) (rr.same H)⟩;by_cases hb:b=T
     .subst hb;rw[j8]at I;cases I;exact⟨r,nl,_,_,rfl,by simp,v2,⟨_,hp,rfl,0,rfl⟩⟩
     .rw[m9 hb]at I;exact N b w n I
    |some w=>
     obtain⟨_,_,ws,e,rfl,_,vw,⟨o,g,_,n,dd⟩⟩:=N T w (hf T r) q;have hp':h'.get? T=some {cls:=.type "tuple",data:=.seq #[u,J]}:=hp;rw[hp']at g;cases g;have Q:e=[u,J]:=by have:=kb (λd=>match d with|Data.seq a _=>a.toList|_=>[]) dd;simpa using this.symm
     subst Q;have:ws=[C,E]:=vw.inj v2;subst this;exact⟨.ref T::L,Hn,.cons rfl r1,k,N,.cons (.tup (Z0.of q) (.cons (f.same k) (.cons (h.same k) .nil))) rr⟩
def CU {e1 e2:cf}{p p2 C:Pos}{J N:Ev->R D}(ha1:PB X e1 J)(ha2:PB X e2 N)(hh:X.calm=true)(hg:Gl X "zip":=by rfl)(hm:X.mg "zip"=none:=by assumption)(hg2:Gl X "list":=by rfl)(jm:X.mg "list"=none:=by assumption)
  (hv:cu "zip"=some (.type "zip"):=by decide+kernel) (hv2:cu "list"=some (.type "list"):=by decide+kernel)
  (he1:az [e2] X.env=(false,cv e2 X.env)::az [] X.env:=by rfl) (he:az [e1,e2] X.env=(false,cv e1 X.env)::az [e2] X.env:=by rfl) (br:(cp C (az [e2] X.env)).any (·.1)=false:=by rfl)
  (la:az [.Call (.Name "zip" p2) [e1,e2] [] C] X.env=(false,cv (.Call (.Name "zip" p2) [e1,e2] [] C) X.env)::az [] X.env:=by rfl) (xa:(cp m (az [] X.env)).any (·.1)=false:=by rfl) (hnl:cp m (az [] X.env)=[]:=by rfl):
  PF X (.Call (.Name "list" p) [.Call (.Name "zip" p2) [e1,e2] [] C] [] m) (λρ=>(t5 J (t5 N U5) ρ).bind WX):=by
 refine sM λU s σ H Q I H9 O0 O ρ E q=>?_;dsimp only at q;refine aAZ (Q0 I hg2 jm hv2 ?_ (by decide) (by decide));refine aBy ?_ la xa;rw[la];show av _ _ (spliced ((false,cv (.Call (.Name "zip" p2) [e1,e2] [] C) X.env)::cp m (az [] X.env))) _ _ s;refine aFc (aAZ (Q0 I hg hm hv ?_ (by decide) (by decide)));have oo:qy X [e1,e2] (t5 J<|t5 N U5):=A8 ha1 (A8 ha2 L0 he1) he;refine aBy (G5 (oo C U s σ H (λL k=>∃v1 v2 Y f,L=[v1,v2]/\t5 J (t5 N U5) ρ=.ok [.lst Y,.lst f]/\Y.length=f.length/\Same H k/\C5 X.K k O v1 (.lst Y)/\C5 X.K k O v2 (.lst f)) I ⟨H9,O0,O,ρ,E,?_⟩) λus d z9=>?_) he br
 .cases e1:t5 J (t5 N U5) ρ with
  |ex z=>rw[e1]at q;exact q
  |bad=>rw[e1]at q;exact q.elim
  |ok ds=>
   rw[e1,R.aa0]at q;match ds,q with
   |[.lst Y,.lst f],q=>
    simp only[WX]at q;by_cases hc:Y.length=f.length
    .intro L k d r;cases r with
     |cons ra r=>cases r with
      |cons rb r=>cases r with
       |nil=>exact⟨_,_,Y,f,rfl,rfl,hc,d,ra,rb⟩
    .rw[ka hc]at q;exact aAh q
 .obtain⟨L,k,I1,r,v1,v2,Y,f,ev,ef,t,sm,rb1,rb2⟩:=z9;subst ev;rw[ef,R.aa0]at q;simp only[WX]at q;rw[jk t]at q;obtain⟨a,wx,rfl,hSx,rx⟩:=rb1.aa5;obtain⟨b,wy,rfl,hSy,ry⟩:=rb2.aa5;obtain⟨u1,u2,rfl,ru1,ru2⟩:=vals2 r;cases ru1;cases ru2;obtain⟨w,g,⟨oX,nX,gX,cX,dX,sX⟩,zX⟩:=I1.list hSx;obtain⟨A,rvy,⟨oY,nY,gY,cY,dY,sY⟩,zY⟩:=I1.list hSy;have hlx:d.heap.IsList a w.toArray:=⟨oX,gX,cX,nX,sX⟩;have hly:d.heap.IsList b A.toArray:=⟨oY,gY,cY,nY,sY⟩;refine call_zip_2 hlx hly λh z1 z2 z3 z4 z5 zsz k1=>?_;rw[hnl];refine aFo ?_;have lx:w.length=Y.length:=by rw[<-g.length,rx.length]
  have ly:A.length=f.length:=by rw[<-rvy.length,ry.length]
  have I2:=I1.kept (h':=h) (t':=d.toks) k1;have D:=zipApart_new (n:=d.heap.objs.size) (aAf gX) (aAf gY);refine SZ.RE (s:={d with heap:=h}) (I1.ok.hd hh) D (by rw[aAq,aAq,lx,ly,t]) (by rw[aAq,<-g.length];exact zX) ⟨⟨_,_,z1,.inl rfl⟩,z2,⟨_,_,z3⟩,z4,z5,hlx.at λo e=>k1 _ o e,hly.at λo e=>k1 _ o e⟩ λh' B c kp gl hP=>?_;have k12:∀b u,d.heap.get? b=some u->h'.get? b=some u:=λb u e=>kp b u (by have i:=aAf e;simp only[aAd,aAP,or_false,not_or];exact⟨aAl (aAv i<|aDP _ _),aAl (aAv i<|aDP _ _),aAl i,aAl (aAv i<|aDP _ _)⟩) (k1 b u e)
  have sx:y9 X.K k O w Y:=y9.of g rx;have sy:y9 X.K k O A f:=y9.of rvy ry;obtain⟨L,Hn,rva,smn,mr,rr⟩:=LH (h0:=h) (h':=h') (l:=h.objs.size) (λb i=>by
   cases q:k b with
   |none=>rfl
   |some u=>exact absurd i ((I2.hok b u q).live)) (B:=B.toList) sx sy t (λj v hj=>by
   obtain⟨T,x,y,e1,e2,e3,e4,e5,e6⟩:=hP.2 j v (by rw[<-aAB];exact hj);exact⟨T,x,y,e1,by simpa using e2,by simpa using e3,e4,λz=>e5 (by simp[z]),e6⟩) (by rw[aBj,hP.1,aAq,lx])
  have hls:Hn h.objs.size=none:=by
   cases q:Hn h.objs.size with
   |none=>rfl
   |some u=>have:=(mr _ u (I2.hok.fresh<|aAj _) q).2.1;exact absurd rfl this
  have hlen:L.length<=sizeLine:=by rw[rva.length,aBj,hP.1,aAq,<-g.length];exact zX
  have s3:Same Hn (upd Hn h.objs.size<|.lst L):=l9 hls _;have I3:=I1.ae3 (Hn:=upd Hn h.objs.size (.lst L)) (h':=h') (t':=d.toks) k12 (smn.trans s3) (λb u n qb=>by
   by_cases i:b=h.objs.size
   .subst i;rw[j8]at qb;cases qb;refine⟨aEB (by rw[zsz];lia),hlen,B.toList,c,rva,by rw[gl]⟩
   .rw[m9 i]at qb;obtain⟨h0b,_,ws,its,rfl,l2,vw,tt⟩:=mr b u n qb;refine⟨?_,aAs l2 (by decide),its,vw,tt⟩;cases z:d.heap.get? b with
    |none=>rfl
    |some o=>rw[k1 b o z]at h0b;cases h0b)
  exact⟨.ref _,_,I3,rfl,q L Hn _ (sm.trans smn) hls rr⟩
end
mutual
def mO:D->Nat
 |.tup Y=>L9 Y+1
 |_=>1
def L9:List D->Nat
 |[]=>0
 |x::Y=>mO x+L9 Y
end
theorem dQ:∀Y ys:List D,L9 (Y++ys)=L9 Y+L9 ys
 |[],ys=>by simp[L9]
 |x::Y,ys=>by rw[aAD,L9,L9,dQ Y ys];lia
section
variable{prog:ba} {w:be}
def PHe (prog:ba)(w:be)(h:bt)(v:ao)(d:D):Prop:=∀(A:bc) (E:E8) (s:aA) (Q:Int->aA->Prop),s.heap=h->A.units+8*F5 d<cq->Q (q9 d) {s with toks:=s.toks+mO d}->av (a9 prog w) A (pyHash v) Q E s
mutual
theorem OX:∀{v:ao} {d:D},HV h v d->PHe prog w h v d
 |_,_,.int i t=>λA E s Q C H q=>(intKind prog w).pyHash (k:=i) (intKind_is _ _ _ _) q
 |_,_,.tup (a:=a) (items:=items) (ds:=ds) p r=>λA E s Q C H q=>by
  have fs:=GN r;subst C;obtain⟨o,I,N,n,O⟩:=p;have l:s.TypeIs (.ref a) "tuple":=⟨o,I,N⟩;have y:A.units<cq:=by lia
  rw[F5]at H;unfold pyHash;first|unfold pyHashByItsType|skip
  first|refine aAa (wpAny_cRoomFor_or (.inr y) ?_)|skip
  refine aAa (aBD l PySem.F.slot_tuple_hash.lookup ?_);show av _ _ (if(some (aGp "tuple.__hash__")==some Value.none)=true then _ else _) Q E s;rw[ka (by rw[aFz];exact aBg)];refine aAa (aBD l PySem.F.slot_tuple_hash.lookup ?_);show av _ _ (callSpecialIfBoundUnlessNone? (.ref a) "__hash__" _>>=_) Q E s;refine aAa (aDt l PySem.F.slot_tuple_hash<|aBn PySem.F.slot_tuple_hash l PySem.F.entry_tuple_hash ?_ (PySem.F.args_tuple_hash_1 _));show av _ _ (aDH (.ref a)>>=_) _ _ s;refine aAa (wpAny_tupleItemsOf I O ?_);refine aAa ?_;rw[<-aCz];refine aCC _
   (λrest (b:Array Int) z=>∃done left,ds=done++left/\Paired (PHe prog w s.heap) rest left/\b.toList=done.map q9/\z={s with toks:=s.toks+L9 done})
   _ ?_ ?_ _ _ ⟨[],ds,rfl,fs,rfl,rfl⟩
  .rintro x rest b z ⟨done,left,f,B,m,rfl⟩;cases B with
   |@cons _ d _ e T J=>
    refine aAa (T _ _ _ _ rfl ?_ ?_)
    .have:F5 d<=J3 ds:=by rw[f];exact xT (j:=done.length) (by simp)
     rw[w5];lia
    have L:s.toks+L9 done+mO d=s.toks+L9 (done++[d]):=by rw[dQ];simp[L9];lia
    first
     |exact aAb ⟨done++[d],e,by simp[f],J,by simp[m],by rw[<-L]⟩
     |exact aAa (aAb (aAb ⟨done++[d],e,by simp[f],J,by simp[m],by rw[<-L]⟩))
  .rintro b z ⟨done,left,f,B,m,rfl⟩;cases B;rw[aBk]at f;subst f;show av _ _ (retInt<|aAK b.toList) _ _ _;rw[m];refine wpAny_ret_mkInt ?_;show av _ _ (if(decide (-(2:Int)^63<=aAK (ds.map q9))&&decide (aAK (ds.map q9)<2^63))=true then _ else _) Q E _;have g:=q;rw[q9,iE,mO]at g;unfold reduceHash at g;by_cases u:(decide (-(2:Int)^63<=aAK (ds.map q9))&&decide (aAK (ds.map q9)<2^63))=true
   .rw[jk u];rw[jk u]at g;exact aAb g
   .rw[ka u];rw[ka u]at g;exact aAa (aDC<|aAb g)
theorem GN:∀{v:List ao} {d:List D},HVs h v d->Paired (PHe prog w h) v d
 |_,_,.nil=>.nil
 |_,_,.cons r t=>.cons (OX r) (GN t)
end
end
theorem jR:∀{n:Nat} {d:D},Q3 n d=true->oE d=true/\F5 d<=n
 |n,.int i,_=>⟨rfl,by simp[F5]⟩
 |0,.tup Y,h=>by simp[Q3]at h
 |n+1,.tup Y,h=>by
  have g:Y.all (Q3 n)=true:=by simpa[Q3]using h
  have e:∀a:List D,a.all (Q3 n)=true->cU a=true/\J3 a<=n:=λa=>by
   induction a with
   |nil=>intro _;exact⟨rfl,aAM _⟩
   |cons y a j=>intro f;simp only[aGo,aAO]at f;obtain⟨k,o⟩:=jR f.1;obtain⟨l,p⟩:=j f.2;exact⟨by show(oE y&&cU a)=true;rw[k,l];rfl,by show max (F5 y) (J3 a)<=n;lia⟩
  obtain⟨m,q⟩:=e Y g;exact⟨m,by show J3 Y+1<=n+1;lia⟩
 |n,.non,h=>by cases n<;>simp[Q3]at h
 |n,.dct,h=>by cases n<;>simp[Q3]at h
 |n,.bl b,h=>by cases n<;>simp[Q3]at h
 |n,.str x,h=>by cases n<;>simp[Q3]at h
 |n,.lst Y,h=>by cases n<;>simp[Q3]at h
mutual
theorem HV.ab8 (k:∀b o,h.get? b=some o->(∃a n,o.data=.seq a n)->h'.get? b=some o):∀{v:ao} {d:D},HV h v d->HV h' v d
 |_,_,.int i t=>.int i t
 |_,_,.tup p r=>.tup (by obtain⟨o,e,c,n,d⟩:=p;exact⟨o,k _ _ e ⟨_,n,d⟩,c,n,d⟩) (HVs.ab8 k r)
theorem HVs.ab8 (k:∀b o,h.get? b=some o->(∃a n,o.data=.seq a n)->h'.get? b=some o):∀{v:List ao} {d:List D},HVs h v d->HVs h' v d
 |_,_,.nil=>.nil
 |_,_,.cons r t=>.cons (HV.ab8 k r) (HVs.ab8 k t)
end
instance decD:DecidableEq D:=λa b=>aEd _
def qN (prog:ba) (w:be):HeapKind prog w D where
 is:=λh d a=>HV h (.ref a) d/\F5 d<8
 hash:=q9
 draws:=mO
 room:=λA=>A.units+128<cq
 inj:=λx y=>HV.inj x.1 y.1
 keeps:=λ{h u k a d o v B} x j l m=>⟨x.1.ab8<|by rintro b C e ⟨p,n,q⟩;exact(m.2 b (λz=>by subst z;rw[j]at e;cases e;rw[l]at q;cases q)).trans e,x.2⟩
 pyHash:=λ{A E s k a Q} r f q=>OX f.1 A E s Q rfl (by have:=f.2;lia) q
 eqBool:=λ{A E s x y a b Q} r g i q=>by
  have t:=HX (A:=A) g.1 i.1 (by have:=g.2;lia);refine t prog w E Q ?_;have e:x9 x y=decide (x=y):=by
   by_cases h:x=y
   .subst h;rw[P1,decide_eq_true rfl]
   .rw[decide_eq_false h];cases z:x9 x y with
    |false=>rfl
    |true=>exact absurd (fI g.1.ok i.1.ok z) h
  rw[e];exact q
 quiet:=λ{A E s k a Q} f q=>jT 8 f.1 f.2 _ A E s Q rfl q
open Classical in
def cB (N:List (D×D)) (k v:D):List (D×D):=if k∈N.map (·.1)then N.map (λp=>if p.1=k then(p.1,v)else p)else N++[(k,v)]
def LI (N:List (D×D))(k v:D)(h:(N.map (·.1)).Nodup):((cB N k v).map (·.1)).Nodup:=by
 unfold cB;split
 .rw[aAV];have:((λx=>x.1)∘λp:D×D=>if p.1=k then(p.1,v)else p)=λp=>p.1:=by funext p;simp only[aGr];split<;>rfl
  rw[this];exact h
 .rename_i n;rw[aBw,aCo];refine⟨h,by simp,λa f b d=>?_⟩;simp at d;subst d;exactλe=>n (e▸f)
section
theorem HB (I:Inv X d σ H s):∀{es:List gq} {N:List (D×D)},jW X.K H O es N->∃Y:List (D×a5×ao),es=Y.map (entryOfKey (qN X.prog X.w))/\Y.map (·.1)=N.map (·.1)/\(∀x∈Y,(qN X.prog X.w).is s.heap x.1 x.2.1)/\
  Paired (λ(x:D×a5×ao) (p:D×D)=>x.1=p.1/\Rep X.K H O (.ref x.2.1) p.1/\(∃v,RelV v x.2.2/\Rep X.K H O v p.2)/\Q3 7 p.1=true) Y N
 |_,_,.nil=>⟨[],rfl,rfl,λx h=>(by cases h),.nil⟩
 |e::_,p::_,.cons ⟨⟨a,f,g⟩,j,i,k⟩ t=>by
  obtain⟨Y,l,m,n,o⟩:=HB I t;obtain⟨ok,r⟩:=jR k;refine⟨(p.1,a,e.val)::Y,?_,by rw[aAn,aAn,m],λx b=>?_,.cons ⟨rfl,g,j,k⟩ o⟩
  .rw[aAn,<-l];congr 1;obtain⟨q,u,y⟩:=e;simp only at f i;subst f i;rfl
  .rcases aAd.mp b with rfl|b
   .exact⟨X1 I g ok rfl,by show F5 p.1<8;lia⟩
   .exact n x b
theorem GK {P:ba}{w:be}{K:kc}{H:Hp}{O:a5->Prop}:∀{Y:List (D×a5×ao)} {N:List (D×D)},Paired (λ(x:D×a5×ao) (p:D×D)=>x.1=p.1/\Rep K H O (.ref x.2.1) p.1/\(∃v,RelV v x.2.2/\Rep K H O v p.2)/\Q3 7 p.1=true) Y N->jW K H O (Y.map (entryOfKey (qN P w))) N
 |_,_,.nil=>.nil
 |_,_,.cons ⟨e,a,b,k⟩ t=>.cons ⟨⟨_,rfl,a⟩,b,by rw[<-e];rfl,k⟩ (GK t)
def cJ {Y:List (D×a5×ao)}{k:D}:(atKey Y k).isSome=true↔k∈Y.map (·.1):=by unfold atKey;rw[Option.isSome_map,List.find?_isSome];simp only[decide_eq_true_eq,aAk]
def wO (I:Inv X b σ H s)(h:H a=some (.ext λh=>h.get? a=some o))(d:KQ a o es)(r:jW X.K H O es N)(f:(N.map (·.1)).Nodup):
  ∃Y,s.heap.DictOfH (qN X.prog X.w) a Y/\Y.map (·.1)=N.map (·.1)/\Paired (λ(x:D×a5×ao) (p:D×D)=>x.1=p.1/\Rep X.K H O (.ref x.2.1) p.1/\(∃v,RelV v x.2.2/\Rep X.K H O v p.2)/\Q3 7 p.1=true) Y N:=by
 obtain⟨Y,i,e,j,k⟩:=HB I r;obtain⟨_,l,m,n,q,t⟩:=d;have g:s.heap.get? a=some o:=(I.hok a _ h).1;exact⟨Y,⟨o,m,n,g,l,q,by rw[t,i],j,by rw[e];exact f⟩,e,k⟩
def JD {K:kc}{Y:List (D×a5×ao)}{N:List (D×D)}{k d:D}{b:a5}{u:ao}{v:V}(g:Paired (λ(x:D×a5×ao) (p:D×D)=>x.1=p.1/\Rep K H O (.ref x.2.1) p.1/\(∃v,RelV v x.2.2/\Rep K H O v p.2)/\Q3 7 p.1=true) Y N)(a:Y.map (·.1)=N.map (·.1))
  (l:Rep K H O (.ref b) k) (kk:Q3 7 k=true) (i:RelV v u) (j:Rep K H O v d):
  Paired (λ(x:D×a5×ao) (p:D×D)=>x.1=p.1/\Rep K H O (.ref x.2.1) p.1/\(∃v,RelV v x.2.2/\Rep K H O v p.2)/\Q3 7 p.1=true) (storedH Y k b u) (cB N k d):=by
 unfold storedH cB;by_cases h:k∈N.map (·.1)
 .rw[jk h,jk (cJ.mpr (by rw[a];exact h))];clear a h;induction g with
  |nil=>exact .nil
  |@cons x p Y N r t f=>
   rw[aAn,aAn];refine .cons ?_ f;unfold putAt;by_cases e:p.1=k
   .rw[jk (r.1.trans e),jk e];exact⟨r.1,r.2.1,⟨v,i,j⟩,r.2.2.2⟩
   .rw[ka (λz=>e (r.1.symm.trans z)),ka e];exact r
 .rw[ka h,ka (λz=>h (by rw[<-a];exact cJ.mp z))];clear a h;induction g with
  |nil=>exact .cons ⟨rfl,l,⟨v,i,j⟩,kk⟩ .nil
  |cons r t f=>exact .cons r f
end
section
variable{K:Type} [DecidableEq K] {knd:HeapKind prog w K}
def sQ {Q:zW}(g:knd.room A.in1)(b:knd.is s.heap k a)(i:(d==fo)=false)(e:s.heap.DictOfH knd d Y)
  (h:Q (atKey Y k).isSome {s with toks:=s.toks+knd.draws k}):av (a9 prog w) A (contains (.ref d) (.ref a)) Q E s:=by
 unfold contains;try with_reducible refine aAN ?_
 refine aAa (aBD e.typeIs aFf.lookup ?_);show av _ _ (if(some (aGp "dict.__contains__")==some Value.none)=true then _ else _) _ E s;rw[ka (by rw[aFz];exact aBg)];refine aAa (wpAny_callSpecialUnlessNone?_slot (name:=aDe "__contains__") e.typeIs aFf
  (aBn aFf e.typeIs entry_dict_contains ?_ (args_dict_contains _ _)))
 show av _ _ (dictGet d (.ref a)>>=_) _ _ s;refine aAa (wpAny_dictGet_heap g b e ?_);cases f:atKey Y k with
 |some p=>rw[f]at h;show av _ _ (ret<|.bool true) _ _ _;exact aAb ⟨_,rfl,aCb h⟩
 |none=>rw[f]at h;show av _ _ (Builtin.Dict.pendingKey? d (.ref a)>>=_) _ _ _;exact aAa (wpAny_pendingKey_other i<|aAb ⟨_,rfl,aCb h⟩)
end
def ES:D->Bool
 |.tup _=>true
 |_=>false
open Classical in
def rC (i:Nat) (ρ:Ev) (k:D):R Bool:=match ρ[i]? with
 |some (.d N)=>if Q3 7 k=true/\ES k=true then .ok (!decide (k∈N.map (·.1)))else .bad
 |_=>.bad
section
def iU {K:kc}{H:Hp}{O:a5->Prop}{v:V}{k:D}(r:Rep K H O v k)(h:ES k=true):∃a,v=.ref a:=by
 cases r with
 |tup h r=>exact⟨_,rfl⟩
 |_=>cases h
def LM (i:Nat){x:Str}{p:Pos}{f:Ev->R D}(ha:PD X e f)(hu:X.A.units+130<cq)(hN:X.N[i]?=some x:=by rfl)(hv:yD X.env.scope x:=by first|exact aCw rfl|exact aBK (aCw rfl)|exact aBK (aBK rfl))
  (hd:(x==kd)=false:=by decide) (eh:(x==km)=false:=by decide) (hm:ik .NotIn (.Name x p)=false:=by first|rfl|with_unfolding_all rfl):
  CA X (.Compare e [.NotIn] [.Name x p] pos) (λρ=>(f ρ).bind (rC i ρ)):=by
 refine sM λU s σ H Q I H9 O0 O ρ E q=>?_;dsimp only at q;refine wpAny_isTrue_Compare1 (MF (ta:=tD X f) (tb:=a1a i) ha (M1 hN hv hd eh) (R:=λy x g=>∃a b o l N k,x=.ref a/\y=.ref b/\g a=some (.ext λh=>h.get? a=some o)/\KQ a o l/\jW X.K g O l N/\(N.map (·.1)).Nodup/\Rep X.K g O (.ref b) k/\Q3 7 k=true/\Q (!(open Classical in decide (k∈N.map (·.1)))) g) I ⟨H9,O0,O,ρ,E,?_⟩ λu w s2 y x g t ry rx h=>?_) hm
 .cases B:f ρ with
  |ex z=>rw[B]at q;exact q
  |bad=>rw[B]at q;exact q.elim
  |ok k=>
   rw[B,R.aa0]at q;intro v H1 sm r;unfold rC at q;cases C:ρ[i]? with
   |none=>rw[C]at q;exact aAh q
   |some sl=>
    rw[C]at q;cases sl with
    |d N=>
     dsimp only at q;by_cases j:Q3 7 k=true/\ES k=true
     .rw[jk j]at q;obtain⟨a,o,l,h1,_,_,J,m,L,T⟩:=(E.grow sm).slot i _ C;obtain⟨b,rfl⟩:=iU r j.2;exact⟨_,h1,a,b,o,l,N,k,rfl,rfl,J,m,L,T,r,j.1,q H1 sm⟩
     .rw[ka j]at q;exact aAh q
    |_=>exact aAh q
 .obtain⟨a,b,o,l,N,k,rfl,rfl,J,m,L,T,rk,j,qq⟩:=h;cases ry;cases rx;obtain⟨Y,hD,om,hp⟩:=wO t J m L T;obtain⟨ok,dp⟩:=jR j;show av _ _ (contains (.ref a) (.ref b)>>=λc=>pure (aDD (!c))) _ _ s2;refine aAa (sQ (knd:=qN X.prog X.w) (by show X.A.in1.units+128<cq;rw[w5];lia) ⟨X1 t rk ok rfl,by lia⟩ m.1 hD (aAb ?_));refine aCb ⟨g,t.tok _,?_⟩;have e3:(atKey Y k).isSome=(open Classical in decide (k∈N.map (·.1))):=by
   by_cases n:k∈N.map (·.1)
   .rw[decide_eq_true n];exact cJ.mpr (by rw[om];exact n)
   .rw[decide_eq_false n];cases z:(atKey Y k).isSome with
    |false=>rfl
    |true=>exact absurd (by rw[<-om];exact cJ.mp z) n
  rw[e3];exact qq
def zU (i:Nat)(y:X.N.Nodup)(A:X.N[i]?=some x:=by rfl)(B:Loc X.env.scope x:=by first|exact aCw rfl|exact aBK rfl)(C:dA (.Dict [] [] f) (some (.Name x g)) j.line X.env=pure false:=by rfl)(J:X.fn x=true\/X.env.scope.names.lookup x=some .local:=by first|exact .inl rfl|exact .inr rfl|assumption):oG X (.Assign [.Name x g] (.Dict [] [] f) j) (λρ=>.ok (.nx (ρ.set i (.d [])))):=by
 rintro U Y t s σ H D I ⟨O,ρ,E,fk,q⟩;refine aEi (wpAny_Dict_empty ?_) C;have v:(s.heap.push {cls:=.type "dict",data:=.dict #[]}).get? s.heap.objs.size=some {cls:=.type "dict",data:=.dict #[]}:=aAp _ rfl;have l:=I.hok.fresh (aAj s.heap.objs.size);have m:=I.laid (a:=s.heap.objs.size) (o:=.ext λh=>h.get? s.heap.objs.size=some {cls:=.type "dict",data:=.dict #[]}) (h':=s.heap.push {cls:=.type "dict",data:=.dict #[]}) (t':=s.toks) (λ_ _ q=>aAc _ q) (aAj _)
  ⟨v,⟨_,v⟩,λh1 h2 e k=>k _ e⟩
 have L:=HZ m (j8 (H:=H) (a:=s.heap.objs.size));have p:fo<s.heap.objs.size:=aGE (by decide) (I.mod.glob.keeps I.bk).lt;refine M8 m y A B (show RelV (.ref s.heap.objs.size) _ from rfl) (λs3 Q=>⟨_,_,Q,?_⟩) J;have w:=E.ad2 (u:=.ext λh=>h.get? s.heap.objs.size=some {cls:=.type "dict",data:=.dict #[]}) (sl:=.d []) i l L trivial λT=>⟨s.heap.objs.size,_,[],rfl,.inr rfl,T,j8,⟨by simp[aCR p],⟨rfl,rfl,rfl⟩,#[],0,rfl,rfl⟩,.nil,aDl⟩;exact q _ _ _ w (lQ m _ w.trk) λb o r n=>⟨by rw[m9 (u9 r l)];exact r,λz=>z.elim n (u9 r l)⟩
def a3f (X:Cx):UX:=λx y v H Q=>∃O a b o f N k d,x=.ref a/\y=.ref b/\H a=some (.ext λh=>h.get? a=some o)/\KQ a o f/\jW X.K H O f N/\(N.map (·.1)).Nodup/\f.length<=sizeLine/\Rep X.K H O (.ref b) k/\Q3 7 k=true/\Rep X.K H O v d/\
 ∀g e,KQ a g e->jW X.K H O e (cB N k d)->Q (upd H a<|.ext λh=>h.get? a=some g)
def UF (hu:X.A.units+130<cq):a1w X (a3f X):=by
 intro C s σ H x y v ov iv u Q I rx ry ru z;obtain⟨O,a,b,o,es,N,k,d,E,ey,l,m,h6,h7,hz,J,L,rv,q⟩:=z;subst E ey;cases rx;cases ry;obtain⟨Y,T,om,hp⟩:=wO I l m h6 h7;obtain⟨ok,dp⟩:=jR L;have f:Y.length<=sizeLine:=by
  obtain⟨_,E,ea,ep,hd,he⟩:=m;obtain⟨o2,lg,ep2,U,_,i,la,_⟩:=T;have g:s.heap.get? a=some o:=(I.hok a _ l).1;rw[g]at U;cases U;rw[hd]at i;cases i;have:=kb List.length (he.symm.trans la);rw[aAi]at this
  lia
 refine wpAny_setItem_heap (knd:=qN X.prog X.w) (by show X.A.in1.units+128<cq;rw[w5];lia) ⟨X1 I J ok rfl,by lia⟩ T (λh' n hs=>?_) f;obtain⟨j,p,r,t,B,qc,xi,is',nd'⟩:=n;have I1:=I.write (x:=a) (e:=a) (o:=.ext λh=>h.get? a=some j) (h':=h') (t':=s.toks+mO k) (by rw[l];trivial) (.inl rfl) (λb u hb e=>(hs.2 b hb).trans e) ⟨j,t⟩ ⟨t,⟨j,t⟩,λh1 h2 e k=>k _ e⟩;exact⟨_,I1,q j _ ⟨m.1,B,p,r,qc,rfl⟩ (by rw[xi];exact GK (JD hp om J L ru rv))⟩
def qB (i:Nat) (ρ:Ev) (k d:D):R Out:=match ρ[i]? with
 |some (.d N)=>if Q3 7 k=true/\ES k=true/\N.length<=sizeLine then .ok (.nx (ρ.set i<|.d (cB N k d)))else .bad
 |_=>.bad
def rA (i:Nat){x:Str}{k:cf}{f g:Ev->R D}{p ps:Pos}(he:PD X e f)(j:PD X k g)(hu:X.A.units+130<cq)(hN:X.N[i]?=some x:=by rfl)(hv:yD X.env.scope x:=by first|exact aCw rfl|exact aBK (aCw rfl)|exact aBK (aBK rfl))(hd:(x==kd)=false:=by decide)
  (eh:(x==km)=false:=by decide) (ha:∀v,gB (.Subscript (.Name x p) k ps) X.env v=(do
   let t<-hV [v] (cv (.Name x p) X.env)
   let B<-hV [v,t] (cv k X.env)
   standAt ps
   hV [v,t,B] (setItem t B v)
   release [v,t,B] []):=by intro _;rfl)
  (hs:h9 [.Subscript (.Name x p) k ps] e C.line X.env=pure false:=by rfl) (hw:ia [.Subscript (.Name x p) k ps] e X.env=pure none:=by rfl) (u:(d3 [.Subscript (.Name x p) k ps] X.env).map (·.2)=[gB (.Subscript (.Name x p) k ps) X.env]:=by rfl):
  oG X (.Assign [.Subscript (.Name x p) k ps] e C) (λρ=>(f ρ).bind λd=>(g ρ).bind λl=>qB i ρ l d):=λU Y=>
 BY (MC he (gk (M1 hN hv hd eh) j (UF hu) ha) hs hw u) λD σ H O ρ E fk q=>⟨U,Y,O,ρ,E,by
  cases I:f ρ with
  |ex z=>rw[I]at q;exactλH' s=>q H' (E.same.trans s)
  |bad=>rw[I]at q;exact q
  |ok d=>
   rw[I,R.aa0]at q;intro v H1 s1 r1;have J:=E.grow s1;cases w:g ρ with
   |ex z=>rw[w]at q;exact(q H<|E.same.trans<|Same.refl _).elim
   |bad=>rw[w]at q;exact aAh q
   |ok l=>
    rw[w,R.aa0]at q;unfold qB at q;cases y:ρ[i]? with
    |none=>rw[y]at q;exact aAh q
    |some sl=>
     rw[y]at q;cases sl with
     |d N=>
      dsimp only at q;by_cases j:Q3 7 l=true/\ES l=true/\N.length<=sizeLine
      .rw[jk j]at q;obtain⟨a,o,es,u,h2,h3,L,h5,h6,h7⟩:=J.slot i _ y;refine⟨_,u,U,Y,O,ρ,J,?_⟩;rw[w];intro kv H2 n r2;have E2:=J.grow n;obtain⟨b,rfl⟩:=iU r2 j.2.1;have Q:jW X.K H2 O es N:=h6.mono λr=>r.same n;refine⟨O,a,b,o,es,N,l,d,rfl,rfl,n _ _ L,h5,Q,h7,by rw[h6.length];exact j.2.2,r2,j.1,r1.same n,λo' T d' r'=>?_⟩;obtain⟨E3,k3⟩:=E2.ae4 (sl':=.d (cB N l d)) (u':=.ext λh=>h.get? a=some o') y trivial u (n _ _ L) trivial trivial λhO h0 m=>⟨a,o',T,rfl,h2,h3,j8,d',r'.mono λr=>r.upd (n _ _ L) trivial h2,LI N l d h7⟩;exact q _ _ _ E3 fk (((Kp.of s1).trans (Kp.of n)).trans k3)
      .rw[ka j]at q;exact aAh q
     |_=>exact aAh q⟩
end
end
section
variable [Tabs]
end
section
variable [Tabs]
section
variable{K:Type} [DecidableEq K] {knd:HeapKind prog w K}
end
section
variable{o e:cf} {es:List cf} {to:TE} {t:TA} {name:Str} {apos au:Pos} {T id:String} {r:V->List V->Hp->VK->Prop}
end
open Classical in
def atK (N:List (D×D)) (k:D):Option D:=(N.find? λp=>decide (p.1=k)).map (·.2)
theorem vE {K:kc}{H:Hp}{O:a5->Prop}{k:D}:∀{Y:List (D×a5×ao)} {N:List (D×D)},Paired (λ(x:D×a5×ao) (p:D×D)=>x.1=p.1/\Rep K H O (.ref x.2.1) p.1/\(∃v,RelV v x.2.2/\Rep K H O v p.2)/\Q3 7 p.1=true) Y N->(atKey Y k=none/\atK N k=none)\/∃p d v,atKey Y k=some p/\atK N k=some d/\RelV v p.2/\Rep K H O v d
 |_,_,.nil=>.inl ⟨rfl,rfl⟩
 |x::_,p::_,.cons ⟨e,_,⟨v,a,r⟩,_⟩ t=>by
  by_cases h:p.1=k
  .refine .inr ⟨x.2,p.2,v,?_,?_,a,r⟩
   .simp[atKey,e,h]
   .simp[atK,h]
  .have:=vE (k:=k) t;have b:∀l:List (D×a5×ao),atKey (x::l) k=atKey l k:=λl=>by simp[atKey,e,h]
   have f:∀l:List (D×D),atK (p::l) k=atK l k:=λl=>by simp[atK,h]
   rw[b,f];exact this
section
variable{A:bc} {s:aA} {prog:ba} {w:be} {E:E8}
end
end
end DL
namespace MM
open PySem
def SN (prog:ba)(w:be)(A:bc)(op:CmpOp)(d:bt->Prop)(P:Nat->ao->Prop)(e:Nat->Nat->Bool):Prop:=
 ∀i j a b (s:aA) (Q:E8) (E:E8),d s.heap->P i a->P j b->Q (.bool (e i j)) s->av (a9 prog w) A (richCompare op a b) Q E s
section
def KZ (W:WalksS prog w A.in1 I fp p G n P St){L:bt->Prop}(hH:∀i s,St i s->L s.heap)(l:Nat->Nat->Bool)(xg:SN prog w A.in1 .Lt L P l)(S:a5)(N:S∉fp):
  ∀(k j:Nat) (s:aA) (d:ao) (c:Nat),n-(j+1)=k->j+1<=n->St (j+1) s->P (eu l j) d->
  s.heap.get? S=some {cls:=.type "list",dict:=none,data:=.seq #[d,d] c,slots:=#[]}->
  (∀v s',P (eu l (n-1)) v->Moved (S::p) G s s'->R (.ok (.ret v)) s')->fg (a9 prog w) A (.builtin "min.loop" ⟨[.ref I,.none,.ref S],[]⟩) R s:=by
 have q:S∉p:=λh=>N (W.sub _ h);have x:∀b∈p,b∈S::p:=λb a=>aAe _ a;have O:(toString "min"++toString ".loop":String)= "min.loop":=by decide
 have Q:∀{b:a5},b∉S::p->S≠b:=λa h=>a (by rw[h];exact aBp);intro k;induction k with
 |zero=>
  intro j s d c hk hj y f r u;have T:j+1=n:=by omega
  refine aBE aFB ?_;rw[aBe aCP _];show av _ A.in1 (seqItems? (.ref S)>>=_) _ _ s;refine aAa (aBT r rfl ?_);show av _ A.in1 (tryCatch (ff<|.ref I) _>>=_) _ _ s;refine aAa (aFj<|W.done s _ _ (T▸y) λs' m=>?_);have t:=m.heap S _ q r;show av _ A.in1 (gW S (λ_=>#[])>>=_) _ _ _;refine aAa ?_;refine aCi t rfl (aAa<|aEm<|aAb ?_);exact u d _ (by rw[<-T];exact f) ((m.mono x).then_heap (tk:=s'.toks) (aAj _) λb o a e=>(aAF _ _<|Q a).trans e)
 |succ k U=>
  intro j s d c hk hj y f r u;have z:j+1<n:=by omega
  refine aBE aFB ?_;rw[aBe aCP _];show av _ A.in1 (seqItems? (.ref S)>>=_) _ _ s;refine aAa (aBT r rfl ?_);show av _ A.in1 (tryCatch (ff<|.ref I) _>>=_) _ _ s;refine aAa (aFj<|W.item (j+1) s _ _ z y λv s' Y B m=>?_);have t:=m.heap S _ q r;show av _ A.in1 (tryCatch (hV [v,v]<|richCompare .Lt v d>>=_) _>>=_) _ _ _;refine aAa (aFj<|aAN<|aAa<|xg (j+1) (eu l j) v d _ _ _ (hH _ _ B) Y f ?_);refine aAa (aAN<|aCb ?_);refine aAa (aEm<|aAb ?_);cases a:l (j+1) (eu l j)with
  |true=>
   simp only[if_true];refine aAa ?_;refine aCi t rfl (aAa<|aEm ?_);rw[O];refine aAb ⟨aBW aCP _,U (j+1) _ v _ (by omega) z (W.frame _ s' _ s'.toks B (aAj _) λb C o e=>?_) (by simp only[eu,a,if_true];exact Y) (aBr _ t rfl)
    λE g H J=>?_⟩
   .exact(aAF _ _ (λh:S=b=>N (by rw[h];exact C))).trans e
   .exact u E g H (aFt W.gtrans ((m.mono x).then_heap (aAj _) λb o a e=>(aAF _ _<|Q a).trans e) J)
  |false=>simp only[aAt,if_false];refine aAa (aEm ?_);rw[O];refine aAb ⟨aBW aCP _,U (j+1) _ d c (by omega) z B (by simp only[eu,a,aAt,if_false];exact f) t λE g H J=>?_⟩;exact u E g H (aFt W.gtrans (m.mono x) J)
def DF (W:WalksS prog w A.in1 I u a G n P St){m:bt->Prop}(x:∀i s,St i s->m s.heap)(f:Nat->Nat->Bool)(y:SN prog w A.in1 .Lt m P f)(S:a5)(g:S∉u)(p:0<n)(z:St 0 s)(q:s.heap.get? S=some {cls:=.type "list",dict:=none,data:=.seq #[] c,slots:=#[]})(B:∀v s',P (eu f (n-1)) v->Moved (S::a) G s s'->R (.ok (.ret v)) s'):fg (a9 prog w) A (.builtin "min.loop" ⟨[.ref I,.none,.ref S],[]⟩) R s:=by
 have j:S∉a:=λh=>g (W.sub _ h);have C:∀b∈a,b∈S::a:=λb d=>aAe _ d;have E:(toString "min"++toString ".loop":String)= "min.loop":=by decide
 have H:∀{b:a5},b∉S::a->S≠b:=λd h=>d (by rw[h];exact aBp);refine aBE aFB ?_;rw[aBe aCP _];show av _ A.in1 (seqItems? (.ref S)>>=_) _ _ s;refine aAa (aBT q rfl ?_);show av _ A.in1 (tryCatch (ff<|.ref I) _>>=_) _ _ s;refine aAa (aFj<|W.item 0 s _ _ p z λv s' J L r=>?_);have t:=r.heap S _ j q;show av _ A.in1 (gW S (λ_=>#[v,v])>>=_) _ _ _;refine aAa ?_;refine aCi t rfl ?_;rw[E];refine aAb ⟨aBW aCP _,KZ W x f y S g _ 0 _ v _ rfl p (W.frame _ s' _ s'.toks L (aAj _) λb k o e=>?_) J (aBr _ t rfl) λN l O Q=>?_⟩
 .exact(aAF _ _ (λh:S=b=>g (by rw[h];exact k))).trans e
 .exact B N l O (aFt W.gtrans ((r.mono C).then_heap (aAj _) λb o d e=>(aAF _ _<|H d).trans e) Q)
def call_minH {E:E8}{Q:E8}(h:av (a9 prog w) A.in1 (pyIter x) (λit a=>∃I d g G n P St j f,it=.ref I/\WalksS prog w A.in1 I d g G n P St/\St 0 a/\(∀b∈d,b<a.heap.objs.size)/\0<n/\(∀i s,St i s->j s.heap)/\SN prog w A.in1 .Lt j P f/\
   ∀v s',P (eu f (n-1)) v->Moved g G a s'->Q v s') E s):
  av (a9 prog w) A (call (.builtin "min") [x]) Q E s:=by
 have l:(toString "min"++toString ".loop":String)= "min.loop":=by decide
 refine call_function_tree F.kind_min F.plain_min F.entry_min (F.args_min1 _) ?_;show av _ A.in1 (aEN "min" ["key", "default"] 0 ⟨[],[]⟩>>=_) _ _ s;refine aAa (aGl (show aEN "min" ["key", "default"] 0 ⟨[],[]⟩=pure [none,none]from rfl) ?_);refine aAa (aAb ?_);refine aAa (aCI h (λit a m=>?_) λ_ _ e=>e);obtain⟨I,d,g,G,n,P,St,j,f,rfl,W,p,q,r,t,u,y⟩:=m;refine aAa (aAY ?_);have z:a.heap.objs.size∉d:=λk=>aBv _ (q _ k);rw[l];refine aAb ⟨aBW aCP _,DF W t f u a.heap.objs.size z r (W.frame 0 a _ a.toks p (aAj _) λb _ o e=>aAc _ e) (aAp _ rfl) λv s' B k=>?_⟩;exact y v s' B (Moved.drop_new (tk:=a.toks) k<|aAj _)
end
def walks_more {P:Nat->ao->Prop}{St:Nat->bt->Prop}(W:Walks prog w A I m j n P St)(more:R0)(q:∀p∈more,p.1∉j):
  Walks prog w A I (m++more.map (·.1)) j n P (λi h=>St i h/\∀p∈more,h.get? p.1=some p.2)where
 sub:=λb f=>aBu _ (W.sub b f)
 frame:=λi h g st k=>⟨W.frame i h g st.1 λb f o e=>k b (aBu _ f) o e,λp a=>k p.1 (aAH _<|aCp a) _ (st.2 p a)⟩
 item:=λi s Q E r st d=>W.item i s Q E r st.1 λv g t u x l=>d v g t u ⟨x,λp a=>l p.1 p.2 (q p a) (st.2 p a)⟩ l
 done:=λs Q E st d=>W.done s Q E st.1 d
 self:=λi s Q E st d=>W.self i s Q E st.1 d
end MM
namespace DL
open PySem PySem.Spec L2
open PyProof.Rows hiding St
section
variable [Tabs]
section
def KN {x:Str}{a:a5}{d:Option a5}{b:Array ao}{n:Nat}{sl:Array (Option ao)}{ns:List Int}(e:X.mg x=some (.ref a))(f:X.K.lookup a=some ⟨.type "tuple",d,.seq b n,sl⟩)(g:p9 (ns.map V.int) b.toList)(hz:b.size<=sizeLine)(h:Gl X x:=by rfl)(i:(x==kd)=false:=by decide):
 PD X (.Name x j) (YJ (.tup (ns.map D.int))):=vL (XZ h e (show RelV (.ref a) _ from rfl) i) λH O=>.tup (.inr ⟨_,b,n,f,rfl,rfl,hz,g⟩) (Reps.ints ns)
def QR:D->D->R D
 |.non,.non=>.ok (.bl true)
 |_,.non=>.ok (.bl false)
 |_,_=>.bad
def OB:oD X (ek .Is) QR:=by
 intro H O x y e f Q j d g q;refine⟨_,ZY,?_⟩;cases f with
 |non=>
  refine⟨g.ac1,?_⟩;cases e with
  |non=>rw[d.ac1];exact q _ H (Same.refl _) .bl
  |bl b=>rw[d.blI];exact q _ H (Same.refl _) .bl
  |int i=>rw[d.aa6];exact q _ H (Same.refl _) .bl
  |str z=>rw[d.ac6];exact q _ H (Same.refl _) .bl
  |tup h=>obtain⟨a,_,rfl,_⟩:=d.tupI;exact q _ H (Same.refl _) .bl
  |lst h=>obtain⟨a,_,rfl,_⟩:=d.aa5;exact q _ H (Same.refl _) .bl
  |dct=>obtain⟨a,_,rfl,_⟩:=d.af7;exact q _ H (Same.refl _) .bl
 |_=>cases e<;>exact aAh q
def RX (h:PD X e f)(i:dA e none a.line X.env=pure false:=by rfl):oG X (.Expr e a) (λρ=>(f ρ).bind λ_=>.ok (.nx ρ)):=λj k=>
 BY (jP h i) λD σ H O ρ E l q=>⟨j,k,O,ρ,E,by
  cases b:f ρ with
  |ok d=>rw[b]at q;exactλv g s r=>q _ g O (E.grow s) l (Kp.of s)
  |ex x=>rw[b]at q;exactλg s=>q g (E.same.trans s)
  |bad=>rw[b]at q;exact q⟩
def fC:List D->Option (List Bool)
 |[]=>some []
 |.bl b::a=>(fC a).map (b::·)
 |_::_=>none
theorem pQ:∀{ds:List D} {bs:List Bool},fC ds=some bs->ds=bs.map D.bl
 |[],bs,h=>by cases h;rfl
 |.bl b::ds,bs,h=>by
  unfold fC at h;cases e:fC ds with
  |none=>rw[e]at h;cases h
  |some l=>rw[e]at h;have a:b::l=bs:=aAm h;subst a;rw[pQ e];rfl
 |.non::_,_,h|.int _::_,_,h|.str _::_,_,h|.tup _::_,_,h|.lst _::_,_,h|.dct::_,_,h=>by cases h
def anyR:List D->R D
 |[.lst a]=>match fC a with
  |some bs=>.ok (.bl (bs.any id))
  |none=>.bad
 |_=>.bad
def DB {K:kc}{H:Hp}{O:a5->Prop}{ws:List V}{bs:List Bool}{a:List ao}(r:Reps K H O ws (bs.map D.bl))(v:p9 ws a):a=bs.map aDD:=by
 induction bs generalizing ws a with
 |nil=>cases r;cases v;rfl
 |cons b bs d=>
  cases r with
  |cons r t=>
   cases v with
   |cons e f=>cases r;have:_=aDD b:=e;rw[this,d t f];rfl
def JH (bs:List Bool):(aAQ bs.length).any (λi=>bs.getD i false)=bs.any id:=by
 rw[aEa,aEu,aEu];constructor
 .rintro⟨i,a,e⟩;have d:i<bs.length:=by simpa using a
  refine⟨bs[i],aCl d,?_⟩;simpa[aAo,aAg d]using e
 .rintro⟨b,f,e⟩;obtain⟨i,a,rfl⟩:=aBi f;exact⟨i,by simpa using a,by simpa[aAo,aAg a]using e⟩
def cw (x:X.calm=true):eZ X (.builtin "any") anyR:=by
 intro H O L y Q fr r q;match y,q with
 |[.lst Y],q=>
  obtain⟨v,rfl,z⟩:=LV r;obtain⟨p,ws,rfl,A,j⟩:=z.aa5;simp only[anyR]at q;cases e:fC Y with
  |none=>rw[e]at q;exact q.elim
  |some bs=>
   rw[e]at q;rw[pQ e]at j;refine⟨λL k l=>L=[.ref p]/\k=H/\l=Q,λm s σ k Y us l I B ⟨C,J,N⟩=>?_,rfl,rfl,rfl⟩;subst C J N;obtain⟨u,rfl,T⟩:=vals1 B;cases T;obtain⟨a,g,⟨U,nL,n,cL,dL,sL⟩,zL⟩:=I.list A;have t:=DB j g;have w:s.heap.IsList p a.toArray:=⟨U,n,cL,nL,sL⟩;refine call_any_walk (aDE w ⟨s.heap.objs.size,_,_,a.toArray.size,_,_,λi=>bs.getD i false,rfl,Walks.list (by simp[I.ok.hd x]) s.heap.objs.size p (aAl<|aAf n) a.toArray,⟨⟨_,aAp _ rfl,rfl,rfl⟩,w.push _⟩,λi v s' Q E d f=>?_,λh' tk kp=>?_⟩)
   .have d:a.toArray[i]?=some v:=d;have f:Q (bs.getD i false) s':=f;rw[aCS,t,aAE]at d;cases h:bs[i]? with
    |none=>rw[h]at d;cases d
    |some b=>rw[h]at d;have:aDD b=v:=aAm d;subst this;rw[aAo,h]at f;exact aCb f
   .have I2:=I.kept (h':=h') (t':=tk) λb o e=>kp b o (by simp only[aAX];exact aAl (aAf e)) (aAc _ e);refine⟨.bl (bs.any id),_,I2,?_,q _ _ (Same.refl _) .bl⟩;show aDD _=aDD _;rw[aAq,t,aAi,JH]
end
def jw (ds:List D)(i j:Nat):Bool:=HT.lexLt (flat<|ds.getD i .non) (flat<|ds.getD j .non)
def QO:List D->R D
 |[.lst a]=>if a≠[]/\a.all aP=true then .ok (a.getD (eu (jw a) (a.length-1)) .non)else .bad
 |_=>.bad
def xA (h:bt)(a:List ao):List (a5×Obj):=a.filterMap λv=>match v with
 |.ref b=>(h.get? b).map λo=>(b,o)
 |_=>none
def FS (d:aDy b∈a)(e:h.get? b=some o):(b,o)∈xA h a:=
 aCd.mpr ⟨_,d,by show(h.get? b).map _=_;rw[e];rfl⟩
def iM (a:p∈xA h d):h.get? p.1=some p.2:=by
 obtain⟨v,_,e⟩:=aCd.mp a;cases v with
 |ref b=>
  have e:(h.get? b).map (λo=>(b,o))=some p:=e;cases q:h.get? b with
  |none=>rw[q]at e;cases e
  |some o=>rw[q]at e;cases e;exact q
 |_=>cases e
section
def UV (hc:X.calm=true)(hu:X.A.units+300<cq):eZ X (.builtin "min") QO:=by
 intro H O L ds Q fr r q;match ds,q with
 |[.lst Y],q=>
  obtain⟨v,rfl,z⟩:=LV r;obtain⟨p,ws,rfl,h1,h2⟩:=z.aa5;simp only[QO]at q;by_cases x:Y≠[]/\Y.all aP=true
  .rw[jk x]at q;obtain⟨af,x⟩:=x;have pt:∀d∈Y,aP d=true:=aBN.mp x;refine⟨λL T Q'=>L=[.ref p]/\T=H/\Q'=Q,λpins s σ T qf us Q' I rv z9=>?_,rfl,rfl,rfl⟩;obtain⟨e1,e2,e3⟩:=z9;subst e1 e2 e3;obtain⟨u,rfl,ru⟩:=vals1 rv;cases ru;obtain⟨f,y,⟨oL,nL,U,cL,dL,sL⟩,zL⟩:=I.list h1;have hl:s.heap.IsList p f.toArray:=⟨oL,U,cL,nL,sL⟩;have st:y9 X.K T O f Y:=y9.of y h2;have l:f.toArray.size=Y.length:=by rw[aAq,<-y.length,h2.length]
   have rh:0<Y.length:=aDQ.mpr af;have W:=MM.walks_more (Walks.list (prog:=X.prog) (w:=X.w) (A:=X.A.in1) (by simp[I.ok.hd hc]) s.heap.objs.size p (aAl<|aAf U) f.toArray) (xA s.heap f)
    (λq t=>by simp only[aAX];exact aAl (aAf<|iM t))
   refine MM.call_minH (aDE hl ⟨s.heap.objs.size,_,_,_,f.toArray.size,_,_,λh=>∀q∈xA s.heap f,h.get? q.1=some q.2,jw Y,rfl,W.toS,⟨⟨⟨_,aAp _ rfl,rfl,rfl⟩,hl.push _⟩,λq t=>aAc _ (iM t)⟩,λb k=>?_,by rw[l];exact rh,λi s h=>h.2,λi j vi vj m Q2 E2 hh B hj t=>?_,λv m E J=>?_⟩)
   .rw[aBG];rcases aAL.mp k with k|k
    .rcases aAd.mp k with rfl|k
     .exact aDh _
     .rcases aAd.mp k with rfl|k
      .exact aBz (aAf U)
      .cases k
    .obtain⟨q,t,rfl⟩:=aAk.mp k;exact aBz (aAf<|iM t)
   .have one:∀i v,f.toArray[i]?=some v->∃b a,v=.ref b/\IsTup m.heap b a/\IntsAre a.toList (flat<|Y.getD i .non):=λi v B=>by
     rw[aCS]at B;obtain⟨d,N,w,pg,rp⟩:=J4 st B;have qc:Y.getD i .non=d:=by rw[aAo,N];rfl
     rw[qc];have C:=pt d (aAu N);obtain⟨b,a,rfl,⟨o,g,c,n,dd⟩,hia⟩:=cA C (X1 I rp (N5 C) pg);exact⟨b,a,rfl,⟨o,hh _ (FS (aAu B) g),c,n,dd⟩,hia⟩
    obtain⟨b,a,rfl,t1,i1⟩:=one i vi B;obtain⟨b',wu,rfl,t2,i2⟩:=one j vj hj;exact HT.lt_tupInts t1 t2 i1 i2 (by rw[w5];lia) t
   .have E:f.toArray[eu (jw Y) (f.toArray.size-1)]?=some v:=E;rw[aCS,l]at E;obtain⟨d,N,w,pg,rp⟩:=J4 st E;have qc:Y.getD (eu (jw Y)<|Y.length-1) .non=d:=by rw[aAo,N];rfl
    rw[qc]at q;have I2:=I.kept (h':=m.heap) (t':=m.toks) λb o e=>J.heap b o (by simp only[aAX];exact aAl (aAf e)) (aAc _ e);have es:m={s with heap:=m.heap,toks:=m.toks}:=by have g1:=J.gens;have g2:=J.drawn;have g3:=J.os;cases m;simp only at g1 g2 g3;subst g1 g2 g3;rfl
    rw[es];exact⟨w,_,I2,pg,q _ _ (Same.refl _) rp⟩
  .rw[ka x]at q;exact q.elim
def WG (h:PM ds)(n:Nat)(a:n<ds.length):eu (jw ds) n=0:=by
 induction n with
 |zero=>rfl
 |succ k b=>
  have e:=b (by lia);unfold eu;rw[e];have:jw ds (k+1) 0=false:=by
   unfold jw;rw[aAo,aAo,aAg a,aAg (by lia:0<ds.length)];have:=aCr.mp h 0 (k+1) (by lia) a (by lia);cases q:HT.lexLt (flat<|(some ds[k+1]).getD .non) (flat ((some (ds[0]'(by lia))).getD .non))with
   |false=>rfl
   |true=>have z:HT.lexLt (flat (ds[0]'(by lia))) (flat (ds[0]'(by lia)))=true:=TS.lex_trans _ _ _ this q;rw[TS.lex_irrefl]at z;cases z
  rw[this];rfl
end
end
section
variable [Tabs]
end
end DL
namespace DL
open PySem PySem.Spec L2
open PyProof.Rows hiding St sub_tuple_tuple sub_list_list sub_tuple_list sub_list_tuple
section
open PySem.MeetsSeq PySem.MeetsSeq2 PySem.MeetsSeq3 PySem.AutoSeq1
def RG (l:a5)(Y:Array ao)(n:Nat)(b:a5)(ys:Array ao)(n2:Nat)(sl:Array (Option ao))(f:¬(!Y.isEmpty&&aDa (Y.size+ys.size))=true)(h:Y.size<=sizeLine)(i:Y.size+ys.size<=sizeLine+1):
  Meets (Builtin.«list.extend» ⟨[.ref l,.ref b],[]⟩) (λ_ R s=>s.heap.get? l=some ⟨.type "list",none,.seq Y n,#[]⟩/\s.heap.get? b=some ⟨.type "list",none,.seq ys n2,sl⟩/\R (.ok (.ret Value.none)) {s with heap:=s.heap.update l (aBQ λx=>x++ys),toks:=s.toks}):=
 .of_wp λa w A R s q=>by
  obtain⟨m,g,d,o,os⟩:=s;obtain⟨e,j,k⟩:=q;have p:=idx_int;have r:=sub_tuple_tuple;have t:=sub_list_list;have u:=sub_tuple_list;have v:=sub_list_tuple;have z:(Y++ys).size<=sizeLine+1:=by rw[Array.size_append];exact i
  wp_walk using(aCi e rfl (hz:=h) (_hz':=z)),aEH e,aEH j
  exact⟨_,rfl,k⟩
end
section
def yk (K:kc):V->List V->Hp->VK->Prop:=λx L H Q=>∃l b Y a,x=.ref l/\L=[.ref b]/\H l=some (.lst Y)/\P4 K H b a/\Y.length+a.length<=sizeLine/\Q .non (upd H l<|.lst (Y++a))
def ny:MtM X "list.extend" (yk X.K):=by
 intro g s σ H x L v O Q I p t h;obtain⟨l,b,Y,T,rfl,rfl,i,w,U,q⟩:=h;cases p;obtain⟨u,rfl,y⟩:=t.one;cases y;obtain⟨z,a,n,r,hl,e⟩:=I.ae5 i;obtain⟨f,j,⟨⟨A,vf,B,C⟩,E,J,k,m,o⟩,z2⟩:=I.list w;simp only at k m o;subst k m o;have nh:=j.length;have N:a.toArray.size+f.toArray.size<=sizeLine:=by rw[aAq,aAq];lia
 have d:¬(!a.toArray.isEmpty&&aDa (a.toArray.size+f.toArray.size))=true:=by rw[RJ N,aFZ];exact aBg
 refine call_meets F.slot_list_extend ⟨_,e,rfl⟩ F.entry_list_extend (F.args_list_extend_2 _ _) (RG l a.toArray n b f.toArray E C d (by rw[aAq];lia) (by lia)) ⟨e,J,?_⟩;refine⟨.non,_,I.ae8 (its':=a++f) i e (by simp) (r.append j) ?_,rfl,q⟩;rw[aAC]
 lia
end
variable [Tabs]
section
def DK (i:Nat)(z:PD X e f)(A:X.N[i]?=some x:=by rfl)(B:yD X.env.scope x:=by first|exact aCw rfl|exact aBK (aCw rfl)|exact aBK (aBK rfl))(I:(x==kd)=false:=by decide)(J:(x==km)=false:=by decide)(Q:eY (.Name x p) "extend" X.env (cv (.Name x p) X.env)=cv (.Name x p) X.env:=by rfl)(T:((cp g (az [e] X.env)).all (λx=>!x.1)&&(backToKw g (keywordEach [] X.env)).all (λx=>x.1.isSome)
   &&decide ([e].length+([]:List Keyword).length+(if([]:List Keyword).isEmpty then 0 else 1)<30))=true:=by rfl) (U:(b.endLine==g.line)=true:=by rfl) (r:az [e] X.env=(false,cv e X.env)::az [] X.env:=by rfl) (ju:(cp g (az [] X.env)).any (·.1)=false:=by rfl) (sv:dA (.Call (.Attribute (.Name x p) "extend" b) [e] [] g) none l.line X.env=pure false:=by rfl):
  oG X (.Expr (.Call (.Attribute (.Name x p) "extend" b) [e] [] g) l) (λρ=>(f ρ).bind (oj i ρ)):=λH9 O0=>
 BY (jP (ZG PySem.F.plainAttrs_list PySem.F.slot_list_extend PySem.F.type_list_extend ny (M1 A B I J) (i6 z o7 r) Q T U r ju) sv) λD σ H O ρ E fk q=>by
 cases j:f ρ with
 |ok d=>
  rw[j,R.aa0]at q;unfold oj at q;cases h:ρ[i]? with
  |none=>rw[h]at q;exact aAh q
  |some s=>
   rw[h]at q;cases s with
   |x C=>exact aAh q
   |c m φ=>exact aAh q
   |d N=>exact aAh q
   |no=>exact aAh q
   |v d=>exact aAh q
   |o Y=>
    cases d with
    |lst ys=>
     dsimp only at q;split at q
     .rename_i hz;obtain⟨a,L,t,h2,h3,u,w⟩:=E.own i Y h;refine⟨_,t,.inl ⟨rfl,L,P4.of u⟩,H9,O0,O,ρ,E,?_⟩;show JU X H O ((f ρ).bind λd=>(R.ok []).bind λds=>.ok (d::ds)) _;rw[j];intro us H1 k n;cases n with
      |cons n rn=>
       cases rn;have E1:=E.grow k;cases n with
       |lst hb nb y=>refine⟨a,_,L,_,rfl,rfl,k _ _ u,hb,by rw[w.length,y.length];exact hz,?_⟩;obtain⟨E2,k2⟩:=E1.write h t ((w.same k).append y);exact q σ _ O E2 fk ((Kp.of k).trans k2)
     .exact aAh q
    |_=>exact aAh q
 |ex x=>
  rw[j]at q;cases h:ρ[i]? with
  |none=>exact(q H E.same).elim
  |some s=>exact(q H E.same).elim
 |bad=>rw[j]at q;exact aAh q
end
end DL
namespace TS
open PySem PyProof.Rows HT
section
def HA (A:bc)(s:aA)(x y:ao)(b:Bool):Prop:=∀(a:ba) (w:be) (E:E8) (Q:zW),Q b s->av (a9 a w) A (oneLt' false x y) Q E s
def lt_two {Q:zW}(g:IsTup s.heap l #[p,r])(h:IsTup s.heap b #[a,d])(i:f=false)(j:SeqAt.EqAt A s p a e1)(k:e1=false->HA A s p a b1)(m:e1=true->SeqAt.EqAt A s r d e2)(t:e1=true->e2=false->HA A s r d b2)(q:Q (bif e1 then(bif e2 then false else b2)else b1) s):av (a9 prog w) A (keyLt' (tupK f) (.ref l) (.ref b)) Q E s:=by
 obtain⟨o,u,y,n,v⟩:=g;obtain⟨z,x,B,C,e⟩:=h;subst i;rw[uK];refine aAa (aEr u v<|aAa<|aEr x e ?_);show av _ _ (forIn [((p,a),0),((r,d),1)] _ _>>=_) _ _ _;rw[aDb];refine aAa (aAa ?_);refine aAa (j _ _ _ _ ?_);cases e1 with
 |false=>refine aAa (k rfl _ _ _ _ ?_);exact aAb (aAb<|aAb q)
 |true=>
  refine aAb ?_;dsimp only;rw[aDb];refine aAa ?_;refine aAa (m rfl _ _ _ _ ?_);cases e2 with
  |false=>refine aAa (t rfl rfl _ _ _ _ ?_);exact aAb (aAb<|aAb q)
  |true=>refine aAb ?_;dsimp only;rw[aEn];exact aAb (aAb q)
def OY (h:∀(prog:ba) (w:be) (E:E8) (Q:E8),Q (.bool b) s->av (a9 prog w) A (richCompare .Lt x y) Q E s):HA A s x y b:=λprog w E Q q=>by rw[oneLt'_eq];simp only[aAt,if_false];exact aAa (h prog w _ _<|aCb q)
def oneLt_tup (d:IsTup s.heap l items)(e:IsTup s.heap b f)(g:IntsAre items.toList ns)(h:IntsAre f.toList i)(j:A.units<cq):HA A s (.ref l) (.ref b) (HT.lexLt ns i):=
 OY λa w E Q q=>HT.lt_tupInts d e g h j q
end
end TS
namespace DL
open PySem PySem.Spec L2
open PyProof.Rows hiding St
section
def xR (k:D->List Int)(d:D):List D->List D
 |[]=>[d]
 |x::Y=>if HT.lexLt (k d) (k x)=true then d::x::Y else x::xR k d Y
def qF (k:D->List Int)(ds:List D):List D:=ds.foldr (xR k) []
def rQ (k:D->List Int)(ds:List D):Prop:=ds.Pairwise λx y=>HT.lexLt (k x) (k y)=true
theorem kT (k:D->List Int)(d:D):∀Y:List D,(xR k d Y).Perm (d::Y)
 |[]=>.refl _
 |x::Y=>by
  unfold xR;split
  .exact .refl _
  .exact((kT k d Y).cons x).trans (.swap d x Y)
theorem X9 (k:D->List Int):∀ds:List D,(qF k ds).Perm ds
 |[]=>.refl _
 |d::ds=>(kT k d (qF k ds)).trans ((X9 k ds).cons d)
theorem zZ:∀{Y:List D},rQ k Y->(∀x∈Y,k x≠k d)->rQ k (xR k d Y)
 |[],_,_=>aDW _ _
 |x::Y,h,n=>by
  have b:=aAz.mp h;unfold xR;split
  .rename_i lt;refine aAz.mpr ⟨λy a=>?_,h⟩;rcases aAd.mp a with rfl|a
   .exact lt
   .exact TS.lex_trans _ _ _ lt (b.1 y a)
  .rename_i e;refine aAz.mpr ⟨λy a=>?_,zZ b.2 λz f=>n z (.tail _ f)⟩;rcases aAd.mp ((kT k d Y).mem_iff.mp a)with rfl|a
   .cases q:HT.lexLt (k x) (k y)with
    |true=>rfl
    |false=>exact absurd (TS.lex_total _ _ q (by simpa using e)) (n x<|.head _)
   .exact b.1 y a
theorem lC:∀{ds:List D},(ds.map k).Nodup->rQ k (qF k ds)
 |[],_=>.nil
 |d::ds,h=>by rw[aAn,aAI]at h;refine zZ (lC h.2) λx a e=>h.1 ?_;rw[<-e];exact aCp ((X9 k ds).mem_iff.mp a)
theorem mQ:∀{Y ys:List D},rQ k Y->rQ k ys->Y.Perm ys->Y=ys
 |[],ys,_,_,p=>(List.nil_perm.mp p).symm
 |x::Y,[],_,_,p=>by have:=p.length_eq;simp at this
 |x::Y,y::ys,f,g,p=>by
  have d:=aAz.mp f;have e:=aAz.mp g;have a:x=y:=by
   rcases aAd.mp (p.mem_iff.mp<|.head _)with q|q
   .exact q
   .rcases aAd.mp (p.mem_iff.mpr<|.head _)with b|b
    .exact b.symm
    .have:=TS.lex_trans _ _ _ (e.1 x q) (d.1 y b);rw[TS.lex_irrefl]at this;cases this
  subst a;rw[mQ d.2 e.2 ((List.perm_cons x).mp p)]
def UJ [Tabs]{R:ao->D->Prop}{key:ao->List Int}{k:D->List Int}{a:List ao}{ds:List D}(st:Paired R a ds)(f:a.Pairwise λx y=>HT.lexLt (key y) (key x)=false)(p:(ds.map k).Nodup)(g:∀u d,R u d->d∈ds->key u=k d):rQ k ds:=by
 induction st with
 |nil=>exact .nil
 |@cons u d a ds r t q=>
  have i:=aAI.mp p;have m:=aAz.mp f;refine aAz.mpr ⟨λe s=>?_,q m.2 i.2 λu d h v=>g u d h (.tail _ v)⟩;obtain⟨j,b,rfl⟩:=aBi s;have n:j<a.length:=by rw[t.length];exact b
  obtain⟨A,o,w⟩:=J4 t (aAg n);rw[aAg b]at o;cases o;have l:=m.1 a[j] (aCl n);rw[g _ _ w (.tail _ (aCl b)),g u d r (.head _)]at l;cases z:HT.lexLt (k d) (k ds[j])with
  |true=>rfl
  |false=>exact absurd (aAk.mpr ⟨ds[j],aCl b,(TS.lex_total _ _ z l).symm⟩) i.1
def ww:D->Bool
 |.tup [p,.lst _]=>aP p
 |_=>false
def T6:D->List Int
 |.tup (p::_)=>flat p
 |_=>[]
def fx (h:ww d=true):∃p r,d=.tup [p,.lst r]/\aP p=true/\T6 d=flat p:=by
 unfold ww at h;split at h
 .exact⟨_,_,rfl,h,rfl⟩
 .cases h
def sfR:D->R (List D)
 |.lst a=>if a.all ww=true/\(a.map T6).Nodup/\a.length<=63 then .ok (qF T6 a)else .bad
 |_=>.bad
variable [Tabs]
def FV (h:bt)(u:ao)(l:List Int):Prop:=∃b p r d,u=.ref b/\IsTup h b #[p,r]/\aP d=true/\HV h p d/\flat d=l
def FV.inj (x:FV h u l)(y:FV h u k):l=k:=by obtain⟨b,p,r,d,rfl,⟨o,g,_,n,m⟩,_,q,rfl⟩:=x;obtain⟨t,v,w,z,e,⟨A,f,_,B,i⟩,_,a,rfl⟩:=y;cases e;rw[g]at f;cases f;rw[m]at i;injection i with s _;have j:=kb aFK s;simp only[aFM]at j;obtain⟨rfl,_⟩:=j;rw[HV.inj q a]
def JJ (h:bt) (u:ao):List Int:=open Classical in if p:∃l,FV h u l then p.choose else[]
def jB (x:FV h u l):JJ h u=l:=by unfold JJ;rw[dif_pos ⟨l,x⟩];exact FV.inj (Exists.choose_spec (⟨l,x⟩:∃l,FV h u l)) x
section
def RH (I:Inv X e σ H s)(r:Rep X.K H O v d)(h:ww d=true)(g:RelV v u):FV s.heap u (T6 d):=by
 obtain⟨p,ring,rfl,f,i⟩:=fx h;cases r with
 |tup q a=>
  cases g;obtain⟨j,b,k,_⟩:=I.tuple q;cases a with
  |cons l a=>
   cases a with
   |cons m a=>
    cases a;cases b with
    |cons v1 b=>
     cases b with
     |cons n b=>cases b;exact⟨_,_,_,p,rfl,k,f,X1 I l (N5 f) v1,i.symm⟩
end
section
def FP (ha:PB X e f)(hh:X.calm=true)(hu:X.A.units+300<cq)(hg:Gl X "sorted":=by rfl)(hm:X.mg "sorted"=none:=by assumption)(hv:cu "sorted"=some (.builtin "sorted"):=by decide+kernel)(he:az [e] X.env=(false,cv e X.env)::az [] X.env:=by rfl)(br:(cp pos (az [] X.env)).any (·.1)=false:=by rfl):
  PF X (.Call (.Name "sorted" p) [e] [] pos) (λρ=>(f ρ).bind sfR):=by
 refine sM λpins s σ H Q I H9 O0 O ρ E q=>?_;dsimp only at q;refine aAZ (Q0 I hg hm hv ?_ (by decide) (by decide));have oo:PA X [e] _:=L8 ha cG he;refine aBP (G5 (oo pos pins s σ H (λL H1=>∃v t,L=[v]/\f ρ=.ok (.lst t)/\Same H H1/\C5 X.K H1 O v (.lst t)) I ⟨H9,O0,O,ρ,E,?_⟩) λus J z9=>?_) he br
 .cases e1:f ρ with
  |ex z=>rw[e1]at q;exact q
  |bad=>rw[e1]at q;exact q.elim
  |ok d=>
   rw[e1,R.aa0]at q;cases d with
   |lst t=>exactλv H1 J r1=>⟨v,t,rfl,rfl,J,r1⟩
   |_=>exact aAh q
 .obtain⟨L,H1,I1,r1,v,t,ev,ef,sm,rb⟩:=z9;subst ev;rw[ef,R.aa0]at q;obtain⟨a,ws,rfl,hS,rr⟩:=rb.aa5;obtain⟨u,rfl,ru⟩:=vals1 r1;cases ru;obtain⟨m,rv,⟨oL,nL,gL,cL,dL,sL⟩,zL⟩:=I1.list hS;have hl:J.heap.IsList a m.toArray:=⟨oL,gL,cL,nL,sL⟩;simp only[sfR]at q;by_cases hc:t.all ww=true/\(t.map T6).Nodup/\t.length<=63
  .rw[jk hc]at q;obtain⟨mf,nd,uo⟩:=hc;have fc:∀d∈t,ww d=true:=aBN.mp mf;have st:y9 X.K H1 O m t:=y9.of rv rr;have hlen:m.length=t.length:=st.length;have B:∀u∈m,∃i d,m[i]?=some u/\t[i]?=some d/\FV J.heap u (T6 d):=λu hu=>by obtain⟨i,hi,rfl⟩:=aBi hu;obtain⟨d,Y,w,pg,rp⟩:=J4 st (aAg hi);exact⟨i,d,aAg hi,Y,RH I1 rp (fc d<|aAu Y) pg⟩
   have keq:∀u∈m,∀u'∈m,JJ J.heap u=JJ J.heap u'->u=u':=λu hu u' bf e=>by
    obtain⟨i,d,hi,Y,fv⟩:=B u hu;obtain⟨j,d',hj,qc,fv'⟩:=B u' bf;rw[jB fv,jB fv']at e;have eij:i=j:=by obtain⟨li,ei⟩:=aAw.mp Y;obtain⟨lj,ej⟩:=aAw.mp qc;refine(List.getElem_inj (xs:=t.map T6) (i:=i) (j:=j) (h₀:=by simpa using li) (h₁:=by simpa using lj) nd).mp ?_;rw[aEy,aEy,ei,ej];exact e
    subst eij;rw[hi]at hj;cases hj;rfl
   refine TS.sorted_keys (L:=m) (f:=false) (key:=JJ J.heap) (C:=λs'=>∃h',s'={J with heap:=h'}/\∀b o,J.heap.get? b=some o->h'.get? b=some o)
    (λ{Q'} hq=>collect_list hl (hq _ ⟨_,rfl,λb o e=>?_⟩) (by rw[hlen];exact aAs uo (by decide)))
    (λs' ⟨h',U,k⟩ s6 k6 x hx y hy prog w A E hA {Q} qq=>?_) (λh2 s' ⟨h',U,k⟩ s6 k6 A {Q} qq=>?_) (by rw[hlen];lia) λs' ic h' l ⟨h1,U,k⟩ pm srt k2 hl ⟨n,gl⟩=>?_
   .exact(aAF _ _<|aCA<|aAl<|aAf e).trans (aAc _ e)
   .subst U;have kk:∀b o,J.heap.get? b=some o->s6.heap.get? b=some o:=λb o e=>k6 b o (k b o e);obtain⟨i,d,hi,Y,fv⟩:=B x hx;obtain⟨j,d',hj,qc,fv'⟩:=B y hy;have kx:=jB fv;have ky:=jB fv';have eqk:=keq x hx y hy;rw[kx,ky]at qq;rw[kx,ky]at eqk;obtain⟨b,p1,r1,d1,rfl,⟨o,g,c,n,dd⟩,N,hv1,e1⟩:=fv;obtain⟨b',p2,r2,d2,rfl,⟨o',g',c',n',zg⟩,hp2,hv2,e2⟩:=fv';have zu:HV s6.heap p1 d1:=hv1.keeps λb o e _=>kk b o e;have hv2':HV s6.heap p2 d2:=hv2.keeps λb o e _=>kk b o e;have hA':A.units+8<cq:=by lia
    obtain⟨c1,i1,rfl,t1,ia1⟩:=cA N zu;obtain⟨c2,i2,rfl,t2,ia2⟩:=cA hp2 hv2';rw[<-e1,<-e2]at qq eqk;refine TS.lt_two (e1:=x9 d1 d2) (e2:=true) (b1:=HT.lexLt (flat d1) (flat d2)) (b2:=false) ⟨o,kk _ _ g,c,n,dd⟩ ⟨o',kk _ _ g',c',n',zg⟩ rfl (HX zu hv2' (by have:=IF N;lia)) (λ_=>TS.oneLt_tup t1 t2 ia1 ia2 (by lia)) (λeq=>?_) (λ_ z=>by cases z) ?_
    .have ed:=fI (N5 N) (N5 hp2) eq;have er:=eqk (by rw[ed]);cases er;rw[g]at g';cases g';rw[dd]at zg;injection zg with e3 _;have e4:=kb aFK e3;simp only[aFM]at e4;rw[e4.2.1];exact aEb _
    .cases z:x9 d1 d2 with
     |false=>exact qq
     |true=>have ed:=fI (N5 N) (N5 hp2) z;rw[ed,TS.lex_irrefl]at qq;exact qq
   .subst U;have kk:∀b o,J.heap.get? b=some o->s6.heap.get? b=some o:=λb o e=>k6 b o (k b o e);have sg:∀x∈m,∃p,∃b r,x=.ref b/\IsTup s6.heap b r/\r[0]?=some p/\s6.TypeIs p "tuple":=λx hx=>by obtain⟨i,d,hi,Y,fv⟩:=B x hx;obtain⟨b,p1,r1,d1,rfl,⟨o,g,c,n,dd⟩,N,hv1,e1⟩:=fv;have zu:HV s6.heap p1 d1:=hv1.keeps λb o e _=>kk b o e;obtain⟨c1,i1,rfl,⟨o1,g1,cc1,_⟩,ia1⟩:=cA N zu;exact⟨_,b,_,rfl,⟨o,kk _ _ g,c,n,dd⟩,rfl,⟨o1,g1,cc1⟩⟩
    obtain⟨gf,hgf⟩:∃gf:ao->ao,∀x∈m,∃b r,x=.ref b/\IsTup s6.heap b r/\r[0]?=some (gf x)/\s6.TypeIs (gf x) "tuple":=by refine⟨λx=>open Classical in if z:x∈m then(sg x z).choose else .none,λx hx=>?_⟩;dsimp only;rw[dif_pos hx];exact(sg x hx).choose_spec
    exact TS.kind_tuples (T:= "tuple") gf hgf (λz=>by rw[z]at h2;simp at h2) (by decide) qq
   .subst U;obtain⟨ph,p2,ki⟩:=dW pm st;have hk:∀u d,(∃v,RelV v u/\Rep X.K H1 O v d)->d∈t->JJ J.heap u=T6 d:=by rintro u d ⟨v,rv,rp⟩ Y;exact jB (RH I1 rp (fc d Y) rv)
    have ri:(ph.map T6).Nodup:=(p2.map T6).nodup_iff.mpr nd;have xc:rQ T6 ph:=UJ (R:=λu d=>∃v,RelV v u/\Rep X.K H1 O v d) ki srt ri λu d h Y=>hk u d h (p2.mem_iff.mp Y);have e2:ph=qF T6 t:=mQ xc (lC nd) (p2.trans (X9 T6 t).symm);subst e2;obtain⟨wv,pg,mh⟩:=y9.ac5 ki;have I2':=I1.kept (h':=h1) (t':=J.toks) k;have I3:=I2'.laid (a:=l) (o:=.lst wv) (h':=h') (t':=J.toks) k2 hl ⟨by rw[mh.length,(X9 T6 t).length_eq];exact aAs uo (by decide),ic,n,pg,gl⟩;exact⟨.ref l,_,I3,rfl,q wv _ l sm (I2'.hok.fresh hl) mh⟩
  .rw[ka hc]at q;exact q.elim
end
end
section
def xI:List Int->Int
 |[]=>0
 |a::l=>l.foldl max a
def tH:List Int->Int
 |[]=>0
 |a::l=>l.foldl min a
theorem V4:∀(l:List Int) (a:Int),(l.foldl max a=a\/l.foldl max a∈l)/\a<=l.foldl max a/\∀b∈l,b<=l.foldl max a
 |[],a=>⟨.inl rfl,aBX _,λb h=>by cases h⟩
 |c::l,a=>by
  obtain⟨d,g,f⟩:=V4 l (max a c);rw[aDw];refine⟨?_,by lia,λb e=>?_⟩
  .rcases d with d|d
   .rw[d];rcases aGA a c with q|q
    .exact .inr (by rw[Int.max_eq_right q];exact .head _)
    .exact .inl (Int.max_eq_left q)
   .exact .inr (.tail _ d)
  .rcases aAd.mp e with rfl|e
   .lia
   .exact f b e
theorem U8:∀(l:List Int) (a:Int),(l.foldl min a=a\/l.foldl min a∈l)/\l.foldl min a<=a/\∀b∈l,l.foldl min a<=b
 |[],a=>⟨.inl rfl,aBX _,λb h=>by cases h⟩
 |c::l,a=>by
  obtain⟨d,g,f⟩:=U8 l (min a c);rw[aDw];refine⟨?_,by lia,λb e=>?_⟩
  .rcases d with d|d
   .rw[d];rcases aGA a c with q|q
    .exact .inl (Int.min_eq_left q)
    .exact .inr (by rw[Int.min_eq_right q];exact .head _)
   .exact .inr (.tail _ d)
  .rcases aAd.mp e with rfl|e
   .lia
   .exact f b e
def AX (h:ns≠[]):xI ns∈ns:=by
 cases ns with
 |nil=>exact absurd rfl h
 |cons a l=>
  rcases(V4 l a).1 with q|q
  .show l.foldl max a∈_;rw[q];exact .head _
  .exact .tail _ q
def HJ (h:a∈ns):a<=xI ns:=by
 cases ns with
 |nil=>cases h
 |cons b l=>
  rcases aAd.mp h with rfl|h
  .exact(V4 l a).2.1
  .exact(V4 l b).2.2 a h
def yF (h:ns≠[]):tH ns∈ns:=by
 cases ns with
 |nil=>exact absurd rfl h
 |cons a l=>
  rcases(U8 l a).1 with q|q
  .show l.foldl min a∈_;rw[q];exact .head _
  .exact .tail _ q
def II (h:a∈ns):tH ns<=a:=by
 cases ns with
 |nil=>cases h
 |cons b l=>
  rcases aAd.mp h with rfl|h
  .exact(U8 l a).2.1
  .exact(U8 l b).2.2 a h
def HM:List D->R D
 |[.lst Y]=>match dP Y with
  |some a=>if a≠[]then .ok (.int (xI a))else .bad
  |none=>.bad
 |_=>.bad
def ID:List D->R D
 |[.lst Y]=>match dP Y with
  |some a=>if a≠[]then .ok (.int (tH a))else .bad
  |none=>.bad
 |_=>.bad
variable [Tabs]
section
def wQ (d:IntsAre a ns)(e:a.toArray=intItems ys):∀i,gA ys i=ns.getD i 0:=λi=>by have b:=nums_intItems ys;rw[<-e]at b;have f:=d.numsOf;rw[show a.toArray.toList=a from rfl,f]at b;rw[b];unfold gA;rw[aAo,aAE,<-aAB]
def XA (B:X.calm=true):eZ X (.builtin "max") HM:=by
 intro H O L C Q fr r q;match C,q with
 |[.lst Y],q=>
  obtain⟨v,rfl,z⟩:=LV r;obtain⟨p,ws,rfl,k,l⟩:=z.aa5;simp only[HM]at q;cases e:dP Y with
  |none=>rw[e]at q;exact q.elim
  |some d=>
   rw[e]at q;dsimp only at q;by_cases f:d≠[]
   .rw[jk f]at q;rw[fD e]at l;rw[fX l]at k;refine⟨λL m n=>L=[.ref p]/\m=H/\n=Q,λo s σ m qf us n I E ⟨J,N,T⟩=>?_,rfl,rfl,rfl⟩;subst J N T;obtain⟨u,rfl,U⟩:=vals1 E;cases U;obtain⟨its,r',pl,hz⟩:=I.list k;have g:=DL.P8 r';obtain⟨a,h⟩:=g.allInts.items;have w:=pl.isList;rw[h]at w;have x:a.size=d.length:=by have:=kb Array.size h;rw[aAq,g.length]at this;simpa[intItems]using this.symm
    have rh:0<d.length:=aDQ.mpr f;refine max_intList (I.ok.hd B) w (by lia) λv h' tk hv hk=>?_;obtain⟨t,rfl⟩:=intItems_at hv;obtain⟨g1,y⟩:=argBest_gt (gA a) (a.size-1);have em:gA a (eu (λi j=>decide (gA a i>gA a j))<|a.size-1)=xI d:=by
     generalize eu (λi j=>decide (gA a i>gA a j)) (a.size-1)=b at g1 y;have m1:gA a b∈d:=by rw[wQ g h,aAo,aAg (by lia)];exact aCl _
     have m2:=HJ m1;obtain⟨j,hj,ej⟩:=aBi (AX f);have A:=y j (by lia);rw[wQ g h j,aAo,aAg hj]at A;have m4:d[j]<=gA a b:=A
     lia
    rw[em];exact⟨.int (xI d),_,I.kept hk,⟨t,rfl⟩,q _ _ (Same.refl _) .int⟩
   .rw[ka f]at q;exact q.elim
def UY (B:X.calm=true):eZ X (.builtin "min") ID:=by
 intro H O L C Q fr r q;match C,q with
 |[.lst Y],q=>
  obtain⟨v,rfl,z⟩:=LV r;obtain⟨p,ws,rfl,k,l⟩:=z.aa5;simp only[ID]at q;cases e:dP Y with
  |none=>rw[e]at q;exact q.elim
  |some d=>
   rw[e]at q;dsimp only at q;by_cases f:d≠[]
   .rw[jk f]at q;rw[fD e]at l;rw[fX l]at k;refine⟨λL m n=>L=[.ref p]/\m=H/\n=Q,λo s σ m qf us n I E ⟨J,N,T⟩=>?_,rfl,rfl,rfl⟩;subst J N T;obtain⟨u,rfl,U⟩:=vals1 E;cases U;obtain⟨its,r',pl,hz⟩:=I.list k;have g:=DL.P8 r';obtain⟨a,h⟩:=g.allInts.items;have w:=pl.isList;rw[h]at w;have x:a.size=d.length:=by have:=kb Array.size h;rw[aAq,g.length]at this;simpa[intItems]using this.symm
    have rh:0<d.length:=aDQ.mpr f;refine min_intList (I.ok.hd B) w (by lia) λv h' tk hv hk=>?_;obtain⟨t,rfl⟩:=intItems_at hv;obtain⟨g1,y⟩:=argBest_lt (gA a) (a.size-1);have em:gA a (eu (λi j=>decide (gA a i<gA a j))<|a.size-1)=tH d:=by
     generalize eu (λi j=>decide (gA a i<gA a j)) (a.size-1)=b at g1 y;have m1:gA a b∈d:=by rw[wQ g h,aAo,aAg (by lia)];exact aCl _
     have m2:=II m1;obtain⟨j,hj,ej⟩:=aBi (yF f);have A:=y j (by lia);rw[wQ g h j,aAo,aAg hj]at A;have m4:gA a b<=d[j]:=A
     lia
    rw[em];exact⟨.int (tH d),_,I.kept hk,⟨t,rfl⟩,q _ _ (Same.refl _) .int⟩
   .rw[ka f]at q;exact q.elim
def NJ (K:kc)(mg:cV)(x:Str)(ns:List Int):Prop:=∃a d b n e,mg x=some (.ref a)/\K.lookup a=some ⟨.type "tuple",d,.seq b n,e⟩/\p9 (ns.map V.int) b.toList/\b.size<=sizeLine
omit [Tabs]in
def tq {K:kc}{mg:cV}{x:Str}{a:a5}{b:Option a5}{n:Nat}{sl:Array (Option ao)}{i j k:Int}{t u v:Tok}(d:mg x=some (.ref a))(e:K.lookup a=some ⟨.type "tuple",b,.seq #[.int i t,.int j u,.int k v] n,sl⟩):NJ K mg x [i,j,k]:=
 ⟨a,b,_,n,sl,d,e,.cons ⟨t,rfl⟩ (.cons ⟨u,rfl⟩ (.cons ⟨v,rfl⟩ .nil)),show 3<=sizeLine by decide⟩
def yB (c:NJ X.K X.mg x ns)(b:Gl X x:=by rfl)(d:(x==kd)=false:=by decide):PD X (.Name x e) (YJ (.tup (ns.map D.int))):=by obtain⟨a,k,f,n,l,g,h,i,j⟩:=c;exact KN g h i j b d
end
end
section
variable [Tabs]
section
variable{K:kc}
structure FunC (K:PySem.W.Frag)(x qual:Str)(st:Stmt)(f:Addr)(fd:FuncData)(cd:Addr):Prop where
 ex:∃(oc:Value) (od:Option Addr) (kV doc pm:Value) (an:Option Addr) (ct:Value) (osl:Array (Option Value)),
  fd=PySem.W.fnOf x qual (C8 st) (t0 st) (c6 st) .none kV doc pm an (.ref cd) ct/\K.lookup f=some ⟨oc,od,.func fd,osl⟩/\PySem.W.codeIn K (.ref cd) qual=true
 kp:PySem.W.keepIn K (.ref f)=true
omit [Tabs]in
def FunC.fn {x qual:Str}{st:bM}{f:a5}{fd:dq}{cd:a5}(F:FunC K x qual st f fd cd):Fun K x qual st f fd:=
 let⟨d,e,kV,a,g,h,i,b,j,k,l⟩:=F.ex
 ⟨⟨d,e,kV,a,g,h,.ref cd,i,b,j,k,l⟩,F.kp⟩
omit [Tabs]in
def XR {x qual:Str}{st:bM}{f cd:a5}{h:ao}{i d:Option a5}{b:Array (Option ao)}{kV a g T ct:ao}(l:K.lookup f=some ⟨h,i,.func (PySem.W.fnOf x qual (C8 st) (t0 st) (c6 st) .none kV a g d T ct),b⟩)
  (e:T=.ref cd) (c:PySem.W.codeIn K T qual=true) (k:PySem.W.keepIn K (.ref f)=true):FunC K x qual st f (PySem.W.fnOf x qual (C8 st) (t0 st) (c6 st) .none kV a g d T ct) cd:=by
 subst e;exact⟨⟨h,i,kV,a,g,d,ct,b,rfl,l,c⟩,k⟩
def a3w {x qual:Str}{st:bM}{f cd:a5}{fd:dq}{N ps:List Str}{k:Nat}{m:List D->R D}{F:Ev->R Out}(j:FunC K x qual st f fd cd)(S:FnScope N ps (c6 st))
  (l:∀(A:bc) (a:List Env) (s:aA) (H:Hp) (E:XK),Room k (A.deeper (envOfC qual (c6 st) s.heap.objs.size f (.ref cd)))->bE (LZ P w K mg base N qual (c6 st) f (.ref cd) A a s H E) (t0 st) F)
  (n:∀ds d,ds.length=ps.length->m ds=.ok d->R1 (F (j6 N ds))=.ok d):FnOk P w K mg base sG (k+1) f fd ps (vq K ps.length m):=by
 obtain⟨U,Y,kV,p,pm,an,ct,t,rfl,lk,u⟩:=j.ex;refine YS lk u S (by rintro L H Q E ⟨O,ds,d,r,g,_⟩;rw[r.length];exact g) λA a s H L Q E v y=>?_;obtain⟨O,ds,d,r,g,z,B,C,e,q⟩:=y;refine⟨_,tL.nox (l A a s H E v H O),O,_,fJ r z B,C,?_⟩;have h:=n ds d g e;cases i:F (j6 N ds)with
 |ok o=>
  rw[i]at h;cases o with
  |rt I=>have b:R.ok I=R.ok d:=h;injection b with b;subst b;exact q
  |nx ρ=>have b:R.ok D.non=R.ok d:=h;injection b with b;subst b;exactλah J O' T _ _=>q .non J T.same .non
  |bk ρ=>cases h
  |ct ρ=>cases h
 |ex x=>rw[i]at h;cases h
 |bad=>rw[i]at h;cases h
def VH {x qual:Str}{st:bM}{f cd:a5}{fd:dq}{N ps:List Str}{k:Nat}{m:List D->R D}{F:Ev->R Out}(b:FunC K x qual st f fd cd)(S:FnScope N ps (c6 st))(e:Binds K fd ps [])(g:mg x=some (.ref f))
  (h:∀(A:bc) (a:List Env) (s:aA) (H:Hp) (E:XK),Room k (A.deeper (envOfC qual (c6 st) s.heap.objs.size f (.ref cd)))->bE (LZ P w K mg base N qual (c6 st) f (.ref cd) A a s H E) (t0 st) F)
  (i:∀ds d,ds.length=ps.length->m ds=.ok d->R1 (F (j6 N ds))=.ok d):w9 P w K mg base (k+1) x ps.length m:=
 ⟨f,fd,ps,a3w b S h i,e,b.kp,g⟩
def UW (P:ba)(w:be)(K:kc)(mg:cV)(base:bt)(k d:Nat)(x:Str)(M:D->(List D->R D)->(List D->R D)->R D):Prop:=
 ∃g b a,FnOk P w K mg base sG k g b a (spF K (LY P w K mg base d 1) M)/\Binds K b a []/\PySem.W.keepIn K (.ref g)=true/\mg x=some (.ref g)/\a.length=3
def YA {x qual:Str}{st:bM}{f:a5}{fd:dq}{N ps:List Str}{k b:Nat}{M:D->(List D->R D)->(List D->R D)->R D}{F:Ev->R Out}(e:Fun K x qual st f fd)(S:FnScope N ps (c6 st))(g:ps.length=3)(l:Binds K fd ps [])(m:mg x=some (.ref f))
  (n:∀(T:ao) (A:bc) (a:List Env) (s:aA) (H:Hp) (E:XK),Room k (A.deeper (envOfC qual (c6 st) s.heap.objs.size f T))->bE (LZ P w K mg base N qual (c6 st) f T A a s H E) (t0 st) F)
  (o:∀h i j d,M h i j=.ok d->R1 (F (lY N (LY P w K mg base b 1) h i j))=.ok d):UW P w K mg base (k+1) b x M:=
 ⟨f,fd,ps,fnF e S g n o,l,e.kp,m,g⟩
end
section
def AO (i:Nat){Φ:(List D->R D)->Hp->(a5->Prop)->a5->Prop}(a:LY X.prog X.w X.K X.mg X.base k n=Φ)(d:IV X (e::es) f)(g:zR f n)(h:Room k X.A)(j:X.N[i]?=some x:=by rfl)(l:yD X.env.scope x:=by first|exact aCw rfl|exact aBK (aCw rfl)|exact aBK (aBK rfl))(m:(x==kd)=false:=by decide)(o:(x==km)=false:=by decide)(q:az (e::es) X.env=(false,cv e X.env)::az es X.env:=by rfl)(r:(cp b (az es X.env)).any (·.1)=false:=by rfl):
  PD X (.Call (.Name x p) (e::es) [] b) (callC Φ i f):=by
 subst a;exact PN i d g h j l m o q r
def EK (r:NstOk X k n1)(s:NstOk X k n2)(t:ClosOk X n1 clos1)(u:ClosOk X n2 clos2)(v:∀x b,(x,b)∈clos1++clos2->X.env.cells.lookup x=some b)(z:kG X.mg X.base)(B:X.env.code=.ref c)(C:PySem.W.codeHdIn X.K c E=true)(j:(E,tb)∈Tabs.tbs)(l:(n1.pos,n1.qual)∈tb)(H:(n2.pos,n2.qual)∈tb)(I:∀p∈tb,p.1.line=n1.pos.line->p.1.col=n1.pos.col->p.2=n1.qual)(m:∀p∈tb,p.1.line=n2.pos.line->p.1.col=n2.pos.col->p.2=n2.qual)(J:n1.i≠n2.i)(L:X.N.Nodup)(O:UW X.prog X.w X.K X.mg X.base Q (k+1) x M)(T:Room Q X.A)(U:PD X e f)(Y:∀y,X.fn y=true)(hg:Gl X x:=by rfl)(gh:(x==kd)=false:=by decide)(yr:az [e,.Name n1.name h,.Name n2.name a] X.env=(false,cv e X.env)::az [.Name n1.name h,.Name n2.name a] X.env:=by rfl)(zf:az [.Name n1.name h,.Name n2.name a] X.env=(false,cv (.Name n1.name h) X.env)::az [.Name n2.name a] X.env:=by rfl)(n:az [.Name n2.name a] X.env=(false,cv (.Name n2.name a) X.env)::az [] X.env:=by rfl)(br:(cp o (az [.Name n1.name h,.Name n2.name a] X.env)).any (·.1)=false:=by rfl):
  bE X [n1.stmt,n2.stmt,.Return (some (.Call (.Name x p) [e,.Name n1.name h,.Name n2.name a] [] o)) q] (λρ=>((f ((ρ.set n1.i .no).set n2.i .no)).bind λd1=>(dZ n1.js ((ρ.set n1.i .no).set n2.i .no)).bind λw1=>(dZ n2.js ((ρ.set n1.i .no).set n2.i .no)).bind λw2=>M d1 (n1.mm w1) (n2.mm w2)).bind λd=>.ok (.rt d)):=by
 obtain⟨g,gd,ps,FF,hb,hk,hm,h3⟩:=O;exact KJ r s t u v z B C j l H I m J L FF T hm hk hb h3 U Y hg gh yr zf n br
end
end
end DL
namespace DL
open PySem L2
def _root_.L2.Room.ad7 (r:Room k A):A.units+130<cq:=by have:=r.un;lia
def _root_.L2.Room.ad9 (r:Room k A)(h:7<=k):A.units+300<cq:=by have:=r.un;lia
def IT {y:Str}{d:a5}{a:List (Str×a5)}(h:a.lookup y=some d:=by rfl):∀(x:Str) (b:a5),(x,b)∈[(y,d)]++[(y,d)]->a.lookup x=some b:=λx b e=>by
 have:(x,b)=(y,d):=by simpa using e
 injection this with f g;subst f g;exact h
def HE {sc:iu}{fn:List Str}{x:Str}(h:sc.names.lookup x=some .free)(a:(sc.names.all λp=>p.2 !=.free||fn.contains p.1)=true:=by decide+kernel):x∈fn:=by have b:=aBN.mp a _ (PySem.mem_of_lookup h);simpa using b
def IA:bM->Pos
 |.FunctionDef _ _ _ _ _ _ _ _ _ p=>p
 |_=>⟨0,0,0,0⟩
end DL
namespace M
open PySem L2 DL
def BN:D->Option G.V
 |.tup [.int a,.int b,.int c]=>some ⟨a,b,c⟩
 |_=>none
@[simp]def GT (v:G.V):BN (vd v)=some v:=rfl
def IW (h:BN d=some v):d=vd v:=by
 unfold BN at h;split at h
 .cases h;rfl
 .cases h
def F7:List D->Option (List G.V)
 |[]=>some []
 |d::a=>match BN d,F7 a with
  |some v,some L=>some (v::L)
  |_,_=>none
@[simp]theorem w6:∀L:List G.V,F7 (L.map vd)=some L
 |[]=>rfl
 |v::L=>by rw[aAn,F7,GT,w6 L]
theorem u3:∀{ds:List D} {L:List G.V},F7 ds=some L->ds=L.map vd
 |[],L,h=>by cases h;rfl
 |d::ds,L,h=>by
  unfold F7 at h;split at h
  .rename_i v e a b;cases h;rw[IW a,u3 b];rfl
  .cases h
def xH (h:vd u=vd v):u=v:=by
 have:BN (vd u)=BN (vd v):=by rw[h]
 simpa using this
def WD {u v:List G.V}(h:u.map vd=v.map vd):u=v:=by
 have:F7 (u.map vd)=F7 (v.map vd):=by rw[h]
 simpa using this
def aS (n:Nat)(J:List G.V):Prop:=(∀P∈J,Sz n P)/\J.length<=1000
def EM:Option G.V->D
 |some v=>vd v
 |none=>.non
def A7:List D->R D
 |[.lst Y]=>match F7 Y with
  |some a=>.ok (EM (G.B6 a))
  |none=>.bad
 |_=>.bad
open Classical in
def C9:List D->R D
 |[.lst Y]=>match F7 Y with
  |some J=>if J≠[]/\aS 1000 J then .ok (.int (G.U1 J))else .bad
  |none=>.bad
 |_=>.bad
open Classical in
def G0:List D->R D
 |[.lst Y]=>match F7 Y with
  |some J=>if aS 1000 J/\G.U1 J=3 then .ok .non else .bad
  |none=>.bad
 |_=>.bad
open Classical in
def A5:List D->R D:=v4 λa b c d=>HW λY=>iZ (match F7 Y with
 |some J=>if Sz 10000 ⟨a,b,c⟩/\aS 1000 J then .ok (.lst ((G.o8 ⟨a,b,c⟩ d J).map vd))else .bad
 |none=>.bad)
open Classical in
def G2:List D->R D:=UC λg=>HW λY=>iZ ((v1 λa b c=>v1 λd e f=>iZ (match F7 Y with
 |some J=>if Sz 1000 ⟨a,b,c⟩/\Sz 1000 ⟨d,e,f⟩/\aS 1000 J/\G.dR (G.b7 ⟨a,b,c⟩ ⟨d,e,f⟩ J).1 then .ok (wI (G.b7 ⟨a,b,c⟩ ⟨d,e,f⟩ J).1 (G.b7 ⟨a,b,c⟩ ⟨d,e,f⟩ J).2)else .bad
 |none=>.bad)) g)
abbrev J6 (p:G.V×G.V):D:=.tup [vd p.1,vd p.2]
structure Land (J:List G.V)(m:G.V):Prop where
 good:G.Good J m
 sz:aS 900 J
 few:J.length<=63
 head:J.head?=some m
open Classical in
def K5:List D->R D
 |[.lst Y]=>match F7 Y with
  |some (m::J)=>if Land (m::J) m then .ok (J6 (G.i5 m (m::J)))else .bad
  |_=>.bad
 |_=>.bad
open Classical in
def fE:List D->R D:=v1 λa b c=>v1 λd e f=>v1 λg h i=>v1 λj k l=>iZ (
 if Sz 10000 ⟨a,b,c⟩/\Sz 1000 ⟨d,e,f⟩/\Sz 1000 ⟨g,h,i⟩/\Sz 1000 ⟨j,k,l⟩then .ok (.int (G.turn ⟨a,b,c⟩ ⟨d,e,f⟩ ⟨g,h,i⟩ ⟨j,k,l⟩))else .bad)
open Classical in
def V3:List D->R D:=v1 λa b c=>HW λY=>iZ (match F7 Y with
 |some J=>if Sz 10000 ⟨a,b,c⟩/\aS 1000 J then .ok (.lst ((G.y3 ⟨a,b,c⟩ J).reverse.map vd))else .bad
 |none=>.bad)
open Classical in
def Q1:List D->R D:=v1 λa b c=>HW λY=>iZ (match F7 Y with
 |some J=>if Sz 10000 ⟨a,b,c⟩/\aS 1000 J then .ok (.lst ((G.l6 ⟨a,b,c⟩ J).map vd))else .bad
 |none=>.bad)
def A6:List D->R D
 |[.lst Y]=>match F7 Y with
  |some J=>if J.length<=3000 then .ok (.lst ((G.B8 J).map J6))else .bad
  |none=>.bad
 |_=>.bad
abbrev n8 (J:List G.V)(f:G.V×Int):D:=.tup [wI f.1 f.2,.lst ((G.i4 J f).map vd)]
def eI (J:List G.V)(fs:List (G.V×Int)):Prop:=(∀f,f∈fs↔G.IsFace J f.1 f.2)/\rQ T6 (fs.map<|n8 J)
open Classical in
def j1 (J:List G.V):List (G.V×Int):=if h:∃fs,eI J fs then h.choose else[]
def L4:List D->List D->R D
 |[w],[_]=>.ok w
 |_,_=>.bad
def E6:List D->List D->R D
 |[w],[p]=>A5 [p,w]
 |_,_=>.bad
open Classical in
def K7 (d:D) (a b:List D->R D):R D:=match a [.non]with
 |.ok (.lst Y)=>match F7 Y with
  |some (m::J)=>if Land (m::J) m/\(m::J).length<=14/\d=J6 (G.i5 m (m::J))/\a=L4 [.lst Y]/\b=E6 [.lst Y]then .ok (.lst ((j1 (m::J)).map (n8 (m::J))))else .bad
  |_=>.bad
 |_=>.bad
def f6 (J:List G.V):List G.V:=(Y8<|J.map vd).filterMap BN
open Classical in
def Q5:List D->R D
 |[.lst Y]=>match F7 Y with
  |some J=>if aS 900 J/\G.j4 J/\(f6 J).length<=14 then .ok (.lst ((j1 (f6 J)).map (n8 (f6 J))))else .bad
  |none=>.bad
 |_=>.bad
def fj:D->Option (List G.V)
 |.tup [_,.lst Y]=>F7 Y
 |_=>none
def uY:List D->Option (List (List G.V))
 |[]=>some []
 |d::a=>match fj d,uY a with
  |some v,some L=>some (v::L)
  |_,_=>none
open Classical in
def K9:List D->R D
 |[.lst Y]=>match uY Y with
  |some a=>if a.flatten.length<=3000/\(f6 a.flatten).length<=63 then .ok (.lst ((f6 a.flatten).map vd))else .bad
  |none=>.bad
 |_=>.bad
def D7 (J:List G.V):List G.V:=f6 ((j1<|f6 J).flatMap (G.i4<|f6 J))
open Classical in
def aZ:List D->R D
 |[.lst Y]=>match F7 Y with
  |some J=>if aS 900 J/\G.j4 J/\(f6 J).length<=14 then .ok (.lst ((D7 J).map vd))else .bad
  |none=>.bad
 |_=>.bad
def ne0 (v:G.V):DH (vd v) (.tup [.int 0,.int 0,.int 0])=.ok (.bl (!decide (v=0))):=by rw[CI];congr 3;rw[aEa];simp only[aAO,beq_iff_eq,decide_eq_true_eq,G.qO];exact⟨λh=>h,λh=>h⟩
def eq0 (v:G.V):SG (vd v) (.tup [.int 0,.int 0,.int 0])=.ok (.bl (decide (v=0))):=by rw[pz];congr 2;rw[aEa];simp only[aAO,beq_iff_eq,decide_eq_true_eq,G.qO];exact⟨λh=>h,λh=>h⟩
def V0 (a:G d ρ=.ok ρ1)(b:F ρ1=.ok (.nx ρ2)):Q6 G F (d::ds) ρ=Q6 G F ds ρ2:=by rw[Q6,a];dsimp only;rw[b]
def xL (a:G d ρ=.ok ρ1)(b:F ρ1=.ok (.rt x)):Q6 G F (d::ds) ρ=.ok (.rt x):=by rw[Q6,a];dsimp only;rw[b]
theorem fF {α:Type}(rep:α->D)(p:α->Bool)(g:α->D):∀(l:List α),(∀a∈l,∃ρ1,G (rep a) ρ=.ok ρ1/\ft ρ1=.ok (p a)/\(p a=true->fe ρ1=.ok (g a)))->w8 G ft fe ρ (l.map rep)=.ok ((l.filter p).map g)
 |[],_=>rfl
 |a::l,h=>by
  obtain⟨ρ1,e,f,i⟩:=h a (.head _);have j:=fF rep p g l λb k=>h b (.tail _ k);rw[aAn,w8,e];dsimp only;rw[f,R.aa0,j];cases d:p a with
  |false=>rw[ka (by decide),List.filter_cons_of_neg (by simp[d])]
  |true=>rw[jk rfl,i d,R.aa0,R.aa0,List.filter_cons_of_pos d];rfl
def V7 {α:Type}(rep:α->D)(g:α->D)(l:List α)(h:∀a∈l,∃ρ1,G (rep a) ρ=.ok ρ1/\fe ρ1=.ok (g a)):w8 G (λ_=>.ok true) fe ρ (l.map rep)=.ok (l.map g):=by
 have:=fF rep (G:=G) (ft:=λ_=>.ok true) (fe:=fe) (ρ:=ρ) (λ_=>true) g l λa b=>let⟨ρ1,d,e⟩:=h a b;⟨ρ1,d,rfl,λ_=>e⟩
 rw[this,List.filter_eq_self.mpr λ_ _=>rfl]
def small (h:n<=1000):n<=sizeLine:=aAs h (by decide)
def NQ (h:n<=3000):n<=sizeLine:=aAs h (by decide)
def aS.sub (h:aS n J)(b:∀P∈a,P∈J)(d:a.length<=J.length):aS n a:=⟨λP e=>h.1 P (b P e),aAs d h.2⟩
def aS.mono (h:aS m J)(a:m<=n:=by decide):aS n J:=⟨λP b=>(h.1 P b).mono a,h.2⟩
def a3n (t:Int):(sgn t==0)=decide (t=0):=by
 unfold sgn;by_cases h:0<t
 .rw[jk h];simp;lia
 .rw[ka h];by_cases a:t<0
  .rw[jk a];simp;lia
  .rw[ka a];simp;lia
def kA (a:Sz 10000 n)(b:aS 1000 J):A5 [wI n d,.lst (J.map vd)]=.ok (.lst ((G.o8 n d J).map vd)):=by simp only[A5,v4,UC,zA,HW,iZ,w6];exact jk ⟨a,b⟩
def MQ (a:J≠[])(b:aS 1000 J):C9 [.lst (J.map vd)]=.ok (.int (G.U1 J)):=by simp only[C9,w6];exact jk ⟨a,b⟩
def CJ (ws:List G.V):A7 [.lst (ws.map vd)]=.ok (EM (G.B6 ws)):=by simp only[A7,w6]
def DI (bs:List Bool):fC (bs.map D.bl)=some bs:=by
 induction bs with
 |nil=>rfl
 |cons b bs a=>rw[aAn,fC,a];rfl
def jj (bs:List Bool):anyR [.lst (bs.map D.bl)]=.ok (.bl (bs.any id)):=by simp only[anyR,DI]
def YB (Y:List D):ET (.lst Y) none (some (-1))=.ok (.lst Y.dropLast):=by
 show R.ok (D.lst<|cutD Y none<|some (-1))=_;unfold cutD HT.sIx;rw[aEt];simp;congr 1
 lia
def UM (Y:List D):ET (.lst Y) (some 1) none=.ok (.lst Y.tail):=by
 show R.ok (D.lst<|cutD Y (some 1) none)=_;unfold cutD HT.sIx;cases Y with
 |nil=>rfl
 |cons a l=>simp
def ez (Y:List D):ET (.lst Y) none (some 1)=.ok (.lst (Y.take 1)):=by
 show R.ok (D.lst<|cutD Y none<|some 1)=_;unfold cutD HT.sIx;cases Y with
 |nil=>rfl
 |cons a l=>simp
def YV (Y:List D)(a b:D):rP (Y++[a,b]) (-1)=some b:=by
 have d:(Y++[a,b]).length=Y.length+2:=by simp
 unfold rP YW;rw[d,ka (by decide),jk (by lia)];show(Y++[a,b])[((-1:Int)+((Y.length+2:Nat):Int)).toNat]?=_;have:((-1:Int)+((Y.length+2:Nat):Int)).toNat=Y.length+1:=by lia
 rw[this,aAA (by lia),show Y.length+1-Y.length=1 by lia];rfl
def YU (Y:List D)(a b:D):rP (Y++[a,b]) (-2)=some a:=by
 have d:(Y++[a,b]).length=Y.length+2:=by simp
 unfold rP YW;rw[d,ka (by decide),jk (by lia)];show(Y++[a,b])[((-2:Int)+((Y.length+2:Nat):Int)).toNat]?=_;have:((-2:Int)+((Y.length+2:Nat):Int)).toNat=Y.length:=by lia
 rw[this,aAA (by lia),Nat.sub_self];rfl
def yw (a:D)(Y:List D):rP (a::Y) 0=some a:=by rw[cP (by decide)];rfl
def a1s (a b:D)(Y:List D):rP (a::b::Y) 1=some b:=by rw[cP (by decide)];rfl
def VY {P Q R:G.V}(h:G.dR (G.d9 P Q R).1):G.cr (Q-P) (R-P)≠0:=λe=>by
 have:(G.d9 P Q R).1=0:=by show G.cZ (G.cr (Q-P)<|R-P) _=0;rw[e];rfl
 rw[this]at h;unfold G.dR at h;exact absurd h (by decide)
theorem yZ:∀{c:List G.V},(G.Y3 n P c).length<=c.length
 |[]=>aAj _
 |[a]=>aAj _
 |b::a::r=>by
  unfold G.Y3;split
  .exact aAs (yZ (c:=a::r)) (by simp)
  .exact aAj _
theorem qA:∀(a c:List G.V),(a.foldl (λc P=>P::G.Y3 n P c) c).length<=a.length+c.length
 |[],c=>by simp
 |P::a,c=>by refine aAs (qA a _) ?_;have:=yZ (n:=n) (P:=P) (c:=c);simp;lia
def tZ (n:G.V)(ps:List G.V):(G.y3 n ps).length<=ps.length:=by simpa[G.y3]using qA (n:=n) ps []
theorem tN {α β:Type}(f:α->D):∀(Y ys:List α),lR (Y.map f) (ys.map f)=(Y.zip ys).map λp=>D.tup [f p.1,f p.2]
 |[],_=>by simp[lR]
 |_::_,[]=>by simp[lR]
 |x::Y,y::ys=>by have:=tN (β:=β) f Y ys;simp only[lR]at this⊢;simp[this]
def YZ (a:Sz 10000 n)(b:aS 1000 J):V3 [vd n,.lst (J.map vd)]=.ok (.lst ((G.y3 n J).reverse.map vd)):=by simp only[V3,v1,UC,zA,HW,iZ,w6];exact jk ⟨a,b⟩
def IJ {n P Q R:G.V}(h:Sz 10000 n)(a:Sz 1000 P)(b:Sz 1000 Q)(d:Sz 1000 R):fE [vd n,vd P,vd Q,vd R]=.ok (.int (G.turn n P Q R)):=jk ⟨h,a,b,d⟩
def X7 (a:Sz 1000 A)(b:Sz 1000 B)(d:aS 1000 J)(e:G.dR (G.b7 A B J).1):G2 [.tup [vd A,vd B],.lst (J.map vd)]=.ok (wI (G.b7 A B J).1 (G.b7 A B J).2):=by simp only[G2,v1,UC,zA,HW,iZ,w6];exact jk ⟨a,b,d,e⟩
def VE (a:Sz 10000 n)(b:aS 1000 J):Q1 [vd n,.lst (J.map vd)]=.ok (.lst ((G.l6 n J).map vd)):=by simp only[Q1,v1,UC,zA,HW,iZ,w6];exact jk ⟨a,b⟩
def PJ (h:J.length<=3000):A6 [.lst (J.map vd)]=.ok (.lst ((G.B8 J).map J6)):=by simp only[A6,w6];exact jk h
def oK (h:a.length+b.length<=sizeLine):mJ (.lst a) (.lst b)=.ok (.lst (a++b)):=jk h
def PC (a b:G.V):HT.lexLt (flat (vd a)) (flat (vd b))=true↔G.i3 (b-a):=by
 show HT.lexLt [a.x,a.y,a.z] [b.x,b.y,b.z]=true↔_;unfold G.i3;simp only[HT.lexLt,G.MO,G.SK,G.QT];by_cases d:a.x=b.x
 .by_cases e:a.y=b.y
  .by_cases f:a.z=b.z
   .simp[d,e,f]
   .simp[d,e,f];try lia
  .simp[d,e];try lia
 .simp[d];try lia
def CZ {J:List G.V}(h:J.Pairwise λa b=>G.i3 (b-a)):PM (J.map vd):=aBm.mpr (h.imp λ{a b} q=>(PC a b).mpr q)
def nj {J:List G.V}(h:PM (J.map vd)):J.Pairwise λa b=>G.i3 (b-a):=(aBm.mp h).imp λ{a b} q=>(PC a b).mp q
def NO (J:List G.V):(J.map vd).all aP=true:=aBN.mpr λd a=>by obtain⟨v,_,rfl⟩:=aAk.mp a;rfl
def dj [Tabs]{m:G.V}{J:List G.V}(h:(m::J).Pairwise λa b=>G.i3 (b-a)):QO [.lst ((m::J).map vd)]=.ok (vd m):=by show(if(m::J).map vd≠[]/\((m::J).map vd).all aP=true then _ else _)=_;rw[jk ⟨by simp,NO _⟩,WG (CZ h) _ (by simp)];rfl
def JK {k:Nat}{P Q R:G.V}(p:Sz k P)(q:Sz k Q)(r:Sz k R):Sz (k+1+(k+1)+1) (G.d9 P Q R).1:=by
 have a:=(q.sub p).cr (r.sub p);by_cases d:G.cr (Q-P) (R-P)=0
 .have:(G.d9 P Q R).1=0:=by show G.cZ (G.cr (Q-P)<|R-P) _=0;rw[d];rfl
  rw[this];exact⟨aAM _,aAM _,aAM _⟩
 .obtain⟨h,i,j⟩:=G.fG d;have e:=bits_fdiv (b:=(G.u0 (G.cr (Q-P)<|R-P):Int)) a.1;have f:=bits_fdiv (b:=(G.u0 (G.cr (Q-P)<|R-P):Int)) a.2.1;have g:=bits_fdiv (b:=(G.u0 (G.cr (Q-P)<|R-P):Int)) a.2.2;rw[dJ h]at e f g;exact⟨e,f,g⟩
def pF {P Q R:G.V}(p:Sz 1000 P)(q:Sz 1000 Q)(r:Sz 1000 R):Sz 2003 (G.d9 P Q R).1:=JK p q r
def zS {A B:G.V}{J:List G.V}(p:Sz 1000 A)(q:Sz 1000 B)(r:aS 1000 J):Sz 2003 (G.b7 A B J).1:=by
 unfold G.b7;rcases G.lB (a:=B-A) (A:=A) J 0 A with h|h
 .exact pF p q (r.1 _ h)
 .rw[h];exact pF p q p
def yz (m:G.V):vd (m+G.kk)=.tup [.int m.x,.int m.y,.int (m.z+1)]:=by simp[G.kk]
def MU (h:Sz 900 m):Sz 1000 (m+G.kk):=(h.add (v:=G.kk) ⟨by decide,by decide,by decide⟩).mono
def SH (h:aS k J):aS k (G.o8 n d J):=h.sub (λP a=>(G.d8.mp a).1) (aDA _ _)
def OS {α:Type}{l:List α}{a b:α}(d:a∈l)(e:b∈l)(h:a≠b):∃x y r,l=x::y::r:=by
 match l,d,e with
 |[x],d,e=>exact absurd ((aAX.mp d).trans (aAX.mp e).symm) h
 |x::y::r,_,_=>exact⟨x,y,r,rfl⟩
open Classical in
def MX {N:List (D×D)}{k v a:D}:a∈(cB N k v).map (·.1)↔a∈N.map (·.1)\/a=k:=by
 unfold cB;split
 .rename_i h;rw[aAV];have:((λx=>x.1)∘λp:D×D=>if p.1=k then(p.1,v)else p)=λp=>p.1:=by funext p;simp only[aGr];split<;>rfl
  rw[this];exact⟨.inl,λq=>q.elim id λe=>by rw[e];exact h⟩
 .rw[aBw,aAL];simp
def OZ {N:List (D×D)}{k v:D}:(cB N k v).length<=N.length+1:=by
 unfold cB;split
 .simp
 .simp
def UP {p q:G.V×G.V}(h:J6 p=J6 q):p=q:=by injection h with h;injection h with b a;injection a with a _;exact aEY (xH b) (xH a)
def DZ (p:G.V×G.V):Q3 7 (J6 p)=true/\ES (J6 p)=true:=⟨rfl,rfl⟩
def ffC:Ev->R Bool:=λρ=>((((rY 5 ρ).bind λd=>R.ok [d]).bind tE).bind λx=>tz x (D.int 0)).bind xU
def ffS:Ev->R Out:=λρ=>
 D6 ((bL 9 ρ).bind λa=>qB 4 ρ a (D.bl true)) λρ=>((((rY 9 ρ).bind λx=>T0 x (D.int 1)).bind λd=>(((rY 9 ρ).bind λx=>T0 x (D.int 0)).bind λd=>R.ok [d]).bind λb=>R.ok (d::b)).bind nV).bind (BC 5 ρ)
theorem GM {a0 a1 a2 a3 a6 a7 a8:Sl}:∀(a:List (G.V×G.V)) (N:List (D×D)) (W:List (G.V×G.V)) (g:Sl),N.length+a.length<=10000->W.length+a.length<=10000->
  ∃f b,Q6 (λd ρ=>R.ok (aDF ρ 9 (Sl.v d))) ffS (a.map J6) [a0,a1,a2,a3,.d N,.o (W.map J6),a6,a7,a8,g]=.ok (.nx [a0,a1,a2,a3,.d f,.o ((W++a.map λq=>(q.2,q.1)).map J6),a6,a7,a8,b])/\
   (∀e:G.V×G.V,J6 e∈f.map (·.1)↔J6 e∈N.map (·.1)\/e∈a)/\f.length<=N.length+a.length
 |[],N,W,g,_,_=>⟨N,g,by simp,λe=>by simp,by simp⟩
 |q::a,N,W,g,i,j=>by
  simp only[aAr]at i j;have u:=OZ (N:=N) (k:=J6 q) (v:=.bl true);obtain⟨f,b,e,m,l⟩:=GM a (cB N (J6 q)<|.bl true) (W++[(q.2,q.1)]) (.v (J6 q)) (by lia) (by simp;lia);refine⟨f,b,?_,λx=>?_,by simp;lia⟩
  .rw[aAn];refine(V0 (ρ2:=[a0,a1,a2,a3,.d (cB N (J6 q)<|.bl true),.o ((W++[(q.2,q.1)]).map J6),a6,a7,a8,.v (J6 q)]) rfl ?_).trans ?_
   .have n:N.length<=sizeLine:=aAs (show N.length<=10000 by lia) (by decide);have p:(W.map J6).length<sizeLine:=by rw[aAi];exact aCQ (show W.length<=10000 by lia) (by decide)
    have r:qB 4 [a0,a1,a2,a3,.d N,.o (W.map J6),a6,a7,a8,.v (J6 q)] (J6 q) (.bl true)=.ok (.nx [a0,a1,a2,a3,.d (cB N (J6 q)<|.bl true),.o (W.map J6),a6,a7,a8,.v (J6 q)]):=by show(if _ then _ else _)=_;rw[jk ⟨(DZ q).1,(DZ q).2,n⟩];rfl
    have s:BC 5 [a0,a1,a2,a3,.d (cB N (J6 q)<|.bl true),.o (W.map J6),a6,a7,a8,.v (J6 q)] (J6 (q.2,q.1))=.ok (.nx [a0,a1,a2,a3,.d (cB N (J6 q)<|.bl true),.o ((W++[(q.2,q.1)]).map J6),a6,a7,a8,.v (J6 q)]):=by show(if _ then _ else _)=_;rw[jk p,aBw];rfl
    show D6 ((R.ok<|J6 q).bind λt=>qB 4 [a0,a1,a2,a3,.d N,.o (W.map J6),a6,a7,a8,.v (J6 q)] t (D.bl true)) _=_;rw[R.aa0,r];exact s
   .rw[e];simp
  .rw[m x,MX,aAd];constructor
   .rintro((h|h)|h)
    .exact .inl h
    .exact .inr (.inl (UP h))
    .exact .inr (.inr h)
   .rintro(h|h|h)
    .exact .inl (.inl h)
    .exact .inl (.inr (by rw[h]))
    .exact .inr h
section
variable(Φ:(List D->R D)->Hp->(a5->Prop)->a5->Prop)
def ffB:Ev->R Out:=λρ=>
 D6 ((CL 5 ρ).bind λz=>R.ok (Out.nx<|aDF z.snd 6<|Sl.v z.fst)) λρ=>
  ((bL 6 ρ).bind (rC 4 ρ)).bind λt=>
   if t=true then
    D6
     ((((bL 6 ρ).bind λd=>((callC Φ 1 (t5 (λρ=>(rY 6 ρ).bind λx=>T0 x (D.int 0)) U5) ρ).bind λd=>R.ok [d]).bind λa=>R.ok (d::a)).bind G2).bind λd=>R.ok (Out.nx<|aDF ρ 7<|Sl.v d))
     λρ=>
     D6
      (((((rY 7 ρ).bind λx=>ET x none (some 3)).bind λd=>((callC Φ 2 (t5 (bL 7) U5) ρ).bind λd=>R.ok [d]).bind λa=>R.ok (d::a)).bind Q1).bind λd=>R.ok (Out.nx<|aDF ρ 8<|Sl.v d))
      λρ=>
      D6 ((((bL 7 ρ).bind λd=>((bL 8 ρ).bind λd=>R.ok [d]).bind λa=>R.ok (d::a)).bind nV).bind (BC 3 ρ))
       λρ=>((((bL 8 ρ).bind λd=>R.ok [d]).bind A6).bind kD).bind λa=>Q6 (λd ρ=>R.ok (aDF ρ 9<|Sl.v d)) ffS a ρ
   else R.ok (Out.nx ρ)
def BP (L:D) (e:G.V×G.V) (fs:List D) (N:List (D×D)) (W:List (G.V×G.V)) (a b c d:Sl):Ev:=
 [Sl.v (J6 e),Sl.c (L4 [L]) (Φ<|L4 [L]),Sl.c (E6 [L]) (Φ<|E6 [L]),.o fs,.d N,.o (W.map J6),a,b,c,d]
end
def yJ {Φ:(List D->R D)->Hp->(a5->Prop)->a5->Prop}{i:Nat}{f:Ev->R (List D)}{ρ:Ev}{m:List D->R D}{ds:List D}(h:ρ[i]?=some (.c m (Φ m)))(a:f ρ=.ok ds):callC Φ i f ρ=m ds:=by unfold callC;rw[h];dsimp only;rw[jk rfl,a];rfl
def iW (J:List G.V)(fs:List (G.V×Int)):Nat:=(fs.map λf=>(G.i4 J f).length).sum
def fQ (J:List G.V)(fs:List (G.V×Int))(f:G.V×Int):iW J (fs++[f])=iW J fs+(G.i4 J f).length:=by simp[iW]
def NN {J:List G.V}{m:G.V}(h:Land J m):Sz 1000 (G.i5 m J).1/\Sz 1000 (G.i5 m J).2:=by
 have a:Sz 900 m:=h.sz.1 m h.good.mem;obtain⟨j,e,f,g,i⟩:=G.zH h.good.solid h.good.mem h.good.least;unfold G.i5;dsimp only;split
 .exact⟨a.mono,MU a⟩
 .obtain⟨x,y,r,b⟩:=OS e g i;rw[b];have q:∀z∈x::y::r,Sz 1000 z:=λz d=>by rw[<-b]at d;exact(h.sz.1 z (G.d8.mp d).1).mono
  exact⟨q x (.head _),q y (.tail _ (.head _))⟩
def WW {J:List G.V}{m:G.V}(h:Land J m){fs:List (G.V×Int)}{b:G.V×G.V->Prop}{W:List (G.V×G.V)}(L:G.LInv J (G.i5 m J) fs b W){p:G.V×G.V}(d:p∈W):Sz 1000 p.1/\Sz 1000 p.2:=by
 rcases L.wt p d with⟨f,g,i⟩|⟨_,e⟩
 .have S:=(L.face f g).aa2 h.good.ord;have a:=S.aa1.mp i;exact⟨(h.sz.1 _ (G.d8.mp a.q).1).mono,(h.sz.1 _ (G.d8.mp a.p).1).mono⟩
 .rw[e];exact NN h
def NV {J:List G.V}{m:G.V}(h:Land J m){f:G.V×Int}(a:G.IsFace J f.1 f.2):(G.i4 J f).length<=J.length:=by have S:=a.aa2 h.good.ord;exact G.M5 S.aa3 λx b=>(G.d8.mp<|S.aa4 b).1
def AL {J:List G.V}{f g:G.V×Int}(h:T6 (n8 J f)=T6 (n8 J g)):f=g:=by have h:[f.1.x,f.1.y,f.1.z,f.2]=[g.1.x,g.1.y,g.1.z,g.2]:=h;simp only[aFM,and_true]at h;exact aEY (G.ext h.1 h.2.1 h.2.2.1) h.2.2.2
def sE {α β:Type}{f:α->β}(d:∀a b,f a=f b->a=b){l:List α}(h:l.Nodup):(l.map f).Nodup:=aBm.mpr (h.imp λ{a b} n e=>n (d a b e))
def VP {Φ:(List D->R D)->Hp->(a5->Prop)->a5->Prop}{J:List G.V}{m:G.V}(hz:Land J m){fs:List (G.V×Int)}{N:List (D×D)}{W:List (G.V×G.V)}{a b c d:Sl}(L:G.LInv J (G.i5 m J) fs (λe=>J6 e∈N.map (·.1)) W)
  (hk:N.length<=iW J fs) (hW:W.length<=1+iW J fs) {n:Nat} (hn:W.length+(J.length*J.length-iW J fs)<n+1) (Y:W≠[]):
  ∃k l W' a' b' c' d',ffB Φ (BP Φ (.lst (J.map vd)) (G.i5 m J) (fs.map (n8 J)) N W a b c d)=.ok (.nx (BP Φ (.lst (J.map vd)) (G.i5 m J) (k.map (n8 J)) l W' a' b' c' d'))/\
   G.LInv J (G.i5 m J) k (λe=>J6 e∈l.map (·.1)) W'/\l.length<=iW J k/\W'.length<=1+iW J k/\W'.length+(J.length*J.length-iW J k)<n:=by
 obtain⟨rest,p,rfl⟩:∃rest p,W=rest++[p]:=⟨W.dropLast,W.getLast Y,(List.dropLast_concat_getLast Y).symm⟩;have r:=G.aX hz.good.solid hz.good.ord L.nd L.face;have few:=hz.few;have nn:J.length*J.length<=63*63:=aCW few few;have hsum:iW J fs+J.length<=J.length*J.length:=r;have C:(rest++[p]).length=rest.length+1:=by simp
 rw[C]at hW hn;have E:CL 5 (BP Φ (.lst (J.map vd)) (G.i5 m J) (fs.map<|n8 J) N (rest++[p]) a b c d)=.ok (J6 p,BP Φ (.lst (J.map vd)) (G.i5 m J) (fs.map<|n8 J) N rest a b c d):=by show(match((rest++[p]).map J6)[((rest++[p]).map J6).length-1]? with|some d=>_|none=>_:R (D×Ev))=_;rw[aBw];simp;rfl
 have H:rC 4 (BP Φ (.lst (J.map vd)) (G.i5 m J) (fs.map<|n8 J) N rest (.v (J6 p)) b c d) (J6 p)=.ok (!(open Classical in decide (J6 p∈N.map (·.1)))):=by unfold rC;rw[show(BP Φ (.lst (J.map vd)) (G.i5 m J) (fs.map<|n8 J) N rest (.v (J6 p)) b c d)[4]?=some (.d N)from rfl];dsimp only;rw[jk (DZ p)]
 have A:aS 1000 J:=hz.sz.mono;unfold ffB;rw[E];show∃k l W' a' b' c' d',D6 (R.ok<|Out.nx<|BP Φ (.lst (J.map vd)) (G.i5 m J) (fs.map<|n8 J) N rest (.v (J6 p)) b c d) _=_/\_;rw[A3];rw[show bL 6 (BP Φ (.lst (J.map vd)) (G.i5 m J) (fs.map<|n8 J) N rest (.v (J6 p)) b c d)=.ok (J6 p)from rfl,R.aa0,H,R.aa0];by_cases s:J6 p∈N.map (·.1)
 .refine⟨fs,N,rest,.v (J6 p),b,c,d,?_,G.RW hz.good L rfl s,hk,by lia,by lia⟩;rw[decide_eq_true s];rfl
 .have t:p∈rest++[p]:=by simp
  obtain⟨B,n2,n3⟩:=G.BU hz.good L t s;obtain⟨u,w⟩:=WW hz L t;have ab:=X7 u w A B.prim;have i:=zS u w A;obtain⟨f,ef⟩:∃f,G.b7 p.1 p.2 J=f:=⟨_,rfl⟩;rw[ef]at B n2 n3 ab i;have po:=kA (d:=f.2) i.mono A;have I:=VE (n:=f.1) (J:=G.o8 f.1 f.2 J) i.mono (SH A);have rl:=NV hz B;have I:Q1 [vd f.1,.lst ((G.o8 f.1 f.2 J).map vd)]=.ok (.lst ((G.i4 J f).map vd)):=I;have pr:=PJ (J:=G.i4 J f) (by lia);have O:=λ{wk'} {W'} h1 h2=>G.SE hz.good L (rest:=rest) (p:=p) rfl s (walked':=wk') (waiting':=W') h1 h2;rw[ef]at O;have Q:(fs++[f]).Nodup:=by
   have:=(O (wk':=λe=>J6 e∈N.map (·.1)\/e∈G.B8 (G.i4 J f)) (W':=rest++(G.B8<|G.i4 J f).map λq=>(q.2,q.1)) (λe=>Iff.rfl) (λq=>by
    rw[aAL,aAk];constructor
    .rintro(h|⟨x,T,rfl⟩)
     .exact .inl h
     .exact .inr T
    .rintro(h|h)
     .exact .inl h
     .exact .inr ⟨_,h,rfl⟩))
   exact this.nd
  have j:iW J (fs++[f])+J.length<=J.length*J.length:=G.aX hz.good.solid hz.good.ord Q λg hg=>by
   rcases aAL.mp hg with z|z
   .exact L.face g z
   .rw[aAX.mp z];exact B
  rw[fQ]at j;have clen:(G.B8<|G.i4 J f).length=(G.i4 J f).length:=by unfold G.B8;simp;lia
  obtain⟨l,U,run,y,len'⟩:=GM (a0:=Sl.v (J6<|G.i5 m J)) (a1:=Sl.c (L4 [.lst (J.map vd)]) (Φ<|L4 [.lst (J.map vd)])) (a2:=Sl.c (E6 [.lst (J.map vd)]) (Φ<|E6 [.lst (J.map vd)])) (a3:=.o ((fs++[f]).map (n8 J))) (a6:=.v (J6 p)) (a7:=.v (wI f.1 f.2)) (a8:=.v (.lst ((G.i4 J f).map vd))) (G.B8<|G.i4 J f) N rest d (by lia) (by lia);refine⟨fs++[f],l,rest++(G.B8<|G.i4 J f).map (λq=>(q.2,q.1)),.v (J6 p),.v (wI f.1 f.2),.v (.lst ((G.i4 J f).map vd)),U,?_,O y (λq=>?_),?_,?_,?_⟩
  .have ap:BC 3 (BP Φ (.lst (J.map vd)) (G.i5 m J) (fs.map<|n8 J) N rest (.v (J6 p)) (.v (wI f.1 f.2)) (.v (.lst ((G.i4 J f).map vd))) d) (n8 J f)=.ok (.nx (BP Φ (.lst (J.map vd)) (G.i5 m J) ((fs++[f]).map (n8 J)) N rest (.v (J6 p)) (.v (wI f.1 f.2)) (.v (.lst ((G.i4 J f).map vd))) d)):=by show(if(fs.map<|n8 J).length<sizeLine then _ else _)=_;have h3:=G.dU hz.good.solid hz.good.ord L.face;have h3:3*fs.length<=iW J fs:=h3;rw[jk (by rw[aAi];exact aCQ (show fs.length<=4000 by lia) (by decide)),aBw];rfl
   have ca:callC Φ 1 (t5 (λρ=>(rY 6 ρ).bind λx=>T0 x (D.int 0)) U5) (BP Φ (.lst (J.map vd)) (G.i5 m J) (fs.map<|n8 J) N rest (.v (J6 p)) b c d)=.ok (.lst (J.map vd)):=by exact(yJ (m:=L4 [.lst (J.map vd)]) (ds:=[vd p.1]) rfl rfl).trans rfl
   have ct:callC Φ 2 (t5 (bL 7) U5) (BP Φ (.lst (J.map vd)) (G.i5 m J) (fs.map<|n8 J) N rest (.v (J6 p)) (.v (wI f.1 f.2)) c d)=.ok (.lst ((G.o8 f.1 f.2 J).map vd)):=by exact(yJ (m:=E6 [.lst (J.map vd)]) (ds:=[wI f.1 f.2]) rfl rfl).trans po
   have sl:ET (wI f.1 f.2) none (some 3)=.ok (vd f.1):=rfl;rw[decide_eq_false s];simp only[aGf,if_true];rw[ca,R.aa0,R.aa0,R.aa0,R.aa0,ab,R.aa0];show D6 (R.ok<|Out.nx<|BP Φ (.lst (J.map vd)) (G.i5 m J) (fs.map<|n8 J) N rest (.v (J6 p)) (.v (wI f.1 f.2)) c d) _=_;rw[A3];rw[ct];show D6 ((((R.ok<|wI f.1 f.2).bind λx=>ET x none (some 3)).bind λd=>(R.ok [D.lst ((G.o8 f.1 f.2 J).map vd)]).bind λds=>R.ok (d::ds)).bind Q1|>.bind λd=>R.ok (Out.nx<|aDF _ 8<|Sl.v d)) _=_;rw[R.aa0,sl,R.aa0,R.aa0,R.aa0,I,R.aa0];show D6 (R.ok<|Out.nx<|BP Φ (.lst (J.map vd)) (G.i5 m J) (fs.map<|n8 J) N rest (.v (J6 p)) (.v (wI f.1 f.2)) (.v (.lst ((G.i4 J f).map vd))) d) _=_;rw[A3];show D6 (BC 3 (BP Φ (.lst (J.map vd)) (G.i5 m J) (fs.map<|n8 J) N rest (.v (J6 p)) (.v (wI f.1 f.2)) (.v (.lst ((G.i4 J f).map vd))) d)<|n8 J f) _=_;rw[ap,A3];show((A6 [.lst ((G.i4 J f).map vd)]).bind kD).bind _=_;rw[pr,R.aa0];exact run
  .rw[aAL,aAk];constructor
   .rintro(h|⟨x,T,rfl⟩)
    .exact .inl h
    .exact .inr T
   .rintro(h|h)
    .exact .inl h
    .exact .inr ⟨_,h,rfl⟩
  .rw[fQ];lia
  .rw[fQ,aAC,aAi];lia
  .rw[fQ,aAC,aAi];lia
def XD (J:List G.V)(f:G.V×Int):List (G.V×Int)->List (G.V×Int)
 |[]=>[f]
 |x::Y=>if HT.lexLt (T6 (n8 J f)) (T6 (n8 J x))=true then f::x::Y else x::XD J f Y
def HN (J:List G.V)(fs:List (G.V×Int)):List (G.V×Int):=fs.foldr (XD J) []
theorem yI (J:List G.V)(f:G.V×Int):∀Y:List (G.V×Int),xR T6 (n8 J f) (Y.map (n8 J))=(XD J f Y).map (n8 J)
 |[]=>rfl
 |x::Y=>by
  unfold XD;rw[aAn,xR];split
  .rfl
  .rw[aAn,yI J f Y]
theorem fL (J:List G.V):∀fs:List (G.V×Int),qF T6 (fs.map (n8 J))=(HN J fs).map (n8 J)
 |[]=>rfl
 |f::fs=>by show xR T6 (n8 J f) (qF T6 (fs.map (n8 J)))=_;rw[fL J fs,yI];rfl
def lA (h:n8 J f=n8 J g):f=g:=AL (by rw[h])
theorem gN:∀{a b:List (G.V×Int)},a.map (n8 J)=b.map (n8 J)->a=b
 |[],[],_=>rfl
 |[],_::_,h=>by cases h
 |_::_,[],h=>by cases h
 |x::a,y::b,h=>by rw[aAn,aAn]at h;injection h with d e;rw[lA d,gN e]
def JO:f∈HN J fs↔f∈fs:=by
 have h:=(X9 T6<|fs.map<|n8 J).mem_iff (a:=n8 J f);rw[fL]at h;constructor
 .intro q;obtain⟨g,b,e⟩:=aAk.mp (h.mp<|aCp q);rw[<-lA e];exact b
 .intro q;obtain⟨g,b,e⟩:=aAk.mp (h.mpr<|aCp q);rw[<-lA e];exact b
def vD [Tabs]{J:List G.V}{fs:List (G.V×Int)}(h:fs.Nodup):((fs.map (n8 J)).map T6).Nodup:=by rw[aAV];exact sE (λa b e=>AL (J:=J) e) h
def V9 (h:rQ k l):l.Nodup:=h.imp λ{a b} q e=>by subst e;rw[TS.lex_irrefl]at q;cases q
def O8 {J:List G.V}{fs:List (G.V×Int)}(h:(fs.map (n8 J)).Nodup):fs.Nodup:=(aBm.mp h).imp λ{a b} n e=>n (by rw[e])
def yH {J:List G.V}{fs a:List (G.V×Int)}(b:eI J fs)(d:eI J a):fs=a:=by
 have e:=O8 (V9 b.2);have g:=O8 (V9 d.2);have p:fs.Perm a:=(aBO e g).mpr λf=>by rw[b.1,d.1]
 exact gN (mQ b.2 d.2 (p.map _))
def qZ (h:eI J fs):j1 J=fs:=by unfold j1;have q:∃fs,eI J fs:=⟨fs,h⟩;rw[dif_pos q];exact yH q.choose_spec h
def vF [Tabs]{J:List G.V}{fs:List (G.V×Int)}(a:fs.Nodup)(h:∀n d,(n,d)∈fs↔G.IsFace J n d):eI J (HN J fs):=by refine⟨λf=>by rw[JO];exact h f.1 f.2,?_⟩;rw[<-fL];exact lC (vD a)
def zj [Tabs]{Φ:(List D->R D)->Hp->(a5->Prop)->a5->Prop}{J:List G.V}{m:G.V}(hz:Land J m)(j:J.length<=14):
  R1 (D6 (S9 ffC (ffB Φ) 5000 (BP Φ (.lst (J.map vd)) (G.i5 m J) [] [] [G.i5 m J] .no .no .no .no)) λρ=>(((rY 3 ρ).bind sfR).bind λds=>R.ok (D.lst ds)).bind λd=>R.ok (Out.rt d))=.ok (.lst ((j1 J).map (n8 J))):=by
 refine KL (Iv:=λn ρ=>∃fs N W a b c d,ρ=BP Φ (.lst (J.map vd)) (G.i5 m J) (fs.map<|n8 J) N W a b c d/\G.LInv J (G.i5 m J) fs (λe=>J6 e∈N.map (·.1)) W/\N.length<=iW J fs/\W.length<=1+iW J fs/\W.length+(J.length*J.length-iW J fs)<n) ?_ ?_ ?_ (by rintro ρ ⟨_,_,_,_,_,_,_,_,_,_,_,h⟩;lia)
 .rintro n ρ ⟨fs,N,W,a,b,c,d,rfl,L,r,s,t⟩;by_cases g:W=[]
  .subst g;exact .inl rfl
  .refine .inr ⟨?_,?_⟩
   .have u:(0:Int)<((W.map J6).length:Int):=by have:=aDQ.mpr g;rw[aAi];lia
    show(R.ok<|D.bl<|decide ((0:Int)<((W.map J6).length:Int))).bind xU=_;rw[decide_eq_true u];rfl
   .obtain⟨v,w,x,y,z,A,B,e,C,E,k,l⟩:=VP (Φ:=Φ) (a:=a) (b:=b) (c:=c) (d:=d) hz L r s t g;exact⟨_,e,v,w,x,y,z,A,B,rfl,C,E,k,l⟩
 .refine⟨[],[],[G.i5 m J],.no,.no,.no,.no,rfl,?_,aAj _,aAj _,?_⟩
  .have:=G.CT hz.good;refine⟨this.face,this.nd,λe=>?_,this.cl,this.wt,this.ne⟩;rw[<-this.wk e];simp
  .have H:J.length*J.length<=14*14:=aCW j j;show 1+(J.length*J.length-0)<5000
   lia
 .rintro n ρ ⟨fs,N,W,a,b,c,d,rfl,L,r,s,t⟩ i;have o:W=[]:=by
   cases W with
   |nil=>rfl
   |cons p W=>have i:(R.ok<|D.bl<|decide ((0:Int)<(((p::W).map J6).length:Int))).bind xU=.ok false:=i;rw[decide_eq_true (by simp;try lia)]at i;cases i
  subst o;obtain⟨g,I⟩:=G.RD hz.good L;have O:=vF L.nd I;rw[qZ O];have few:=G.aX hz.good.solid hz.good.ord L.nd L.face;have q:=G.dU hz.good.solid hz.good.ord L.face;have H:J.length*J.length<=14*J.length:=Nat.mul_le_mul_right _ j;have Q:(fs.map<|n8 J).length<=63:=by rw[aAi];lia
  have T:sfR (.lst (fs.map<|n8 J))=.ok ((HN J fs).map (n8 J)):=by show(if _ then _ else _)=_;rw[jk ⟨aBN.mpr λd U=>by obtain⟨f,_,rfl⟩:=aAk.mp U;rfl,vD L.nd,Q⟩,fL]
  show R1 ((((R.ok<|D.lst<|fs.map<|n8 J).bind sfR).bind λds=>R.ok (D.lst ds)).bind λd=>R.ok (Out.rt d))=_;rw[R.aa0,T];rfl
theorem GS:∀{ds:List D},(∀d∈ds,∃v,d=vd v)->(ds.filterMap BN).map vd=ds
 |[],_=>rfl
 |d::ds,h=>by obtain⟨v,rfl⟩:=h d (.head _);rw[List.filterMap_cons_some (GT v),aAn,GS λd a=>h d (.tail _ a)]
section
variable [Tabs]
def OD (J:List G.V):∀d∈J.map vd,aP d=true:=λd a=>by obtain⟨v,_,rfl⟩:=aAk.mp a;rfl
def bO (J:List G.V):Y8 (J.map vd)=(f6 J).map vd:=by unfold f6;refine(GS λd a=>?_).symm;obtain⟨v,_,rfl⟩:=aAk.mp ((K0 (OD J) d).mp a);exact⟨v,rfl⟩
def o9 (J:List G.V):(f6 J).Pairwise λa b=>G.i3 (b-a):=nj (by rw[<-bO];exact V5 _)
def RV {v:G.V}{J:List G.V}:vd v∈J.map vd↔v∈J:=by rw[aAk];exact⟨by rintro⟨u,a,e⟩;rw[<-xH e];exact a,λh=>⟨v,h,rfl⟩⟩
def z8 {J:List G.V}{v:G.V}:v∈f6 J↔v∈J:=by rw[<-RV,<-bO,K0 (OD J),RV]
def jA (J:List G.V):(f6 J).Nodup:=(o9 J).imp λ{a b} h e=>by subst e;exact G.K1 h
def nC {a b:List G.V}(g:a.Pairwise λa b=>G.i3 (b-a))(i:b.Pairwise λa b=>G.i3 (b-a))(h:∀v,v∈a↔v∈b):a=b:=by refine WD (eS (CZ g) (CZ i) λd=>?_);rw[aAk,aAk];exact⟨λ⟨v,f,e⟩=>⟨v,(h v).mp f,e⟩,λ⟨v,f,e⟩=>⟨v,(h v).mpr f,e⟩⟩
def YM (h:(f6 J).length<=63):ssR (.lst (J.map vd))=.ok ((f6 J).map vd):=by show(if _ then _ else _)=_;rw[jk ⟨NO J,by rw[bO,aAi];exact h⟩,bO]
def lU (h:G.j4 a)(d:∀v,v∈a->v∈b):G.j4 b:=by obtain⟨A,f,B,g,C,i,D,j,e⟩:=h;exact⟨A,d A f,B,d B g,C,d C i,D,d D j,e⟩
def mj (h:G.j4 J):G.U1 J=3:=by
 by_cases e:G.U1 J=3
 .exact e
 .exact absurd h (G.QV e)
def CF (J:List G.V):(f6 J).length<=J.length:=G.M5 (jA J) λv a=>z8.mp a
def Z3 (f:aS 900 J)(g:G.j4 J)(d:(f6 J).length<=63):∃m r,f6 J=m::r/\Land (m::r) m:=by
 have a:G.j4 (f6 J):=lU g λv i=>z8.mpr i;cases e:f6 J with
 |nil=>rw[e]at a;obtain⟨A,j,_⟩:=a;cases j
 |cons m r=>
  refine⟨m,r,rfl,?_⟩;have b:=o9 J;rw[e]at a d b;refine⟨⟨a,b,.head _,λX k=>?_⟩,⟨λP l=>f.1 P (z8.mp (by rw[e];exact l)),by lia⟩,d,rfl⟩;rcases aAd.mp k with h|h
  .exact .inl h
  .exact .inr ((aAz.mp b).1 X h)
def WE (a:aS 1000 J)(b:G.j4 J):G0 [.lst (J.map vd)]=.ok .non:=by simp only[G0,w6];exact jk ⟨a,mj b⟩
def a0d (h:Land (m::J) m):K5 [.lst ((m::J).map vd)]=.ok (J6 (G.i5 m (m::J))):=by simp only[K5,w6];exact jk h
def jy (h:Land (m::J) m)(a:(m::J).length<=14):K7 (J6 (G.i5 m (m::J))) (L4 [.lst ((m::J).map vd)]) (E6 [.lst ((m::J).map vd)])=.ok (.lst ((j1 (m::J)).map (n8 (m::J)))):=by simp only[K7,show L4 [.lst ((m::J).map vd)] [.non]=.ok (.lst ((m::J).map vd))from rfl,w6];exact jk ⟨h,a,rfl,rfl,rfl⟩
def BR (a:aS 900 J)(b:G.j4 J)(d:(f6 J).length<=14):Q5 [.lst (J.map vd)]=.ok (.lst ((j1 (f6 J)).map (n8 (f6 J)))):=by simp only[Q5,w6];exact jk ⟨a,b,d⟩
def VS (a:aS 900 J)(b:G.j4 J)(d:(f6 J).length<=14):aZ [.lst (J.map vd)]=.ok (.lst ((D7 J).map vd)):=by simp only[aZ,w6];exact jk ⟨a,b,d⟩
omit [Tabs]in
theorem zk {α:Type}:∀l:List α,∃b:List α,b.Nodup/\∀x,x∈b↔x∈l
 |[]=>⟨[],aDl,λ_=>Iff.rfl⟩
 |a::l=>by
  obtain⟨b,d,h⟩:=zk l;by_cases f:a∈l
  .exact⟨b,d,λx=>by rw[h,aAd];exact⟨.inr,λq=>q.elim (λe=>by rw[e];exact f) id⟩⟩
  .exact⟨a::b,aAI.mpr ⟨λz=>f ((h a).mp z),d⟩,λx=>by rw[aAd,aAd,h]⟩
def J2 (h:Land J m)(o:J.length<=14):eI J (j1 J):=by
 classical
 obtain⟨fs,g,a⟩:=zk ((G.cands J).filter λf=>decide (G.IsFace J f.1 f.2));have i:∀n d,(n,d)∈fs↔G.IsFace J n d:=λn d=>by
  rw[a,aBS];constructor
  .intro q;exact of_decide_eq_true q.2
  .intro q;refine⟨?_,decide_eq_true q⟩;obtain⟨A,j,B,k,C,l,_,e⟩:=G.mK q;unfold G.cands;rw[<-e];exact aBf.mpr ⟨A,j,aBf.mpr ⟨B,k,aAk.mpr ⟨C,l,rfl⟩⟩⟩
 have b:=vF g i;rw[qZ b];exact b
theorem mZ:∀(Y:List D) (b:List (List G.V)) (B:List G.V) (x y:Sl),uY Y=some b->B.length+b.flatten.length<=3000->
  ∃g i,Q6 (gG 2 (T8 (λd ρ=>R.ok (aDF ρ 2 (Sl.v d))) (T8 (λd ρ=>R.ok (aDF ρ 3 (Sl.v d))) nJ))) (λρ=>(bL 3 ρ).bind (oj 1 ρ)) Y [a,.o (B.map vd),x,y]=.ok (.nx [a,.o ((B++b.flatten).map vd),g,i])
 |[],b,B,x,y,h,_=>by cases h;exact⟨x,y,by simp⟩
 |d::Y,b,B,x,y,h,k=>by
  unfold uY at h;split at h
  .rename_i v L f l;cases h;obtain⟨p,j,rfl,m⟩:∃p j,d=.tup [p,.lst j]/\F7 j=some v:=by
    unfold fj at f;split at f
    .exact⟨_,_,rfl,f⟩
    .cases f
   have n:=u3 m;subst n;rw[List.flatten_cons,aAC]at k;obtain⟨g,i,e⟩:=mZ Y L (B++v) (.v p) (.v (.lst (v.map vd))) l (by rw[aAC];lia);refine⟨g,i,?_⟩;have q:(B.map vd).length+(v.map vd).length<=sizeLine:=by rw[aAi,aAi];exact NQ (by lia)
   refine(V0 (ρ1:=[a,.o (B.map vd),.v p,.v (.lst (v.map vd))]) (ρ2:=[a,.o ((B++v).map vd),.v p,.v (.lst (v.map vd))]) rfl ?_).trans ?_
   .show(if(B.map vd).length+(v.map vd).length<=sizeLine then _ else _)=_;rw[jk q,aBw];rfl
   .rw[e,List.flatten_cons,aEj]
  .cases h
theorem nA (J:List G.V):∀fs:List (G.V×Int),uY (fs.map (n8 J))=some (fs.map (G.i4 J))
 |[]=>rfl
 |f::fs=>by rw[aAn,uY,nA J fs];rw[show fj (n8 J f)=some (G.i4 J f)from w6 _];rfl
def DD {J:List G.V}{fs:List (G.V×Int)}(a:(fs.flatMap (G.i4 J)).length<=3000)(b:(f6 (fs.flatMap (G.i4 J))).length<=63):K9 [.lst (fs.map (n8 J))]=.ok (.lst ((f6 (fs.flatMap (G.i4 J))).map vd)):=by have e:(fs.map<|G.i4 J).flatten=fs.flatMap (G.i4 J):=rfl;simp only[K9,nA,e];exact jk ⟨a,b⟩
def qP (d:J.Pairwise λa b=>G.i3 (b-a))(e:G.IsFace J f.1 f.2)(h:X∈G.i4 J f):X∈J:=(G.d8.mp<|(e.aa2 d).aa4 h).1
def PR (g:aS 900 J)(i:G.j4 J)(a:(f6 J).length<=14)(h:X∈D7 J):X∈J:=by obtain⟨m,r,e,L⟩:=Z3 g i (by lia);unfold D7 at h;rw[z8,aBf]at h;obtain⟨f,b,d⟩:=h;rw[e]at b d a;have j:=J2 L a;have:=qP L.good.ord ((j.1 f).mp b) d;rw[<-e,z8]at this;exact this
def uT (L:Land J m)(a:J.length<=14):((j1 J).flatMap (G.i4 J)).length<=200/\(f6 ((j1 J).flatMap (G.i4 J))).length<=14:=by
 have b:=J2 L a;have g:=O8 (V9 b.2);have few:=G.aX L.good.solid L.good.ord g λf d=>(b.1 f).mp d;have i:J.length*J.length<=14*14:=aCW a a;constructor
 .rw[List.length_flatMap]
  lia
 .refine aAs (G.M5 (jA _) λv e=>?_) a;rw[z8,aBf]at e;obtain⟨f,d,h⟩:=e;exact qP L.good.ord ((b.1 f).mp d) h
end
instance Bd.k6:Bd 1000000 20:=⟨by decide⟩
instance Bd.k7:Bd 10000000 24:=⟨by decide⟩
instance Bd.k8:Bd 100000000 27:=⟨by decide⟩
instance Bd.k63:Bd 1000003 20:=⟨by decide⟩
instance Bd.k79:Bd 7919 13:=⟨by decide⟩
instance Bd.k48:Bd 48611 16:=⟨by decide⟩
instance Bd.k12:Bd 1000000000000 40:=⟨by decide⟩
instance Bd.k20:Bd 100000000000000000000 67:=⟨by decide⟩
def O6 (h:0<b):gU (.int a) (.int b)=.ok (.int (a.fmod b)):=rN (by omega)
def F8 (h:0<b)(d:b<1000000000000000):R8 (.int a) (.int b)=.ok (.int (a.fdiv b)):=kR ⟨by omega,f7 (u5 (n:=60) (by omega) (by omega))⟩
def B4 {a b:Int}(h:0<b):0<=a.fmod b/\a.fmod b<b:=by have f:=PyProof.Rows.fdiv_fmod_facts a b;have g:=f.2.2.1 h;omega
def G1 {a b:Int}{n:Nat}(h:0<b)(d:bits b<=n):bits (a.fmod b)<=n:=bits_fmod (by omega) d
def j7 (a:r=.ok (.nx ρ))(b:R1 (F ρ)=x):R1 (D6 r F)=x:=by rw[a];exact b
def W3 (a:r=.ok (.rt d)):R1 (D6 r F)=.ok d:=by rw[a];rfl
def BS (b:L.length<=sizeLine)(h:w8 G ft fe ρ L=.ok a):(if L.length<=sizeLine then(w8 G ft fe ρ L).bind λa=>R.ok (D.lst a)else R.bad)=.ok (.lst a):=by rw[jk b,h];rfl
def nk {n:Nat}(h:n<=1000000):fZ [.int (n:Int)]=.ok ((aAQ n).map λ(k:Nat)=>D.int (k:Int)):=by
 show(if qT 0 (n:Int) 1 then R.ok (wE 0 1<|iV 0 n 1)else R.bad)=_;rw[jk ⟨by decide,by decide,by decide,by decide,by omega,by omega⟩];have e:iV 0 (n:Int) 1=n:=by
  unfold iV;split
  .simp
  .omega
 rw[e];unfold wE;congr 1;refine aCK λk _=>?_;simp
def cI (Y:List D)(k:Nat):Int:=match Y[k]? with
 |some (.int i)=>i
 |_=>0
def G3:List D->R D
 |[.lst Y,.int k]=>if 0<=k/\k<=1000 then .ok (AN (λ_=>0) Y k)else .bad
 |_=>.bad
def QL (a:iR 1048576 Y)(k:Nat)(h:k<=1000):G3 [.lst Y,.int (k:Int)]=.ok (.int (cI Y k))/\bits (cI Y k)<=1048576:=by
 have e:G3 [.lst Y,.int (k:Int)]=.ok (AN (λ_=>0) Y k):=jk ⟨by omega,by omega⟩;rw[e];unfold AN cI;rw[aBx];cases q:Y[k]? with
 |none=>exact⟨rfl,by decide⟩
 |some d=>obtain⟨i,rfl,b⟩:=a d (aAu q);exact⟨rfl,b⟩
def XU:Int:=1000000000000
def wq:Int:=2000000000001
def pK (c:Int):G.V:=⟨(c*1000003+XU).fmod wq-XU,(c*c*7919+XU).fmod wq-XU,(c*c*c+XU).fmod wq-XU⟩
def OO (c:Int):Sz 50 (pK c):=by have k:∀z:Int,bits (z.fmod wq-XU)<=50:=λz=>f7 (bits_sub (bits_fmod (by decide) (show bits wq<=45 by decide)) (show bits XU<=45 by decide));exact⟨k _,k _,k _⟩
def kH:List D->R D
 |[.int c]=>if bits c<=2000000 then .ok (vd (pK c))else .bad
 |_=>.bad
def eN (c:Int):Int×Int×Int:=
 if(c.fdiv 7).fmod 2=1 then((1+(c.fdiv 14).fmod 3)*1000000+1,(1+(c.fdiv 42).fmod 3)*10000000+3,(1+(c.fdiv 126).fmod 3)*100000000+9)
 else(1+(c.fdiv 14).fmod 3,1+(c.fdiv 42).fmod 3,1+(c.fdiv 126).fmod 3)
def vN (c:Int):(0<(eN c).1/\(eN c).1<1000000000)/\(0<(eN c).2.1/\(eN c).2.1<1000000000)/\(0<(eN c).2.2/\(eN c).2.2<1000000000):=by have d:=B4 (a:=c.fdiv 14) (b:=3) (by decide);have e:=B4 (a:=c.fdiv 42) (b:=3) (by decide);have f:=B4 (a:=c.fdiv 126) (b:=3) (by decide);unfold eN;split<;>(dsimp only;omega)
def QJ (a b c:Int):List G.V:=(aAQ 8).map λ(k:Nat)=>⟨(k:Int).fmod 2*a,((k:Int).fdiv 2).fmod 2*b,(k:Int).fdiv 4*c⟩
def BA (a b c:Int):List G.V:=[⟨a,0,0⟩,⟨0-b,0,0⟩,⟨0,b,0⟩,⟨0,0-c,0⟩,⟨0,0,c⟩,⟨0,0,0-a⟩]
def AM (a b c:Int):List G.V:=[⟨0,0,0⟩,⟨a,0,0⟩,⟨0,b,0⟩]++[⟨0+c,0,a+b⟩,⟨a+c,0,a+b⟩,⟨0+c,b,a+b⟩]
def EA (n:Nat)(a b c:Int):List G.V:=(aAQ n).map (λ(k:Nat)=>⟨(k:Int),(k:Int)*(k:Int),0⟩)++[⟨a,b,c⟩]
def CG (c e:Int):G.V:=if c.fmod 7=5\/(c.fmod 7=6/\e.fmod 2=1)then pK (e.fdiv 2)else⟨e.fmod 7-3,(e.fdiv 7).fmod 7-3,(e.fdiv 49).fmod 7-3⟩
def lS (a b c:Int):List G.V:=[⟨0,0,0⟩,⟨a,0,0⟩,⟨0,b,0⟩,⟨0,0,c⟩]
def Y5 (c:Int)(t:List Int):List G.V:=
 if c.fmod 7=0 then QJ (eN c).1 (eN c).2.1 (eN c).2.2
 else if c.fmod 7=1 then BA (eN c).1 (eN c).2.1 (eN c).2.2
 else if c.fmod 7=2 then AM (eN c).1 (eN c).2.1 (eN c).2.2
 else if c.fmod 7=3 then EA (3+(c.fdiv 378).fmod 8).toNat (eN c).1 (eN c).2.1 (eN c).2.2
 else lS (eN c).1 (eN c).2.1 (eN c).2.2++t.map (CG c)
def fB (Y:List D):List Int:=((Y.drop 4).take 5).map intD
open Classical in
def vM:List D->R D
 |[.lst Y]=>if iR 1048576 Y then .ok (.lst ((Y5 (cI Y 0) (fB Y)).map vd))else .bad
 |_=>.bad
def HY:Int:=100000000000000000000
def TZ:Int:=200000000000000000001
def GG (c:Int):Int:=if c.fmod 2=0 then 3 else 1000000
def gD (c f:Int)(P:G.V):G.V:=
 let x:=P.x+(c.fdiv 4).fmod (GG c)*P.y
 let y:=P.y-((c*c).fdiv 16).fmod (GG c)*P.z
 let z:=P.z+((c*48611).fdiv 4).fmod (GG c)*x
 let a:=if(c.fdiv 2).fmod 2=1 then z else x
 let b:=if(c.fdiv 2).fmod 2=1 then x else z
 ⟨a+(f*48611+HY).fmod TZ-HY,y+(f*f*7919+HY).fmod TZ-HY,b+(f*f*f+HY).fmod TZ-HY⟩
open Classical in
def oU:List D->R D
 |[.tup [.int a,.int b,.int c],.lst Y]=>if iR 1048576 Y/\Sz 100 ⟨a,b,c⟩then .ok (vd (gD (cI Y 1) (cI Y 2) ⟨a,b,c⟩))else .bad
 |_=>.bad
def VO (x y z:D):mJ (.tup [x,y]) (.tup [z])=.ok (.tup [x,y,z]):=rfl
def TM (Y:List D)(i j:Nat)(h:i<=j):ET (.lst Y) (some (i:Int)) (some (j:Int))=.ok (.lst ((Y.drop i).take (j-i))):=by
 show R.ok (D.lst<|cutD Y (some (i:Int))<|some (j:Int))=_;unfold cutD;rw[HT.sIx_nat,HT.sIx_nat];congr 2;by_cases a:i<=Y.length
 .rw[aFJ a];by_cases b:j<=Y.length
  .rw[aFJ b]
  .rw[aFC (by omega),aDn (by simp),aDn (by simp;omega)]
 .rw[aFC (by omega),aFC (by omega),List.drop_eq_nil_of_le (by omega:Y.length<=i)];simp
def lT (b:iR 1048576 Y):(Y.drop 4).take 5=(fB Y).map D.int/\(fB Y).length<=5/\∀e∈fB Y,bits e<=1048576:=by
 have sub:∀d∈(Y.drop 4).take 5,d∈Y:=λd a=>aDI (aEA a);refine⟨?_,by unfold fB;rw[aAi];exact List.length_take_le _ _,λe f=>?_⟩
 .unfold fB;have:∀l:List D,(∀d∈l,∃i,d=.int i)->l=(l.map intD).map D.int:=λl h=>by
   induction l with
   |nil=>rfl
   |cons d l g=>obtain⟨i,rfl⟩:=h d (.head _);rw[aAn,aAn,<-g λd a=>h d (.tail _ a)];rfl
  exact this _ λd a=>let⟨i,e,_⟩:=b d (sub d a);⟨i,e⟩
 .obtain⟨d,a,rfl⟩:=aAk.mp f;obtain⟨i,rfl,j⟩:=b d (sub d a);exact j
def RT (c:Int):∃n:Nat,3+(c.fdiv 378).fmod 8=(n:Int)/\n<=10/\(3+(c.fdiv 378).fmod 8).toNat=n:=by
 have d:=B4 (a:=c.fdiv 378) (b:=8) (by decide);generalize(c.fdiv 378).fmod 8=z at*
 exact⟨(3+z).toNat,by omega,by omega,rfl⟩
def XO (n:Nat)(h:n<=1000):((aAQ n).map λ(k:Nat)=>D.int (k:Int)).length<=sizeLine:=by rw[aAi,aDd];exact small h
def XS (n:Nat)(a b e:Int):(EA n a b e).map vd=((aAQ n).map λ(k:Nat)=>vd ⟨(k:Int),(k:Int)*(k:Int),0⟩)++[vd ⟨a,b,e⟩]:=by unfold EA;rw[aBw,aAV];rfl
def PP (c:Int):T0 (.lst [.int 3,.int 1000000]) (.int (c.fmod 2))=.ok (.int (GG c))/\0<GG c/\bits (GG c)<=20:=by
 have h:=B4 (a:=c) (b:=2) (by decide);unfold GG;by_cases d:c.fmod 2=0
 .rw[jk d,d];exact⟨rfl,by decide,by decide⟩
 .rw[ka d,show c.fmod 2=1 by omega];exact⟨rfl,by decide,by decide⟩
def lN {J:List G.V}{A B C D:G.V}(a:A∈J)(b:B∈J)(d:C∈J)(e:D∈J)(h:G.i9 (B-A) (C-A) (D-A)≠0):G.j4 J:=⟨A,a,B,b,C,d,D,e,h⟩
def JF {a b c:Int}(d:0<a)(f:0<b)(g:0<c):G.j4 (QJ a b c):=by
 have m:∀k<8,(⟨((k:Nat):Int).fmod 2*a,((k:Int).fdiv 2).fmod 2*b,(k:Int).fdiv 4*c⟩:G.V)∈QJ a b c:=λk h=>aAk.mpr ⟨k,aBA.mpr h,rfl⟩;refine lN (m 0 (by decide)) (m 1 (by decide)) (m 2 (by decide)) (m 4 (by decide)) ?_;have:∀x:Int,x=a*(b*c)->x≠0:=λx e=>by rw[e];exact Int.ne_of_gt (aAG d<|aAG f g)
 apply this;have i:((0:Nat):Int).fmod 2=0:=rfl;have j:((1:Nat):Int).fmod 2=1:=rfl;have l:((2:Nat):Int).fmod 2=0:=rfl;have n:((4:Nat):Int).fmod 2=0:=rfl;have o:(((0:Nat):Int).fdiv 2).fmod 2=0:=rfl;have p:(((1:Nat):Int).fdiv 2).fmod 2=0:=rfl;have q:(((2:Nat):Int).fdiv 2).fmod 2=1:=rfl;have r:(((4:Nat):Int).fdiv 2).fmod 2=0:=rfl;have s:((0:Nat):Int).fdiv 4=0:=rfl;have t:((1:Nat):Int).fdiv 4=0:=rfl;have u:((2:Nat):Int).fdiv 4=0:=rfl;have v:((4:Nat):Int).fdiv 4=1:=rfl;rw[i,j,l,n,o,p,q,r,s,t,u,v];simp[G.i9,G.d5]
def JA {a b c:Int}(g:0<a)(d:0<b)(f:0<c):G.j4 (BA a b c):=by
 refine lN (A:=⟨a,0,0⟩) (B:=⟨0-b,0,0⟩) (C:=⟨0,b,0⟩) (D:=⟨0,0,c⟩) (by simp[BA]) (by simp[BA]) (by simp[BA]) (by simp[BA]) ?_;have:∀x:Int,x=-((a+b)*(b*c))->x≠0:=λx e=>by
  have:=aAG (show 0<a+b by lia) (aAG d f)
  lia
 apply this;simp[G.i9,G.d5];grind
def KW {a b c:Int}(d:0<a)(f:0<b)(g:0<c):G.j4 (AM a b c):=by
 refine lN (A:=⟨0,0,0⟩) (B:=⟨a,0,0⟩) (C:=⟨0,b,0⟩) (D:=⟨0+c,0,a+b⟩) (by simp[AM]) (by simp[AM]) (by simp[AM]) (by simp[AM]) ?_;have:∀x:Int,x=a*(b*(a+b))->x≠0:=λx e=>by
  have:=aAG d (aAG f (show 0<a+b by lia))
  lia
 apply this;simp[G.i9,G.d5]
def LN {n:Nat}(f:3<=n){a b c:Int}(g:0<c):G.j4 (EA n a b c):=by
 have m:∀k<n,(⟨((k:Nat):Int),(k:Int)*(k:Int),0⟩:G.V)∈EA n a b c:=λk d=>aBu _ (aAk.mpr ⟨k,aBA.mpr d,rfl⟩);refine lN (m 0 (by lia)) (m 1 (by lia)) (m 2 (by lia)) (D:=⟨a,b,c⟩) (by simp[EA]) ?_;have:∀x:Int,x=2*c->x≠0:=λx e=>by lia
 apply this;simp[G.i9,G.d5]
 lia
def LQ {a b c:Int}(d:0<a)(f:0<b)(g:0<c){l:List G.V}:G.j4 (lS a b c++l):=by
 refine lN (A:=⟨0,0,0⟩) (B:=⟨a,0,0⟩) (C:=⟨0,b,0⟩) (D:=⟨0,0,c⟩) (by simp[lS]) (by simp[lS]) (by simp[lS]) (by simp[lS]) ?_;have:∀x:Int,x=a*(b*c)->x≠0:=λx e=>by
  have:=aAG d (aAG f g)
  lia
 apply this;simp[G.i9,G.d5]
def DT (c:Int)(t:List Int):G.j4 (Y5 c t):=by
 obtain⟨⟨d,g⟩,⟨e,h⟩,⟨c0,i⟩⟩:=vN c;unfold Y5;split
 .exact JF d e c0
 .split
  .exact JA d e c0
  .split
   .exact KW d e c0
   .split
    .obtain⟨n,j,k,f⟩:=RT c;rw[f];have:=B4 (a:=c.fdiv 378) (b:=8) (by decide);exact LN (by lia) c0
    .exact LQ d e c0
def GL (c:Int)(A:t.length<=5):(∀P∈Y5 c t,Sz 100 P)/\(Y5 c t).length<=11:=by
 obtain⟨⟨B,C⟩,⟨E,H⟩,⟨c0,I⟩⟩:=vN c;have g:bits (eN c).1<=40:=u5 (by lia) (by lia);have j:bits (eN c).2.1<=40:=u5 (by lia) (by lia);have l:bits (eN c).2.2<=40:=u5 (by lia) (by lia);generalize u:(eN c).1=a at*
 generalize v:(eN c).2.1=b at*
 generalize w:(eN c).2.2=e at*
 have d:bits 0<=100:=by decide
 have p:∀{x:Int},bits x<=40->bits (0-x)<=100:=λh=>f7 (bits_sub (n:=40) (by decide) h);unfold Y5;rw[u,v,w];split
 .refine⟨λP f=>?_,by unfold QJ;rw[aAi,aDd];decide⟩;obtain⟨k,q,rfl⟩:=aAk.mp f;have r:=aBA.mp q;exact⟨f7 (bits_mul (G1 (n:=3) (by decide) (by decide)) g),f7 (bits_mul (G1 (n:=3) (by decide) (by decide)) j),f7 (bits_mul (bits_fdiv (n:=10) (u5 (by lia) (by lia))) l)⟩
 .split
  .refine⟨λP f=>?_,by show 6<=11;decide⟩;simp only[BA,aAd,aAP,or_false]at f;rcases f with rfl|rfl|rfl|rfl|rfl|rfl
   .exact⟨f7 g,d,d⟩
   .exact⟨p j,d,d⟩
   .exact⟨d,f7 j,d⟩
   .exact⟨d,p l,d⟩
   .exact⟨d,d,f7 l⟩
   .exact⟨d,d,p g⟩
  .split
   .refine⟨λP f=>?_,by show 6<=11;decide⟩;simp only[AM,aAD,aBq,aAd,aAP,or_false]at f;have m:bits (a+b)<=100:=f7 (bits_add g j);have s:bits (a+e)<=100:=f7 (bits_add g l);have o:bits (0+e)<=100:=by rw[Int.zero_add];exact f7 l
    rcases f with rfl|rfl|rfl|rfl|rfl|rfl
    .exact⟨d,d,d⟩
    .exact⟨f7 g,d,d⟩
    .exact⟨d,f7 j,d⟩
    .exact⟨o,d,m⟩
    .exact⟨s,d,m⟩
    .exact⟨o,f7 j,m⟩
   .split
    .obtain⟨n,J,L,y⟩:=RT c;rw[y];refine⟨λP f=>?_,by unfold EA;rw[aAC,aAi,aDd];simp;lia⟩;rcases aAL.mp f with f|f
     .obtain⟨k,q,rfl⟩:=aAk.mp f;have r:=aBA.mp q;have bk:bits (k:Int)<=10:=u5 (by lia) (by lia);exact⟨f7 bk,f7 (bits_mul bk bk),d⟩
     .rw[aAX.mp f];exact⟨f7 g,f7 j,f7 l⟩
    .refine⟨λP f=>?_,by rw[aAC,aAi];simp[lS];lia⟩;rcases aAL.mp f with f|f
     .simp only[lS,aAd,aAP,or_false]at f;rcases f with rfl|rfl|rfl|rfl
      .exact⟨d,d,d⟩
      .exact⟨f7 g,d,d⟩
      .exact⟨d,f7 j,d⟩
      .exact⟨d,d,f7 l⟩
     .obtain⟨i,N,rfl⟩:=aAk.mp f;unfold CG;split
      .exact(OO _).mono
      .have k7:∀z:Int,bits (z.fmod 7-3)<=100:=λz=>f7 (bits_sub (n:=10) (G1 (by decide) (by decide)) (by decide));exact⟨k7 _,k7 _,k7 _⟩
def nQ (s t u:Int)(a:Bool)(P:G.V):G.V:=
 let x:=P.x+s*P.y
 let y:=P.y-t*P.z
 let z:=P.z+u*x
 if a then⟨z,y,x⟩else⟨x,y,z⟩
def GH (k f:Int):∃(s t u:Int) (g:Bool) (o:G.V),(∀P,gD k f P=nQ s t u g P+o)/\bits s<=20/\bits t<=20/\bits u<=20/\Sz 80 o:=by
 obtain⟨_,a,b⟩:=PP k;have d:∀z:Int,bits (z.fmod TZ-HY)<=80:=λz=>f7 (bits_sub (n:=70) (G1 (by decide) (by decide)) (by decide));refine⟨(k.fdiv 4).fmod (GG k),((k*k).fdiv 16).fmod (GG k),((k*48611).fdiv 4).fmod (GG k),decide ((k.fdiv 2).fmod 2=1),⟨(f*48611+HY).fmod TZ-HY,(f*f*7919+HY).fmod TZ-HY,(f*f*f+HY).fmod TZ-HY⟩,λP=>?_,G1 a b,G1 a b,G1 a b,⟨d _,d _,d _⟩⟩;unfold gD nQ;by_cases e:(k.fdiv 2).fmod 2=1
 .simp only[e,if_true,decide_true];exact G.ext (by simp;lia) (by simp;lia) (by simp;lia)
 .simp only[e,if_false,decide_false];exact G.ext (by simp;lia) (by simp;lia) (by simp;lia)
def wG (s t u:Int)(a:Bool)(P Q:G.V):nQ s t u a P-nQ s t u a Q=nQ s t u a (P-Q):=by
 unfold nQ;cases a
 .exact G.ext (by simp;grind) (by simp;grind) (by simp;grind)
 .exact G.ext (by simp;grind) (by simp;grind) (by simp;grind)
def UD (s t u:Int)(a:Bool)(A B C:G.V):G.i9 (nQ s t u a A) (nQ s t u a B) (nQ s t u a C)=(if a then-1 else 1)*G.i9 A B C:=by
 unfold nQ;cases a
 .simp[G.i9,G.d5];grind
 .simp[G.i9,G.d5];grind
def mG (P Q o:G.V):P+o-(Q+o)=P-Q:=G.ext (by simp;lia) (by simp;lia) (by simp;lia)
def JP (k f:Int){J:List G.V}(h:G.j4 J):G.j4 (J.map (gD k f)):=by
 obtain⟨s,t,u,b,o,e,_⟩:=GH k f;obtain⟨A,d,B,g,C,i,D,j,a⟩:=h;have m:∀X∈J,gD k f X∈J.map (gD k f):=λX l=>aCp l;refine lN (m A d) (m B g) (m C i) (m D j) ?_;rw[e,e,e,e,mG,mG,mG,wG,wG,wG,UD];cases b
 .simpa using a
 .simpa using a
def uj (k f:Int)(h:Sz 100 P):Sz 900 (gD k f P):=by
 obtain⟨s,t,u,b,o,e,i,j,l,m⟩:=GH k f;rw[e];have p:Sz 400 (nQ s t u b P):=by
  unfold nQ;have a:bits (P.x+s*P.y)<=200:=f7 (bits_add (n:=120) (f7 h.1)<|f7<|bits_mul i h.2.1);have d:bits (P.y-t*P.z)<=200:=f7 (bits_sub (n:=120) (f7 h.2.1)<|f7<|bits_mul j h.2.2);have g:bits (P.z+u*(P.x+s*P.y))<=300:=f7 (bits_add (n:=220) (f7 h.2.2)<|f7<|bits_mul l a);dsimp only;cases b
  .exact⟨f7 a,f7 d,f7 g⟩
  .exact⟨f7 g,f7 d,f7 a⟩
 exact(p.add m.mono).mono
def MS (c k f:Int)(a:t.length<=5):aS 900 ((Y5 c t).map (gD k f))/\G.j4 ((Y5 c t).map (gD k f))/\((Y5 c t).map (gD k f)).length<=11:=by
 obtain⟨b,d⟩:=GL c a;have e:((Y5 c t).map (gD k f)).length<=11:=by rw[aAi];exact d
 refine⟨⟨λP g=>?_,by lia⟩,JP k f (DT c t),e⟩;obtain⟨Q,h,rfl⟩:=aAk.mp g;exact uj k f (b Q h)
section
variable [Tabs]
def qJ {J:List G.V}(h:aS 900 J)(i:G.j4 J)(d:(f6 J).length<=14):∀X,X∈D7 J↔∃f:G.V×Int,G.IsFace (f6 J) f.1 f.2/\X∈G.i4 (f6 J) f:=λX=>by obtain⟨m,r,e,L⟩:=Z3 h i (by lia);unfold D7;rw[z8,aBf];rw[e]at d⊢;have g:=J2 L d;exact⟨by rintro⟨f,a,b⟩;exact⟨f,(g.1 f).mp a,b⟩,by rintro⟨f,a,b⟩;exact⟨f,(g.1 f).mpr a,b⟩⟩
def nH {l:List G.V}(h:l.Pairwise λa b=>G.i3 (b-a)):f6 l=l:=nC (o9 _) h λv=>z8
def IQ {J:List G.V}(k:aS 900 J)(l:G.j4 J)(o:(f6 J).length<=14):G.j4 (D7 J)/\aS 900 (D7 J)/\f6 (D7 J)=D7 J/\(D7 J).length<=14/\D7 (D7 J)=D7 J/\∀n d,G.IsFace (D7 J) n d↔G.IsFace (f6 J) n d:=by
 have q:=qJ k l o;have h:(D7 J).Pairwise λa b=>G.i3 (b-a):=o9 _;have p:G.j4 (f6 J):=lU l λv i=>z8.mpr i;have s:=o9 J;obtain⟨m,r,e,L⟩:=Z3 k l (by lia);have t:eI (f6 J) (j1<|f6 J):=by have g:=o;rw[e]at g⊢;exact J2 L g
 have y:(D7 J).length<=14:=by have g:=o;unfold D7;rw[e]at g⊢;exact(uT L g).2
 have B:j1 (f6 J)≠[]:=λz=>by
  obtain⟨A,N,_⟩:=p;have:∃f:G.V×Int,G.IsFace (f6 J) f.1 f.2:=by have j:=L;rw[<-e]at j;have:=G.iI j.good.solid j.good.ord j.good.mem j.good.least;exact⟨_,this⟩
  obtain⟨f,u⟩:=this;have:=(t.1 f).mpr u;rw[z]at this;cases this
 obtain⟨E,w⟩:=aFg _ B;have C:=G.HR p s h q ((t.1 E).mp w);have sz:aS 900 (D7 J):=⟨λP H=>k.1 P (PR k l o H),by lia⟩;have x:=nH h;refine⟨C,sz,x,y,?_,λn d=>G.UL p s h q _ B t.1⟩;refine nC (o9 _) h λv=>?_;have I:=qJ sz C (by rw[x];exact y) v;show v∈D7 (D7 J)↔_;rw[I,x];constructor
 .rintro⟨f,u,i⟩;exact qP h u i
 .exactλi=>G.MJ p s h q i
end
end M
namespace DL
open PySem PySem.Spec L2
def WO {K:Params->kc}{P c:a5}{tb:List (Pos×Str)}{a:List a5}(b:P∈a)(d:∀w:be,PySem.W.codeHdIn (K w.params) c P=true):∀p∈[(P,tb)],p.1∈a/\∃c,∀w:be,PySem.W.codeHdIn (K w.params) c p.1=true:=λp e=>by rw[aAX.mp e];exact⟨b,c,d⟩
def Got (K:kc)(x:Str)(st:bM):Prop:=∃f a,PySem.W.nsIn K bb x=some (some<|.ref f)/\Fun K x x st f a
def VU (K:kc)(x:Str)(st:bM)(b:a5):Prop:=∃f d a,PySem.W.nsIn K bb x=some (some<|.ref f)/\PySem.W.codeHdIn K a b=true/\FunC K x x st f d a
def bF (K:kc)(mg:cV)(x:Str)(st:bM):Prop:=∃f a,mg x=some (.ref f)/\Fun K x x st f a
def a1c (K:kc)(mg:cV)(x:Str)(st:bM)(b:a5):Prop:=∃f d a,mg x=some (.ref f)/\PySem.W.codeHdIn K a b=true/\FunC K x x st f d a
section
variable{kV doc pm T ct:ao}
def ZV (a:PySem.W.nsIn K bb x=some (some (.ref f)))(l:K.lookup f=some ⟨d,e,.func (PySem.W.fnOf x x (C8 st) (t0 st) (c6 st) .none kV doc pm g T ct),b⟩)
 (c:PySem.W.codeIn K T x=true) (k:PySem.W.keepIn K (.ref f)=true):Got K x st:=⟨f,_,a,RU l c k⟩
def WQ (a:PySem.W.nsIn K bb x=some (some (.ref f)))(l:K.lookup f=some ⟨g,h,.func (PySem.W.fnOf x x (C8 st) (t0 st) (c6 st) .none kV doc pm i T ct),b⟩)
 (c:PySem.W.codeIn K T x=true) (k:PySem.W.keepIn K (.ref f)=true) (e:T=.ref cd) (n:PySem.W.codeHdIn K cd d=true):VU K x st d:=⟨f,_,cd,a,n,XR l e c k⟩
def Got.def (g:Got K x st)(X:K.In h)(G:h.Ns bb mg):bF K mg x st:=let⟨f,d,a,b⟩:=g;⟨f,d,PySem.W.mg_of X G a,b⟩
def VU.def (g:VU K x st d)(X:K.In h)(G:h.Ns bb mg):a1c K mg x st d:=let⟨f,e,i,a,b⟩:=g;⟨f,e,i,PySem.W.mg_of X G a,b⟩
def G7 (a:sc.kind=.function:=by rfl)(b:sc.isCoroutine=false:=by rfl)(d:sc.isGenerator=false:=by rfl)(e:N.Nodup:=by decide+kernel)(f:N.take ps.length=ps:=by rfl)(g:∀x∈ps,sc.names.lookup x=some .local\/sc.names.lookup x=some .cell:=by decide+kernel)(h:∀y∈sc.names,y.2≠.free:=by decide+kernel):FnScope N ps sc:=⟨a,b,d,e,f,g,h⟩
variable [Tabs]
def n6 (g:bF K mg x st)(S:FnScope N ps (c6 st))(i:∀{f:a5} {T:ao} {A:bc} {a:List Env} {s:aA} {H:Hp} {E:XK},Room k (A.deeper (aBM x (c6 st) s.heap.objs.size f T))->(A.deeper (aBM x (c6 st) s.heap.objs.size f T)).units+64<cq->(A.deeper (aBM x (c6 st) s.heap.objs.size f T)).units+130<cq->N.Nodup->
  bE (LZ P w K mg base N x (c6 st) f T A a s H E) (t0 st) F) (j:∀ds d,ds.length=ps.length->m ds=.ok d->R1 (F (j6 N ds))=.ok d) (l:∀(kV doc pm:ao) (n:Option a5) (T ct:ao) (b:List ao),b.length=ps.length->bindArgs (PySem.W.fnOf x x (C8 st) (t0 st) (c6 st) .none kV doc pm n T ct) ⟨b,[]⟩=pure (ps.zip b):=by
  intro _ _ _ _ _ _ b o;rcases b with _|⟨_,_|⟨_,_|⟨_,_|⟨_,_|⟨_,_|⟨_,_|⟨_,_⟩⟩⟩⟩⟩⟩⟩<;>first|rfl|exact absurd o (by simp)):w9 P w K mg base (k+1) x ps.length m:=by
 obtain⟨f,q,p,h⟩:=g;exact bj h S (h.binds l) p (λT A a s H E e=>i e e.units e.ad7 S.nd) j
end
end DL
namespace DL
open PySem PySem.Spec L2
open PyProof.Rows hiding St st
variable [Tabs]
section
def RSF (X:Cx)(d:Hp)(e:a5->Prop)(r:R (List D))(D:Ends):Prop:=match r with
 |.ok f=>∀L b a,Same d b->b a=none->Reps X.K b e L f->D.rt (.ref a) (upd b a<|.lst L)
 |_=>False
def tSF (X:Cx)(a:Hp)(b:a5->Prop)(F:Ev->R (List D)):TS:=λD σ H=>∃O ρ,EnvOk X.K a b H O σ ρ/\U6 X.K O/\RSF X a b (F ρ) D
def a0t (X:Cx)(st:List bM)(F:Ev->R (List D)):Prop:=∀a b,tL X st (tSF X a b F)
def NY (d:PF X e f):a0t X [.Return (some e) g] f:=λh i=>oV (oM<|wL d)<|by rintro D σ H ⟨O,ρ,E,m,q⟩;exact⟨h,i,O,ρ,E,by
 cases b:f ρ with
 |ok n=>rw[b]at q;exactλL j a k l r=>q L j a (E.same.trans k) l (r.sub E.sub)
 |ex x=>rw[b]at q;exact q.elim
 |bad=>rw[b]at q;exact q⟩
def spW (K:kc)(n:Nat)(m:List D->R D):Sp:=λL H Q _=>∃O d e,Reps K H O L d/\d.length=n/\(∀a,O a->∃o,H a=some o/\Mt o)/\Tb H/\U6 K O/\m d=.ok (.lst e)/\∀f b a,Same H b->b a=none->Reps K b O f e->Q (.ref a) (upd b a<|.lst f)
def a1g (r:R (List D)):R D:=r.bind λa=>.ok (.lst a)
def GB (h:a1g r=.ok d):∃a,r=.ok a/\d=.lst a:=by
 cases r with
 |ok a=>cases h;exact⟨a,rfl,rfl⟩
 |ex x=>cases h
 |bad=>cases h
def unl (r:R D):R (List D):=match r with
 |.ok (.lst a)=>.ok a
 |.ex x=>.ex x
 |_=>.bad
def EH (P:ba)(w:be)(K:kc)(mg:cV)(base:bt)(k:Nat)(x:Str)(n:Nat)(m:List D->R D):Prop:=
 (∃g a b,FnOk P w K mg base sG k g a b (spW K n m)/\Binds K a b []/\PySem.W.keepIn K (.ref g)=true/\mg x=some (.ref g))/\∀e d,e.length=n->m e=.ok d->∃f,d=.lst f
def EH.cal {K:kc}(c:EH P w K mg base k x n m):w9 P w K mg base k x n m:=by obtain⟨⟨g,p,s,F,b,t,e⟩,u⟩:=c;refine⟨g,p,s,F.imp λL H Q E z=>?_,b,t,e⟩;obtain⟨O,h,d,r,i,j,v,y,e,q⟩:=z;obtain⟨A,rfl⟩:=u h d i e;refine⟨O,h,A,r,i,j,v,y,e,λI J a l f B=>q _ _ (l.trans<|l9 f _) (.lst (P4.of j8) (λz=>?_) (B.same<|l9 f _))⟩;obtain⟨o,C,_⟩:=j a z;rw[l _ _ C]at f;cases f
def OA {K:kc}{st:bM}(g:bF K mg x st)(S:FnScope N ps (c6 st))(t:∀{f:a5} {T:ao} {A:bc} {a:List Env} {s:aA} {H:Hp} {E:XK},Room k (A.deeper (aBM x (c6 st) s.heap.objs.size f T))->(A.deeper (aBM x (c6 st) s.heap.objs.size f T)).units+64<cq->(A.deeper (aBM x (c6 st) s.heap.objs.size f T)).units+130<cq->N.Nodup->
   a0t (LZ P w K mg base N x (c6 st) f T A a s H E) (t0 st) F) (o:∀ds d,ds.length=ps.length->m ds=.ok d->a1g (F (j6 N ds))=.ok d) (u:∀(kV j v:ao) (y:Option a5) (T ct:ao) (h:List ao),h.length=ps.length->bindArgs (PySem.W.fnOf x x (C8 st) (t0 st) (c6 st) .none kV j v y T ct) ⟨h,[]⟩=pure (ps.zip h):=by
   intro _ _ _ _ _ _ h b;rcases h with _|⟨_,_|⟨_,_|⟨_,_|⟨_,_|⟨_,_|⟨_,_|⟨_,_⟩⟩⟩⟩⟩⟩⟩<;>first|rfl|exact absurd b (by simp)):EH P w K mg base (k+1) x ps.length m:=by
 obtain⟨f,B,C,l⟩:=g;refine⟨⟨f,B,ps,l.ok S (λL H Q E z=>?_) (λT A a s H L Q E n z=>?_),l.binds u,l.kp,C⟩,λds d b e=>?_⟩
 .obtain⟨O,ds,d,r,b,_⟩:=z;rw[r.length];exact b
 .obtain⟨O,ds,d,r,b,I,J,U,e,q⟩:=z;refine⟨_,t (T:=T) n n.units n.ad7 S.nd H O,O,_,fJ r I J,U,?_⟩;obtain⟨p,Y,i⟩:=GB (o ds _ b e);injection i with i;subst i;rw[Y];exact q
 .obtain⟨p,_,i⟩:=GB (o ds d b e);exact⟨p,i⟩
def aq (c:EH X.prog X.w X.K X.mg X.base k x n m)(v:Room k X.A)(l:IV X (e::es) f)(r:zR f n)(y:Gl X x:=by rfl)(B:(x==kd)=false:=by decide)(C:az (e::es) X.env=(false,cv e X.env)::az es X.env:=by rfl)(J:(cp o (az es X.env)).any (·.1)=false:=by rfl):
  PF X (.Call (.Name x p) (e::es) [] o) (λρ=>(f ρ).bind λds=>unl (m ds)):=by
 obtain⟨⟨g,gd,ps,F,b,N,em⟩,T⟩:=c;refine sM λh s σ H Q I U Y O ρ E q=>?_;refine xM F v y em N b .nil SJ l B C J h s σ H Q I ⟨U,Y,O,ρ,E,?_⟩;dsimp only at q;cases i:f ρ with
 |ex z=>rw[i]at q;exact q
 |bad=>rw[i]at q;exact q
 |ok ds=>
  rw[i,R.aa0]at q;intro L H1 t r1;rw[aBk];have u:=E.grow t;cases j:m ds with
  |ex z=>rw[j]at q;exact(q H<|Same.refl _).elim
  |bad=>rw[j]at q;exact aAh q
  |ok d=>rw[j]at q;obtain⟨rs,rfl⟩:=T ds d (r ρ ds i) j;exact⟨O,ds,rs,r1,r ρ ds i,u.trk,u.tab,lQ I O E.trk,j,λws H2 a s2 l r2=>q ws H2 a (t.trans s2) l r2⟩
def VC (i:Nat)(h:CA X e f):CA X e (λρ=>f (FQ i ρ)):=ptI h λσ H Q a b O ρ E q=>by
 dsimp only at q;unfold FQ at q;cases e:ρ[i]? with
 |none=>rw[e]at q;exact⟨a,b,O,ρ,E,q⟩
 |some d=>
  rw[e]at q;cases d with
  |o Y=>obtain⟨g,j,_⟩:=E.disown e;exact⟨a,b,g,_,j,q⟩
  |_=>exact⟨a,b,O,ρ,E,q⟩
end
section
def a0m (i:Nat)(ρ:Ev):R Out:=match ρ[i]? with
 |some (.o _)=>.ok (.nx (ρ.set i<|.o []))
 |_=>.bad
def JB (i:Nat)(j:X.N[i]?=some x:=by rfl)(k:yD X.env.scope x:=by first|exact aCw rfl|exact aBK (aCw rfl)|exact aBK (aBK rfl))(l:(x==kd)=false:=by decide)(m:(x==km)=false:=by decide)(n:eY (.Name x p) "clear" X.env (cv (.Name x p) X.env)=cv (.Name x p) X.env:=by rfl)(r:(b.endLine==f.line)=true:=by rfl)(s:dA (.Call (.Attribute (.Name x p) "clear" b) [] [] f) none e.line X.env=pure false:=by rfl):
  oG X (.Expr (.Call (.Attribute (.Name x p) "clear" b) [] [] f) e) (a0m i):=λy z=>
 BY (jP (FW PySem.F.plainAttrs_list PySem.F.slot_list_clear PySem.F.type_list_clear PX (M1 j k l m) n r) s) λD σ H O ρ E t q=>by
 unfold a0m at q;cases d:ρ[i]? with
 |none=>rw[d]at q;exact aAh q
 |some u=>
  rw[d]at q;cases u with
  |o Y=>dsimp only at q;obtain⟨a,L,g,A,B,h,C⟩:=E.own i Y d;refine⟨_,g,.inl ⟨rfl,L,P4.of h⟩,a,L,rfl,rfl,h,?_⟩;obtain⟨v,w⟩:=E.write d g (.nil:Reps X.K H O [] []);exact q σ _ O v t w
  |_=>exact aAh q
mutual
theorem NK {K:kc}{H:Hp}{O a:a5->Prop}:∀{v:V} {d:D},oE d=true->Rep K H O v d->Rep K H a v d
 |_,_,_,.int=>.int
 |_,_,h,.tup t r=>.tup t (uB h r)
 |_,_,h,.non=>(by cases h)
 |_,_,h,.bl=>(by cases h)
 |_,_,h,.str=>(by cases h)
 |_,_,h,.lst _ _ _=>(by cases h)
 |_,_,h,.dct _ _ _=>(by cases h)
theorem uB {K:kc}{H:Hp}{O a:a5->Prop}:∀{L:List V} {ds:List D},cU ds=true->Reps K H O L ds->Reps K H a L ds
 |_,_,_,.nil=>.nil
 |_,_,h,.cons r t=>.cons (NK (aFW.mp h).1 r) (uB (aFW.mp h).2 t)
end
end
def cz (K:kc)(H:Hp)(O:a5->Prop)(d:Hp)(a:a5)(N:List (D×D)):Prop:=Same H d/\H a=none/\∃o e,d a=some (.ext λh=>h.get? a=some o)/\KQ a o e/\jW K d (λb=>O b\/b=a) e N/\(N.map (·.1)).Nodup
abbrev RK:=R (List<|D×D)
def RSK (X:Cx)(d:Hp)(e:a5->Prop)(r:RK)(D:Ends):Prop:=match r with
 |.ok N=>∀b a,cz X.K d e b a N->D.rt (.ref a) b
 |_=>False
def tSK (X:Cx)(a:Hp)(b:a5->Prop)(F:Ev->RK):TS:=λD σ H=>∃O ρ,EnvOk X.K a b H O σ ρ/\U6 X.K O/\RSK X a b (F ρ) D
def UT (X:Cx)(st:List bM)(F:Ev->RK):Prop:=∀a b,tL X st (tSK X a b F)
def BB (r:R Out)(F:Ev->RK):RK:=match r with
 |.ok (.nx ρ)=>F ρ
 |_=>.bad
def tY {st:bM}{rest:List bM}(f:oG X st F)(g:UT X rest G):UT X (st::rest) (λρ=>BB (F ρ) G):=λd e=>oV (AS (f d e)<|g d e)<|by rintro D σ H ⟨O,ρ,E,h,q⟩;exact⟨O,ρ,E,h,by
 dsimp only at q;cases a:F ρ with
 |ok o=>
  rw[a]at q;cases o with
  |nx b=>exactλm n i j l k=>⟨i,b,j,l,q⟩
  |_=>exact aAh q
 |ex x=>rw[a]at q;exact aAh q
 |bad=>rw[a]at q;exact aAh q⟩
def zw (i:Nat)(ρ:Ev):RK:=match ρ[i]? with
 |some (.d N)=>.ok N
 |_=>.bad
def OE (i:Nat){x:Str}{p f:Pos}(h:X.N[i]?=some x:=by rfl)(j:yD X.env.scope x:=by first|exact aCw rfl|exact aBK (aCw rfl)|exact aBK (aBK rfl))(k:(x==kd)=false:=by decide)(l:(x==km)=false:=by decide):UT X [.Return (some (.Name x p)) f] (zw i):=λB C=>oV (oM<|wL<|M1 h j k l)<|by
 rintro D σ H ⟨O,ρ,E,I,q⟩;unfold zw at q;cases g:ρ[i]? with
 |none=>rw[g]at q;exact aAh q
 |some m=>
  rw[g]at q;cases m with
  |d N=>obtain⟨a,o,n,s,t,u,v,w,y,A⟩:=E.slot i _ g;exact⟨_,s,q H a ⟨E.same,u,o,n,v,w,y.mono λr=>r.sub λb z=>z.elim (E.sub b) λe=>by rw[e];exact t,A⟩⟩
  |_=>exact aAh q
def spK (K:kc)(n:Nat)(m:List D->RK):Sp:=λL H Q _=>∃O b N,Reps K H O L b/\b.length=n/\(∀a,O a->∃o,H a=some o/\Mt o)/\Tb H/\U6 K O/\m b=.ok N/\∀d a,cz K H O d a N->Q (.ref a) d
def OV (P:ba)(w:be)(K:kc)(mg:cV)(base:bt)(k:Nat)(x:Str)(n:Nat)(m:List D->RK):Prop:=
 ∃g a b,FnOk P w K mg base sG k g a b (spK K n m)/\Binds K a b []/\PySem.W.keepIn K (.ref g)=true/\mg x=some (.ref g)
def OW {K:kc}{st:bM}(g:bF K mg x st)(S:FnScope N ps (c6 st))(n:∀{f:a5} {T:ao} {A:bc} {a:List Env} {s:aA} {H:Hp} {E:XK},Room k (A.deeper (aBM x (c6 st) s.heap.objs.size f T))->(A.deeper (aBM x (c6 st) s.heap.objs.size f T)).units+64<cq->(A.deeper (aBM x (c6 st) s.heap.objs.size f T)).units+130<cq->N.Nodup->
   UT (LZ P w K mg base N x (c6 st) f T A a s H E) (t0 st) F) (o:∀ds d,ds.length=ps.length->m ds=.ok d->F (j6 N ds)=.ok d) (p:∀(kV i t:ao) (u:Option a5) (T ct:ao) (b:List ao),b.length=ps.length->bindArgs (PySem.W.fnOf x x (C8 st) (t0 st) (c6 st) .none kV i t u T ct) ⟨b,[]⟩=pure (ps.zip b):=by
   intro _ _ _ _ _ _ b h;rcases b with _|⟨_,_|⟨_,_|⟨_,_|⟨_,_|⟨_,_|⟨_,_|⟨_,_⟩⟩⟩⟩⟩⟩⟩<;>first|rfl|exact absurd h (by simp)):OV P w K mg base (k+1) x ps.length m:=by
 obtain⟨f,v,y,j⟩:=g;refine⟨f,v,ps,j.ok S (λL H Q E z=>?_) (λT A a s H L Q E l z=>?_),j.binds p,j.kp,y⟩
 .obtain⟨O,ds,d,r,h,_⟩:=z;rw[r.length];exact h
 .obtain⟨O,ds,d,r,h,B,C,I,e,q⟩:=z;refine⟨_,n (T:=T) l l.units l.ad7 S.nd H O,O,_,fJ r B C,I,?_⟩;rw[o ds _ h e];exact q
def okK (r:RK):RK:=match r with
 |.ok k=>.ok k
 |_=>.bad
def NP (i:Nat)(c:OV X.prog X.w X.K X.mg X.base k x n m)(hr:Room k X.A)(ha:IV X (e::es) f)(hl:zR f n)(hN:X.N.Nodup)(hi:X.N[i]?=some y:=by rfl)(hx:Loc X.env.scope y:=by first|exact aCw rfl|exact aBK rfl)(hg:Gl X x:=by rfl)(gh:(x==kd)=false:=by decide)(he:az (e::es) X.env=(false,cv e X.env)::az es X.env:=by rfl)(br:(cp r (az es X.env)).any (·.1)=false:=by rfl)
  (hs:dA (.Call (.Name x p) (e::es) [] r) (some (.Name y t)) B.line X.env=pure false:=by rfl) (hf:X.fn y=true\/X.env.scope.names.lookup y=some .local:=by first|exact .inl rfl|exact .inr rfl|assumption):
  oG X (.Assign [.Name y t] (.Call (.Name x p) (e::es) [] r) B) (λρ=>(f ρ).bind λds=>(okK (m ds)).bind λN=>.ok (.nx (ρ.set i (.d N)))):=by
 obtain⟨g,gd,ps,F,b,kp,em⟩:=c;rintro H9 O0 C s σ H D I ⟨O,ρ,E,fk,q⟩;dsimp only at q;refine aEi (G5 (xM F hr hg em kp b .nil SJ ha gh he br C s σ H (λv j=>∃J a N,v=.ref a/\Same H J/\cz X.K J O j a N/\RS X H9 O0 H O (.ok (.nx (ρ.set i<|.d N))) D) I ⟨H9,O0,O,ρ,E,?_⟩) λv Y z9=>?_) hs
 .cases l:f ρ with
  |ex z=>rw[l]at q;exactλH' s=>q H' (E.same.trans s)
  |bad=>rw[l]at q;exact q
  |ok ds=>
   rw[l,R.aa0]at q;intro L J Y r1;rw[aBk];have E1:=E.grow Y;cases Q:m ds with
   |ex z=>rw[Q]at q;exact aAh q
   |bad=>rw[Q]at q;exact aAh q
   |ok N=>rw[Q]at q;exact⟨O,ds,N,r1,hl ρ ds l,E1.trk,E1.tab,lQ I O E.trk,Q,λj a nw=>⟨J,a,N,rfl,Y,nw,q⟩⟩
 .obtain⟨y',j,I2,r2,J,a,N,l,T,⟨sm,U,o,es',h4,h5,h6,h7⟩,q'⟩:=z9;subst l;refine M8 I2 hN hi hx r2 (λs3 I3=>⟨_,_,I3,?_⟩) hf;have hk:=HZ I2 h4;have hnn:O9 j a a=none:=rE _ _;have eH:upd (O9 j a) a (.ext λh=>h.get? a=some o)=j:=uL h4;have s2:Same H (O9 j a):=λb u q=>by
   have nb:b≠a:=λz=>by rw[z]at q;rw[T _ _ q]at U;cases U
   rw[N9 nb];exact sm _ _ (T _ _ q)
  have E2:=(E.grow s2).ad2 (u:=.ext λh=>h.get? a=some o) (sl:=.d N) i hnn hk trivial λh0=>⟨a,o,es',rfl,.inr rfl,h0,by rw[eH];exact h4,h5,by rw[eH];exact h6,h7⟩;rw[eH]at E2;exact q' _ _ _ E2 (lQ I2 _ E2.trk) λb u hb n=>⟨sm _ _ (T _ _ hb),λz=>z.elim n λe=>by rw[e]at hb;rw[T _ _ hb]at U;cases U⟩
end DL
namespace DL
open PySem PySem.Spec PySem.Calls PySem.W Builtin Builtin.ObjectAttr Builtin.Getset_descriptor
open PyProof.Rows hiding St
section
variable{prog:ba} {w:be} {A:bc} {E:E8} {K:Frag} {h:bt} {g:Array GenState} {d:Drawn} {t:Nat} {os:OsState} {a C:a5} {o:Obj}
end
end DL
namespace DL
open PySem PySem.Spec L2
open PyProof.Rows hiding St
variable [Tabs]
section
variable{X:Cx} {pos:Pos}
end
section
variable{X:Cx} {pins:R0} {σ:St} {H H':Hp} {s s':aA}
end
section
variable{K:kc} {H9 H:Hp} {O0 O:a5->Prop} {σ:St} {ρ:Ev}
end
section
variable{X:Cx} {pos rh np:Pos}
end
section
variable{X:Cx} {pos:Pos}
end
section
variable{X:Cx} {pos:Pos}
end
section
end
section
end
section
abbrev BZ (X:Cx)(e:cf)(es:List cf):Prop:=az (e::es) X.env=(false,cv e X.env)::az es X.env
def o5 {i:Int}{j}:PB X (.Constant (.int i) j a) (YJ (.int i)):=c8.pb
def DX {e1:cf}{b:Ev->R D}(c:w9 X.prog X.w X.K X.mg X.base k x 1 m)(e:Room f X.A)(a1:PD X e1 b)(g:k<=f:=by decide)(d:BZ X e1 []:=by rfl)(h:Gl X x:=by rfl)(i:(x==kd)=false:=by decide)(j:(cp a (az [] X.env)).any (·.1)=false:=by rfl):
 PD X (.Call (.Name x p) [e1] [] a) (λρ=>((t5 b U5) ρ).bind m):=xV c (e.mono g) (i6 a1 o7 d) (x4 S6) h i d j
def P7 {e1 e2:cf}{b d:Ev->R D}(c:w9 X.prog X.w X.K X.mg X.base k x 2 m)(f:Room g X.A)(a1:PD X e1 b)(a2:PD X e2 d)(h:k<=g:=by decide)(e:BZ X e1 [e2]:=by rfl)(i:BZ X e2 []:=by rfl)(j:Gl X x:=by rfl)(l:(x==kd)=false:=by decide)(n:(cp a (az [e2] X.env)).any (·.1)=false:=by rfl):
 PD X (.Call (.Name x p) [e1,e2] [] a) (λρ=>((t5 b (t5 d U5)) ρ).bind m):=xV c (f.mono h) (i6 a1 (i6 a2 o7 i) e) (x4<|x4 S6) j l e n
def pc3 {e1 e2 a:cf}{d e f:Ev->R D}(c:w9 X.prog X.w X.K X.mg X.base k x 3 m)(h:Room i X.A)(a1:PD X e1 d)(a2:PD X e2 e)(a3:PD X a f)(j:k<=i:=by decide)(g:BZ X e1 [e2,a]:=by rfl)(l:BZ X e2 [a]:=by rfl)(n:BZ X a []:=by rfl)(o:Gl X x:=by rfl)(q:(x==kd)=false:=by decide)(r:(cp b (az [e2,a] X.env)).any (·.1)=false:=by rfl):
 PD X (.Call (.Name x p) [e1,e2,a] [] b) (λρ=>((t5 d (t5 e (t5 f U5))) ρ).bind m):=xV c (h.mono j) (i6 a1 (i6 a2 (i6 a3 o7 n) l) g) (x4<|x4<|x4 S6) o q g r
def pc4 {e1 e2 b a:cf}{e f g h:Ev->R D}(c:w9 X.prog X.w X.K X.mg X.base k x 4 m)(j:Room l X.A)(a1:PD X e1 e)(a2:PD X e2 f)(a3:PD X b g)(n:PD X a h)(o:k<=l:=by decide)(i:BZ X e1 [e2,b,a]:=by rfl)(q:BZ X e2 [b,a]:=by rfl)(r:BZ X b [a]:=by rfl)(s:BZ X a []:=by rfl)(t:Gl X x:=by rfl)(u:(x==kd)=false:=by decide)(v:(cp d (az [e2,b,a] X.env)).any (·.1)=false:=by rfl):
 PD X (.Call (.Name x p) [e1,e2,b,a] [] d) (λρ=>((t5 e (t5 f (t5 g (t5 h U5)))) ρ).bind m):=xV c (j.mono o) (i6 a1 (i6 a2 (i6 a3 (i6 n o7 s) r) q) i) (x4<|x4<|x4<|x4 S6) t u i v
def BX {e1 e2:cf}{a b:Ev->R D}{j}(a1:PD X e1 a)(a2:PD X e2 b)(d:BZ X e1 [e2]:=by rfl)(e:BZ X e2 []:=by rfl):PD X (.Tuple [e1,e2] j f) (λρ=>((t5 a (t5 b U5)) ρ).bind nV):=pB (i6 a1 (i6 a2 o7 e) d)
def gT {e1 e2 a:cf}{b d e:Ev->R D}{j}(a1:PD X e1 b)(a2:PD X e2 d)(a3:PD X a e)(f:BZ X e1 [e2,a]:=by rfl)(g:BZ X e2 [a]:=by rfl)(h:BZ X a []:=by rfl):PD X (.Tuple [e1,e2,a] j i) (λρ=>((t5 b (t5 d (t5 e U5))) ρ).bind nV):=pB (i6 a1 (i6 a2 (i6 a3 o7 h) g) f)
def CB {id:String}{g:List D->R D}{e:cf}{f:Ev->R D}(h:eZ X (.builtin id) g)(a:PB X e f)(i:Gl X x:=by rfl)(j:X.mg x=none:=by assumption)(k:cu x=some (.builtin id):=by decide+kernel)(l:x≠ "__name__":=by decide)(m:(x==kd)=false:=by decide)(d:BZ X e []:=by rfl)(n:(cp b (az [] X.env)).any (·.1)=false:=by rfl):
 PD X (.Call (.Name x p) [e] [] b) (λρ=>(t5 f U5 ρ).bind g):=jO h (A8 a L0 d) i j k l m d n
def LW {i:List Str}{a:iu}{l:Pos}{e:cf}{fe:Ev->R D}(h:∀b f j k C,PD (FN X b j k ([x]++i) a (cN X a C) C f) e fe)(m:([x]++i).Nodup:=by decide+kernel)(n:Loc (relabel a X.env) x:=by first|exact aCw rfl|exact aBK rfl)(o:(a.names.lookup x==some .cell)=true\/(relabel a X.env).names.lookup x=some .local:=by first|exact .inl rfl|exact .inr rfl):
  ∀(b:R0) (f:List a5) (g:Cx),(∃p q C,g=FN X b p q ([x]++i) a (cN X a C) C f)->IU g (.Name x l) (λd ρ=>.ok (ρ.set 0 (.v d)))/\UB g [] (λ_=>.ok true)/\PD g e fe:=by
 rintro b f r ⟨j,k,C,rfl⟩;exact⟨n4 0 m rfl n o,wN,h b f j k C⟩
def hxt {j:List Str}{a:iu}{l:Pos}{f c:cf}{fe:Ev->R D}{ft:Ev->R Bool}(h:∀b e g i C,CA (FN X b g i ([x]++j) a (cN X a C) C e) c ft/\PD (FN X b g i ([x]++j) a (cN X a C) C e) f fe)(m:([x]++j).Nodup:=by decide+kernel)(n:Loc (relabel a X.env) x:=by first|exact aCw rfl|exact aBK rfl)(o:(a.names.lookup x==some .cell)=true\/(relabel a X.env).names.lookup x=some .local:=by first|exact .inl rfl|exact .inr rfl):
  ∀(b:R0) (e:List a5) (k:Cx),(∃p q C,k=FN X b p q ([x]++j) a (cN X a C) C e)->IU k (.Name x l) (λd ρ=>.ok (ρ.set 0 (.v d)))/\UB k [c] ft/\PD k f fe:=by
 rintro b e r ⟨g,i,C,rfl⟩;exact⟨n4 0 m rfl n o,XB (h b e g i C).1,(h b e g i C).2⟩
end
end DL
namespace DL
open PySem L2
variable [Tabs]
end DL
namespace M
open PySem L2 DL
variable [Tabs]
def xD (h:F5 d<=40):DH d d=.ok (.bl false):=by unfold DH;rw[jk ⟨h,h⟩,P1];rfl
def wU (J:List G.V):F5 (.lst (J.map vd))<=40:=by
 rw[F5];have:∀J:List G.V,J3 (J.map vd)<=1:=λJ=>by
  induction J with
  |nil=>simp[J3]
  |cons P J a=>rw[aAn,J3];exact Nat.max_le.mpr ⟨by simp[F5,J3],a⟩
 have:=this J
 lia
def pJ {J:Ev->Prop}(a:r=.ok (.nx ρ))(b:∃ρ2,F ρ=.ok (.nx ρ2)/\J ρ2):∃ρ2,D6 r F=.ok (.nx ρ2)/\J ρ2:=by rw[a];exact b
def dw (c w:Int):G.V:=⟨c.fmod w-w.fdiv 2,(c.fdiv w).fmod w-w.fdiv 2,(c.fdiv<|w*w).fmod w-w.fdiv 2⟩
def tmA (c:Int)(at_ j:Nat):Int:=(c.fdiv<|5+7*(at_:Int)+(j:Int)).fmod 5-2
def qk (P:G.V)(t:Int)(w:G.V):G.V:=⟨P.x+t*w.x,P.y+t*w.y,P.z+t*w.z⟩
def ptA (c:Int)(b:G.V)(ws:List G.V)(at_:Nat):G.V:=match ws with
 |[]=>b
 |[u]=>qk b (tmA c at_ 0) u
 |u::v::_=>qk (qk b (tmA c at_ 0) u) (tmA c at_ 1) v
def a0o (c:Int)(b:G.V)(ws:List G.V)(n:Nat):List G.V:=(aAQ n).map (ptA c b ws)
structure Drawn (J:List G.V):Prop where
 ne:J≠[]
 len:J.length<=40
 sz:∀P∈J,Sz 100 P
 flat:¬G.j4 J
open Classical in
def TX (p:Prop) (d:D):R D:=if p then .ok d else .bad
def gQ {p:Prop}{d r:D}(h:TX p d=.ok r):p/\d=r:=by
 unfold TX at h;split at h
 .rename_i z;cases h;exact⟨z,rfl⟩
 .cases h
def fT {p:Prop}{d:D}(h:p):TX p d=.ok d:=jk h
def tj (k:List G.V->List D->R D):List D->R D:=HW λY e=>match F7 Y with
 |some l=>k l e
 |none=>.bad
def rJ {k:List G.V->List D->R D}{ds:List D}{r:D}(h:tj k ds=.ok r):∃l e,ds=.lst (l.map vd)::e/\k l e=.ok r:=by
 replace h:=eJ h;obtain⟨Y,e,rfl,h⟩:=h;cases q:F7 Y with
 |none=>rw[q]at h;cases h
 |some l=>rw[q]at h;exact⟨l,e,by rw[u3 q],h⟩
def kN (k:List G.V->List D->R D)(l:List G.V)(e:List D):tj k (.lst (l.map vd)::e)=k l e:=by show(match F7 (l.map vd)with|some l=>k l e|none=>.bad)=_;rw[w6]
def YK (s k:Int):Int:=(s*s+5003*k+11).fmod 2147483647
def iG (l:List Int):Prop:=l.length=7/\∀i∈l,bits i<=100
def s7 (c k:Int):Int:=(c.fdiv k).fmod 7-3
def UZ {J:List G.V}{n:G.V}{d:Int}(h:aS 900 J)(a:G.IsFace (f6 J) n d):Sz 2003 n:=by obtain⟨A,b,B,f,C,g,_,e⟩:=G.mK a;have z:∀X∈f6 J,Sz 1000 X:=λX i=>(h.1 X (z8.mp i)).mono;have:=pF (z A b) (z B f) (z C g);rw[e]at this;exact this
def uH {J:List G.V}(g:aS 900 J)(h:G.j4 J)(d:(f6 J).length<=14):(∀f,f∈j1 (f6 J)↔G.IsFace (f6 J) f.1 f.2)/\j1 (f6 J)≠[]/\(j1 (f6 J)).length<=2744:=by obtain⟨m,r,e,L⟩:=Z3 g h (by lia);have a:=d;rw[e]at a;have b:=J2 L a;rw[<-e]at b L;have i:=O8 (V9 b.2);have few:=G.uA i λf j=>(b.1 f).mp j;have k:(f6 J).length*((f6 J).length*(f6 J).length)<=14*(14*14):=aCW d (aCW d d);refine⟨b.1,λz=>?_,aAs few k⟩;have q:=G.iI L.good.solid L.good.ord L.good.mem L.good.least;have:=(b.1 (_,_)).mpr q;rw[z]at this;cases this
def intD:D->Int
 |.int i=>i
 |_=>0
def AY {α β:Type}{G:D->Ev->R Ev}{fe:Ev->R D}{ρ:Ev}(rep:α->D)(b:β->D)(g:α->β)(l:List α)(h:∀a∈l,∃ρ1,G (rep a) ρ=.ok ρ1/\fe ρ1=.ok (b (g a))):w8 G (λ_=>.ok true) fe ρ (l.map rep)=.ok ((l.map g).map b):=by rw[aAV];exact V7 rep _ l h
end M
namespace SD
open PySem
def IsD (h:bt)(d:a5)(es:Array gq)(ep:Nat):Prop:=∃o,h.get? d=some o/\o.ExactDict/\o.data=.dict es ep
def IsD.at (x:IsD h d es ep)(e:∀o,h.get? d=some o->h'.get? d=some o):IsD h' d es ep:=let⟨o,a,r⟩:=x;⟨o,e o a,r⟩
def IsD.type {s:aA}(x:IsD s.heap d es ep):s.TypeIs (.ref d) "dict":=let⟨o,a,r,_⟩:=x;⟨o,a,r.1⟩
section
variable{prog:ba} {w:be} {A:bc} {E:E8} {s:aA} {d it:a5} {es:Array gq} {ep i:Nat}
def VG {Q:E8}(g:(d==fo)=false)(b:IsD s.heap d es ep)
  (h:Q (.ref s.heap.objs.size) {s with heap:=s.heap.push {cls:=.type "dict_keyiterator",data:=.fields #[.ref d,.int 0 0,.int es.size 0,.int ep 0]}}):av (a9 prog w) A (pyIter (.ref d)) Q E s:=by
 have a:=b.type;obtain⟨o,e,j,f⟩:=b;refine aEk a F.slot_dict_iter (aBn F.slot_dict_iter a F.entry_dict_iter (aAa ?_)<|F.args_dict_iter_1 _);unfold Builtin.Dict.dictSlotNone;refine aAa (wpAny_notOrdered_dict a<|aAb (?_:av _ _ (aFN d>>=_) _ _ s));unfold aFN;rw[ka (by rw[g];decide)];refine aAa (aAb<|aAa<|wpAny_dictEntries e f<|aAa<|wpAny_dictEpoch e f<|aAa<|aAY<|aAb ⟨_,rfl, "dict_keyiterator",_,⟨_,aAp _ rfl,rfl⟩,aDs.lookup,?_⟩);simpa[dm]using h
def HU {Q:Option ao->aA->Prop}(q:A.handled=none)(h:s.heap.IsKeyIter it d i es.size ep)(r:IsD s.heap d es ep)
  (t:∀(f:i<es.size) h',h'.IsKeyIter it d (i+1) es.size ep->Heap.SameBut it s.heap h'->Q (some es[i].key) {s with heap:=h'}) (hE:es.size<=i->∀h',Heap.ExtBut it s.heap h'->Q none {s with heap:=h'}):av (a9 prog w) A (ff (.ref it)) Q E s:=by
 have g:=h.typeIs;obtain⟨o,p,u,j⟩:=h;obtain⟨v,k,x,l⟩:=r;have n:Builtin.Dict_items.ownsTuple "dict_keyiterator"=false:=by decide
 unfold ff;refine aAa (aDZ<|aCe (name:=aDe "__next__") g aDs<|aBn aDs g F.entry_dict_keyiterator_next (aAa<|aAb<|aAa<|aAa ?_)<|F.args_dict_keyiterator_next_1 _);refine aAa (aDk g<|aAb<|aAa<|aGc p j ?_);simp only[n,aAt,if_false];show av _ _ (if(aDy d==Value.none)=true then _ else _) _ _ s;rw[ka (by intro z;cases z)];refine aAa (aAb<|aAa<|wpAny_dictEntries k l ?_);rw[ka (by simp)];refine aAa (aAb<|aAa<|wpAny_dictEpoch k l ?_);rw[ka (by simp)];refine aAb ?_;by_cases f:i<es.size
 .simp only[show¬((i:Int)<0)by lia,if_false,aBx,aAx f];refine aAa ?_;refine aAa (aDk g<|aAb<|aAa<|wpAny_isOneOf_keyiter g ?_);show av _ _ (setField (.ref it) 1 (dm<|(i:Int)+1)>>=_) _ _ s;refine aAa (aGd p j (by simp) ?_);have e:(s.heap.update it (Obj.mapFields (·.setIfInBounds 1 (dm<|(i:Int)+1)))).IsKeyIter it d (i+1) es.size ep:=⟨_,aBr _ p (Obj.isFreed_of_fields<|Obj.data_mapFields j _),(Obj.cls_mapFields ..).trans u,by rw[Obj.data_mapFields j];simp[dm]⟩;refine aAa (aAN (aAa (wpAny_isOneOf_keyiter (s:={s with heap:=s.heap.update it (Obj.mapFields (·.setIfInBounds 1 (dm<|(i:Int)+1)))}) e.typeIs (?_:av _ _ (pure es[i].key) _ _ _))));exact aAb (aAb ⟨_,rfl,aAb (t f _ e<|aEM ..)⟩)
 .have f:es.size<=i:=by lia
  simp only[show¬((i:Int)<0)by lia,if_false,aBx,aBJ f];refine aAa ?_;refine aAa (aDk g<|aAb (?_:av _ _ (setField (.ref it) 0 .none>>=_) _ _ s));refine aAa (aGd p j (by simp) (?_:av _ _ (newExc (.type "StopIteration") []>>=_) _ _ _));refine aAa ?_;simp only[newExc,newTuple];refine aAa (aAY (aAa (m:=firstArgMember _ _) (aGl (a:=Value.none) (by first|rfl|(simp only[firstArgMember];rfl)) (aAY ?_ (by size_fits)))) (by size_fits));simp only[raiseNew];refine aAa (wpAny_handled ?_);rw[show A.in1.handled=none from q];refine aAa (aAb<|wpAny_throw ?_);refine aAa (aDi (T:= "StopIteration") (b:=true) ⟨_,aAp _ rfl,rfl⟩ aGe<|aAb<|hE f _<|((aEM ..).extBut.push _).push _)
end
def SR {prog:ba}{w:be}{A:bc}(k:A.handled=none)(I d:a5)(p:d≠I)(es:Array gq)(ep:Nat):
  Walks prog w A I [I,d] [I] es.size (λi v=>∃e,es[i]?=some e/\v=e.key) (λi h=>h.IsKeyIter I d i es.size ep/\IsD h d es ep)where
 sub:=λb a=>by simp at a;simp[a]
 frame:=λ_ _ _ st l=>⟨Heap.IsKeyIter.at st.1 λo e=>l I (by simp) o e,st.2.at λo e=>l d (by simp) o e⟩
 item:=λi s Q E m st f=>HU k st.1 st.2 (hE:=λz=>by lia) λm g j n=>f _ g s.toks ⟨es[i],aAx m,rfl⟩ ⟨j,st.2.at λo e=>(n.2 d p).trans e⟩ λb o a e=>(n.2 b (λz=>a (by simp[z]))).trans e
 done:=λs Q E st f=>HU k st.1 st.2 (λz=>by lia) λ_ g q=>f g s.toks λb o a e=>q b o (λz=>a (by simp[z])) e
 self:=λ_ _ _ _ st f=>wpAny_pyIter_keyiter st.1 f
section
variable{prog:ba} {w:be} {A:bc} {E:E8} {s:aA} {d:a5} {es:Array gq} {ep:Nat}
def oq (a:(d==fo)=false):PySem.W.KdlSrc prog w "dict" d d es.size (λi v=>∃e,es[i]?=some e/\v=e.key) (λh=>IsD h d es ep)where
 type:=λs h=>h.type
 there:=by rintro h ⟨o,g,_⟩;exact⟨aAf g,aAf g⟩
 keep:=λh f x k=>x.at λo e=>k d (.inl rfl) o e
 notList:=by decide
 notTuple:=by decide
 hint:=λA E s Q ok q=>PySem.W.kdl_hint_dict ok.type q
 iter:=λA s b ok=>⟨_,λi h=>h.IsKeyIter s.heap.objs.size d i es.size ep/\IsD h d es ep,λE Q q=>VG a ok q,SR b _ d (by obtain⟨o,g,_⟩:=ok;exact aAl (aAf g)) es ep,⟨_,aAp _ rfl,rfl,rfl⟩,ok.at λo e=>aAc _ e⟩
def collect_dk {Q:List ao->aA->Prop}(p:A.handled=none)(q:(d==fo)=false)(j:IsD s.heap d es ep)(r:es.size<=sizeLine)
  (t:∀h' tk,(∀b o,s.heap.get? b=some o->h'.get? b=some o)->Q (es.toList.map (·.key)) {s with heap:=h',toks:=tk}):av (a9 prog w) A (collect (.ref d)) Q E s:=by
 have k:d<s.heap.objs.size:=by obtain⟨o,g,_⟩:=j;exact aAf g
 unfold collect;refine aAa (aGb<|aBE PySem.F.entry_proto_collect ?_);rw[aBe PySem.F.plain_proto_collect _];show av _ A.in1 (newList []>>=λl=>again (.builtin "list.__iadd__" ⟨[l,.ref d],[]⟩)) _ _ s;have a:∀b o,s.heap.get? b=some o->(s.heap.push {cls:=.type "list",data:=.seq ([]:List ao).toArray}).get? b=some o:=λb o e=>aAc _ e;have f:∀R:Result->aA->Prop,(∀h' tk m u,(∀b o,b≠s.heap.objs.size->(s.heap.push {cls:=.type "list",data:=.seq ([]:List ao).toArray}).get? b=some o->h'.get? b=some o)->h'.get? s.heap.objs.size=some {cls:=.type "list",dict:=none,data:=.seq m u,slots:=#[]}->ItemsOf (λi v=>∃e,es[i]?=some e/\v=e.key) m es.size->R (.ok (.ret (.ref s.heap.objs.size))) {s with heap:=h',toks:=tk})->
   fg (a9 prog w) A (.builtin "list.__iadd__" ⟨[.ref s.heap.objs.size,.ref d],[]⟩) R {s with heap:=s.heap.push {cls:=.type "list",data:=.seq ([]:List ao).toArray}}:=λR x=>aBE PySem.F.entry_list_iadd (by
  rw[aBe PySem.F.plain_list_iadd _];exact PySem.W.kdl_extend (s:={s with heap:=s.heap.push {cls:=.type "list",data:=.seq ([]:List ao).toArray}}) (oq (es:=es) (ep:=ep) q) p (j.at λo e=>a d o e) s.heap.objs.size (aCR k) (aCR k) (.ref s.heap.objs.size) 0 (aAp _ rfl) x r)
 refine aAa (aAY<|aAb ⟨aBW PySem.F.plain_list_iadd _,f _ λh' tk B c y z h=>?_⟩);show av _ A (load s.heap.objs.size>>=_) _ _ _;refine aAa (wpAny_load (s:={s with heap:=h',toks:=tk}) z<|aAb ?_);have C:B.toList=es.toList.map (·.key):=by
  apply aEh;intro i;rw[aAE,aAB,aAB];by_cases H:i<es.size
  .have n:i<B.size:=by rw[h.1];exact H
   obtain⟨e,I,J⟩:=h.2 i _ (aAx n);rw[I,aAx n,J];rfl
  .rw[aBJ (by rw[h.1];lia),aBJ (by lia)];rfl
 show Q B.toList _;rw[C];exact t h' tk λb o e=>y b o (aAl<|aAf e) (a b o e)
end
end SD
namespace DL
open PySem L2
section
variable [Tabs]
open Classical in
def sdR (i:Nat) (ρ:Ev):R (List D):=match ρ[i]? with
 |some (.d N)=>if(N.map (·.1)).all aP=true/\N.length<=63 then .ok (Y8 (N.map (·.1)))else .bad
 |_=>.bad
theorem rF {K:kc}{H:Hp}{O:a5->Prop}:∀{es:List gq} {N:List (D×D)},jW K H O es N->y9 K H O (es.map (·.key)) (N.map (·.1))
 |[],[],_=>.nil
 |e::es,p::N,.cons h t=>by obtain⟨⟨a,b,r⟩,_⟩:=h;exact .cons ⟨.ref a,by show RelV (.ref a) e.key;rw[b];rfl,r⟩ (rF t)
def DW (i:Nat){x:Str}{p r t:Pos}(hh:X.calm=true)(hu:X.A.units+300<cq)(hN:X.N[i]?=some x:=by rfl)(hv:yD X.env.scope x:=by first|exact aCw rfl|exact aBK (aCw rfl)|exact aBK (aBK rfl))(j:(x==kd)=false:=by decide)(eh:(x==km)=false:=by decide)
  (hg:Gl X "sorted":=by rfl) (hm:X.mg "sorted"=none:=by assumption) (hvb:cu "sorted"=some (.builtin "sorted"):=by decide+kernel) (he:az [.Name x r] X.env=(false,cv (.Name x r) X.env)::az [] X.env:=by rfl) (br:(cp t (az [] X.env)).any (·.1)=false:=by rfl):
  PF X (.Call (.Name "sorted" p) [.Name x r] [] t) (sdR i):=by
 refine sM λJ s σ H Q I H9 O0 O ρ E q=>?_;unfold sdR at q;cases e2:ρ[i]? with
 |none=>rw[e2]at q;exact aAh q
 |some sl=>
  rw[e2]at q;cases sl with
  |d N=>
   dsimp only at q;by_cases hc:(N.map (·.1)).all aP=true/\N.length<=63
   .rw[jk hc]at q;obtain⟨a,o,es,h1,_,_,h4,h5,h6,nd⟩:=E.slot i _ e2;refine aAZ (Q0 I hg hm hvb ?_ (by decide) (by decide));have oo:PA X [.Name x r] _:=L8 (M1 hN hv j eh) cG he;refine aBP (G5 (oo t J s σ H (λL H1=>L=[.ref a]/\H1=H) I ⟨_,h1,rfl,rfl⟩) λus z z9=>?_) he br;obtain⟨L,H1,T,r1,ev,eH⟩:=z9;subst ev eH;obtain⟨u,rfl,ru⟩:=vals1 r1;cases ru;obtain⟨mf,uo⟩:=hc;obtain⟨U,Y,B,ep,zv,ees⟩:=h5;have hD:SD.IsD z.heap a B ep:=⟨o,(T.hok a _ h4).1,Y,zv⟩;have pt:∀d∈N.map (·.1),aP d=true:=aBN.mp mf;have st:y9 X.K H1 O (B.toList.map (·.key)) (N.map (·.1)):=by rw[ees];exact rF h6
    have hlen:(B.toList.map (·.key)).length=N.length:=by rw[st.length,aAi]
    have gc:B.size=N.length:=by rw[<-hlen];simp
    have g:∀u∈B.toList.map (·.key),∃d,d∈N.map (·.1)/\aP d=true/\HV z.heap u d:=λu hu=>by obtain⟨d,j,v,rv,rp⟩:=st.get hu;exact⟨d,j,pt d j,X1 T rp (N5<|pt d j) rv⟩
    refine TS.sorted_keys (L:=B.toList.map (·.key)) (f:=true) (key:=LG z.heap) (C:=λs'=>∃h' m,s'={z with heap:=h',toks:=m}/\∀b o,z.heap.get? b=some o->h'.get? b=some o)
     (λ{Q'} hq=>SD.collect_dk (by simp[T.ok.hd hh]) U hD (by rw[gc];exact aAs uo (by decide)) λh' m k=>hq _ ⟨h',m,rfl,k⟩)
     (λs' ⟨h',m,h,k⟩ s6 k6 x Y y hy prog w A E hA {Q} qq=>?_) (λh2 s' ⟨h',m,h,k⟩ s6 k6 A {Q} qq=>?_) (by rw[hlen];lia) λs' ic h' l ⟨h1,m,h,k⟩ pm srt k2 hl ⟨n,gl⟩=>?_
    .subst h;obtain⟨d,_,pd,tf⟩:=g x Y;obtain⟨d',_,pd',xb⟩:=g y hy;rw[fV pd tf,fV pd' xb]at qq;exact PU pd pd' (tf.keeps λb o e _=>k6 b o (k b o e)) (xb.keeps λb o e _=>k6 b o (k b o e)) qq
    .subst h;refine yO (λx Y=>?_) h2 qq;obtain⟨d,_,pd,tf⟩:=g x Y;exact⟨d,pd,tf.keeps λb o e _=>k6 b o (k b o e)⟩
    .subst h;obtain⟨ph,st3,r,xc⟩:=jC (key:=LG z.heap) st pm srt (by rintro u d ⟨v,rv,rp⟩ j;exact fV (pt d j) (X1 T rp (N5<|pt d j) rv)) pt nd;have e3:ph=Y8 (N.map (·.1)):=eS xc (V5 _) λd=>by rw[r.mem_iff,K0 pt]
     subst e3;obtain⟨wv,pg,mh⟩:=st3.ac5;have I2':=T.kept (h':=h1) (t':=m) k;have I3:=I2'.laid (a:=l) (o:=.lst wv) (h':=h') (t':=m) k2 hl ⟨by rw[mh.length,r.length_eq,aAi];exact aAs uo (by decide),ic,n,pg,gl⟩;exact⟨.ref l,_,I3,rfl,q wv _ l (Same.refl _) (I2'.hok.fresh hl) mh⟩
   .rw[ka hc]at q;exact aAh q
  |_=>exact aAh q
end
end DL
namespace M
open PySem L2 DL
variable [Tabs]
def VJ (c P:G.V):G.V×Int:=(G.cZ c (G.u0 c),G.d5 (G.cZ c<|G.u0 c) P)
def xG (A B C:G.V):VJ (G.cr (B-A) (C-A)) A=G.d9 A B C:=rfl
def gK (f:G.V×Int):D:=wI f.1 f.2
open Classical in
def pM:List D->R D:=v1 λa b c=>v1 λd e f=>iZ (if(⟨a,b,c⟩:G.V)≠0/\Sz 2003 ⟨a,b,c⟩/\Sz 1000 ⟨d,e,f⟩then .ok (gK<|VJ ⟨a,b,c⟩ ⟨d,e,f⟩)else .bad)
def JY {c P:G.V}(h:c≠0)(a:Sz 2003 c)(b:Sz 1000 P):pM [vd c,vd P]=.ok (gK (VJ c P)):=jk ⟨h,a,b⟩
def Y7 (a n:Nat):List D:=(aEO a n).map λ(k:Nat)=>D.int (k:Int)
def a3u {a b:Nat}(d:a<=1000000)(h:b<=1000000):fZ [.int (a:Int),.int (b:Int)]=.ok (Y7 a (b-a)):=by
 show(if qT (a:Int) (b:Int) 1 then R.ok (wE a 1<|iV a b 1)else R.bad)=_;rw[jk ⟨by decide,by decide,by lia,by lia,by lia,by lia⟩];have e:iV (a:Int) (b:Int) 1=b-a:=by
  unfold iV;split
  .simp
  .lia
 rw[e];unfold wE Y7;rw[aFq,aAV];congr 1;refine aCK λk _=>?_;simp
def ZP {n:Nat}(h:n<=1000000):fZ [.int (n:Int)]=.ok (Y7 0 n):=by rw[nk h];unfold Y7;rw[aFX]
theorem qC {G:D->Ev->R Ev}{F:Ev->R Out}(Iv:Nat->Ev->Prop):∀{n a:Nat} {ρ:Ev},(∀i,a<=i->i<a+n->∀ρ,Iv i ρ->∃ρ2,gF G F (.int (i:Int)) ρ=.ok (.nx ρ2)/\Iv (i+1) ρ2)->Iv a ρ->∃ρ',Q6 G F (Y7 a n) ρ=.ok (.nx ρ')/\Iv (a+n) ρ'
 |0,a,ρ,_,h=>⟨ρ,rfl,h⟩
 |n+1,a,ρ,d,h=>by
  obtain⟨ρ2,e,f⟩:=d a (aAj _) (by lia) ρ h;obtain⟨ρ',g,j⟩:=qC Iv (n:=n) (λi l f=>d i (by lia) (by lia)) f;refine⟨ρ',?_,by rw[show a+(n+1)=a+1+n by lia];exact j⟩;show Q6 G F (.int (a:Int)::Y7 (a+1) n) ρ=_;unfold gF at e;cases b:G (.int (a:Int)) ρ with
  |ok k=>rw[b]at e;exact(V0 b e).trans g
  |ex z=>rw[b]at e;cases e
  |bad=>rw[b]at e;cases e
def YH (N:List (D×D)):List D:=N.map (·.1)
def Cov (S:List G.V)(N:List (D×D))(i j k:Nat):Prop:=∀A B C,S[i]?=some A->S[j]?=some B->S[k]?=some C->(G.Up S A B C->gK (G.d9 A B C)∈YH N)/\(G.Dn S A B C->gK (G.d9 A C B)∈YH N)
def VD (S:List G.V)(N:List (D×D))(i j k:Nat):Prop:=∀b a d,b<a->a<d->(b<i\/(b=i/\(a<j\/(a=j/\d<k))))->Cov S N b a d
def yC {f g:G.V×Int}(h:gK f=gK g):f=g:=by obtain⟨⟨a,b,c⟩,d⟩:=f;obtain⟨⟨e,i,j⟩,k⟩:=g;simp[gK]at h;obtain⟨rfl,rfl,rfl,rfl⟩:=h;rfl
def MK {G:D->Ev->R Ev}{F:Ev->R Out}{Post:Ev->Prop}{n a:Nat}{ρ:Ev}(Iv:Nat->Ev->Prop)(d:∀i,a<=i->i<a+n->∀ρ,Iv i ρ->∃ρ2,gF G F (.int (i:Int)) ρ=.ok (.nx ρ2)/\Iv (i+1) ρ2)(h0:Iv a ρ)(b:∀ρ',Iv (a+n) ρ'->Post ρ'):∃ρ2,Q6 G F (Y7 a n) ρ=.ok (.nx ρ2)/\Post ρ2:=by obtain⟨ρ',e,h⟩:=qC Iv d h0;exact⟨ρ',e,b ρ' h⟩
def pA {r:R Out}{ρ:Ev}{F:Ev->R Out}{x:R Out}(a:r=.ok (.nx ρ))(b:F ρ=x):D6 r F=x:=by rw[a];exact b
def Y0 {S:List G.V}{i:Nat}{A:G.V}(h:S[i]?=some A):T0 (.lst (S.map vd)) (.int (i:Int))=.ok (vd A):=gM (by rw[cP (by lia),aBx,aAE,h];rfl)
end M
namespace DL
open PySem PySem.Spec L2
open PyProof.Rows hiding St
variable [Tabs]
def UG (i:Nat) (ρ:Ev) (k:D):R D:=match ρ[i]? with
 |some (.d N)=>if Q3 7 k=true/\ES k=true then(match atK N k with|some d=>.ok d|none=>.bad)else .bad
 |_=>.bad
def SV (i:Nat){x y:Str}{p J l:Pos}(j:Nat)(hk:PD X (.Name y J) (bL j))(hu:X.A.units+130<cq)(hN:X.N[i]?=some x:=by rfl)(hv:yD X.env.scope x:=by first|exact aCw rfl|exact aBK (aCw rfl)|exact aBK (aBK rfl))
  (hd:(x==kd)=false:=by decide) (eh:(x==km)=false:=by decide):PD X (.Subscript (.Name x p) (.Name y J) l) (λρ=>(bL j ρ).bind λk=>UG i ρ k):=by
 refine sM λe s σ H Q I H9 O0 O ρ E q=>?_;dsimp only at q;unfold UG at q;cases f:bL j ρ with
 |ex x=>unfold bL at f;split at f<;>cases f
 |bad=>rw[f]at q;exact q.elim
 |ok k=>
  rw[f,R.aa0]at q;cases m:ρ[i]? with
  |none=>rw[m]at q;exact aAh q
  |some sl=>
   rw[m]at q;cases sl with
   |d N=>
    dsimp only at q;split at q
    .rename_i L;obtain⟨a,o,es,h1,_,_,h4,h5,h6,h7⟩:=E.slot i _ m;refine wpAny_Subscript_Name_late (G5 ((M1 hN hv hd eh:PE X (.Name x p) _) e s σ H (λv h=>v=.ref a/\h=H) I ⟨_,h1,rfl,rfl⟩) λv s1 ⟨w,h,I1,r1,ew,eH⟩=>?_);subst ew eH;cases r1;refine G5 (hk e s1 σ h (λv g=>Same h g/\Rep X.K g O v k) I1 ⟨H9,O0,O,ρ,E,by rw[f,RC];exactλv g T r2=>⟨T,r2⟩⟩) λu T ⟨v,g,n,ru,t,U⟩=>?_;obtain⟨b,rfl⟩:=iU U L.2;cases ru;have z:=t a _ h4;have B:jW X.K g O es N:=h6.mono λr=>r.same t;obtain⟨Y,hD,om,hp⟩:=wO n z h5 B h7;obtain⟨ok,dp⟩:=jR L.1;refine⟨"dict",_,PySem.F.slot_dict_getitem.lookup,hD.typeIs,?_⟩;rcases vE (k:=k) hp with⟨_,C⟩|⟨p',d,w,f,C,ym,r⟩
     .rw[C]at q;exact aAh q
     .rw[C]at q;exact wpAny_getItem_heap (knd:=qN X.prog X.w) (by show X.A.in1.units+128<cq;rw[w5];lia) ⟨X1 n U ok rfl,by lia⟩ hD f ⟨w,g,n.tok _,ym,q w g t r⟩
    .exact aAh q
   |_=>exact aAh q
end DL
namespace M
open PySem L2 DL
variable [Tabs]
def fU {α β γ:Type}{Gt:D->Ev->R Ev}{fe:Ev->R D}{ρ:Ev}{K:List D->R γ}(rep:α->D)(b:β->D)(g:α->β)(l:List α)(d:l.length<=30000)(h:∀a∈l,∃ρ1,Gt (rep a) ρ=.ok ρ1/\fe ρ1=.ok (b (g a))):(if(l.map rep).length<=sizeLine then(w8 Gt (λ_=>.ok true) fe ρ (l.map rep)).bind K else .bad)=K ((l.map g).map b):=by rw[jk (aAs (by rw[aAi];exact d) (by decide)),AY rep b g l h];rfl
def wH {α γ:Type}{Gt:D->Ev->R Ev}{ft:Ev->R Bool}{fe:Ev->R D}{ρ:Ev}{K:List D->R γ}(rep:α->D)(p:α->Bool)(g:α->D)(l:List α)(b:l.length<=30000)(h:∀a∈l,∃ρ1,Gt (rep a) ρ=.ok ρ1/\ft ρ1=.ok (p a)/\fe ρ1=.ok (g a)):(if(l.map rep).length<=sizeLine then(w8 Gt ft fe ρ (l.map rep)).bind K else .bad)=K ((l.filter p).map g):=by rw[jk (aAs (by rw[aAi];exact b) (by decide)),fF rep p g l λa d=>let⟨ρ1,e,f,i⟩:=h a d;⟨ρ1,e,f,λ_=>i⟩];rfl
def UK {α β:Type}{Gt:D->Ev->R Ev}{fe:Ev->R D}{ρ:Ev}(rep:α->D)(b:β->D)(g:α->β)(l:List α)(d:l.length<=30000)(h:∀a∈l,∃ρ1,Gt (rep a) ρ=.ok ρ1/\fe ρ1=.ok (b (g a))):(if(l.map rep).length<=sizeLine then w8 Gt (λ_=>.ok true) fe ρ (l.map rep)else .bad)=.ok ((l.map g).map b):=by rw[jk (aAs (by rw[aAi];exact d) (by decide)),AY rep b g l h]
def P3 {α β:Type}{r:R α}{x:α}{F:α->R β}{y:R β}(a:r=.ok x)(b:F x=y):r.bind F=y:=by rw[a];exact b
def nD {α:Type}{r:R Bool}{A B:R α}(h:r=.ok false):(r.bind λt=>if t=true then A else B)=B:=by rw[h];rfl
def BH {f g:Ev->R Bool}{ρ:Ev}(a:f ρ=.ok false)(b:g ρ=.ok false):orB f g ρ=.ok false:=by unfold orB;rw[a];exact b
def wR {f:Ev->R Bool}{ρ:Ev}(h:f ρ=.ok true):uz f ρ=.ok false:=by unfold uz;rw[h];rfl
def EG (l:List Int):WV [.lst (l.map D.int)]=.ok (.int l.sum):=by simp only[WV,jK]
def zJ (ns:List Int):F5 (.lst (ns.map D.int))<=40:=by
 have g:∀ns:List Int,J3 (ns.map D.int)<=0:=λns=>by
  induction ns with
  |nil=>simp[J3]
  |cons a ns b=>rw[aAn,J3];simp only[F5];lia
 have:=g ns;rw[F5];lia
def a3j {r:R Out}{ρ:Ev}{F:Ev->RK}{x:RK}(a:r=.ok (.nx ρ))(b:F ρ=x):BB r F=x:=by rw[a];exact b
def a1x {α:Type}{r:R α}{x:α}{G:α->R Out}{F:Ev->RK}{y:RK}(a:r=.ok x)(b:BB (G x) F=y):BB (r.bind G) F=y:=by rw[a];exact b
def a1d {G:D->Ev->R Ev}{F:Ev->R Out}{b:Ev->RK}{y:RK}{n a:Nat}{ρ:Ev}(Iv:Nat->Ev->Prop)(d:∀i,a<=i->i<a+n->∀ρ,Iv i ρ->∃ρ2,gF G F (.int (i:Int)) ρ=.ok (.nx ρ2)/\Iv (i+1) ρ2)(h0:Iv a ρ)(f:∀ρ',Iv (a+n) ρ'->b ρ'=y):BB (Q6 G F (Y7 a n) ρ) b=y:=by obtain⟨ρ',e,h⟩:=qC Iv d h0;rw[e];exact f ρ' h
def rq {α:Type}{r:R α}{x:α}{F:α->R Out}{J:Ev->Prop}(a:r=.ok x)(b:∃ρ2,F x=.ok (.nx ρ2)/\J ρ2):∃ρ2,r.bind F=.ok (.nx ρ2)/\J ρ2:=by rw[a];exact b
def NW {i:Nat}{F:Ev->R Out}{d:D}{ρ ρ':Ev}{J:Ev->Prop}(e:ρ.set i (.v d)=ρ')(h:∃ρ2,F ρ'=.ok (.nx ρ2)/\J ρ2):∃ρ2,gF (λd ρ=>.ok (ρ.set i (Sl.v d))) F d ρ=.ok (.nx ρ2)/\J ρ2:=by subst e;exact h
def wB {f g:Ev->R Bool}{ρ:Ev}(h:f ρ=.ok false):yV f g ρ=.ok false:=by unfold yV;rw[h];rfl
def bP {f g:Ev->R Bool}{ρ:Ev}{b:R Bool}(h:f ρ=.ok true)(a:g ρ=b):yV f g ρ=b:=by unfold yV;rw[h];exact a
def MT {r:R Bool}{A B:R Out}{J:Ev->Prop}(h:r=.ok true)(a:∃ρ2,A=.ok (.nx ρ2)/\J ρ2):∃ρ2,(r.bind λt=>if t=true then A else B)=.ok (.nx ρ2)/\J ρ2:=by rw[h];exact a
def QQ (a b:Nat):xy (.int (a:Int)) (.int (b:Int))=.ok (.bl (decide (a<b))):=by rw[QI];congr 2;exact decide_eq_decide.mpr (by lia)
def YL (a b:Nat):DH (.int (a:Int)) (.int (b:Int))=.ok (.bl (decide (a≠b))):=by
 rw[TV];congr 2;by_cases h:a=b
 .simp[h]
 .simp[h,show¬(a:Int)=b by lia]
def ZX {ns:List Int}(h:ns≠[]):HM [.lst (ns.map D.int)]=.ok (.int (xI ns)):=by simp only[HM,jK];exact jk (by simpa using h)
def qz {ns:List Int}(h:ns≠[]):ID [.lst (ns.map D.int)]=.ok (.int (tH ns)):=by simp only[ID,jK];exact jk (by simpa using h)
def AU {α:Type}{r:R α}{x:α}{F:α->R Out}{a:Ev->R Out}{d:D}(b:r=.ok x)(e:R1 (D6 (F x) a)=.ok d):R1 (D6 (r.bind F) a)=.ok d:=by rw[b];exact e
def gx {G:D->Ev->R Ev}{F:Ev->R Out}{ds:List D}{ρ:Ev}{J:Ev->Prop}(Iv:List D->Ev->Prop)(a:∀d ds ρ,Iv (d::ds) ρ->∃ρ2,gF G F d ρ=.ok (.nx ρ2)/\Iv ds ρ2)(h0:Iv ds ρ)(b:∀ρ',Iv [] ρ'->J ρ'):∃ρ2,Q6 G F ds ρ=.ok (.nx ρ2)/\J ρ2:=by obtain⟨ρ',e,h⟩:=lW Iv a h0;exact⟨ρ',e,b ρ' h⟩
def uN (P Q:G.V):DH (vd P) (vd Q)=.ok (.bl (decide (P≠Q))):=by
 have d:∀v:G.V,F5 (vd v)<=40:=λv=>by simp[F5,J3]
 unfold DH;rw[jk ⟨d P,d Q⟩];congr 2;by_cases h:P=Q
 .subst h;simp[P1]
 .cases e:x9 (vd P) (vd Q)with
  |false=>simp[h]
  |true=>exact absurd (xH (fI (by simp[oE,cU]) (by simp[oE,cU]) e)) h
def fw (R P Q:G.V):yV (λρ=>((rY 0 ρ).bind λx=>(rY 1 ρ).bind λy=>DH x y).bind xU) (λρ=>((rY 0 ρ).bind λx=>(rY 2 ρ).bind λy=>DH x y).bind xU) [.v (vd R),.v (vd P),.v (vd Q)]=.ok (decide (R≠P/\R≠Q)):=by
 by_cases h:R≠P
 .refine bP (P3 ((uN R P).trans (by rw[decide_eq_true h])) rfl) (P3 (uN R Q) ?_);show DL.R.ok (decide (R≠Q))=_;congr 1;exact decide_eq_decide.mpr ⟨λq=>⟨h,q⟩,λq=>q.2⟩
 .rw[decide_eq_false λz=>h z.1];exact wB (P3 ((uN R P).trans (by rw[decide_eq_false h])) rfl)
def QU {f:Ev->R D}{ρ:Ev}{a:D}(b:f ρ=.ok a):t5 f U5 ρ=.ok [a]:=by unfold t5;rw[b];rfl
def gH {f g:Ev->R D}{ρ:Ev}{a b:D}(d:f ρ=.ok a)(e:g ρ=.ok b):t5 f (t5 g U5) ρ=.ok [a,b]:=by unfold t5;rw[d,e];rfl
def WK (o:G.V)(E:List (G.V×G.V))(P Q:G.V):G.ar o (E++[(P,Q)])=G.ar o E+G.cr (P-o) (Q-o):=by rw[G.SS];congr 1;apply G.ext<;>simp[G.ar,G.kO]
def MH {s:List G.V}(d:s.Nodup)(f:3<=s.length)(P Q:G.V):∃R∈s,R≠P/\R≠Q:=by
 match s,d,f with
 |a::b::c::r,d,_=>
  simp only[aAI,aAd,not_or]at d;obtain⟨⟨i,j,_⟩,⟨k,_⟩,_⟩:=d;by_cases g:a≠P/\a≠Q
  .exact⟨a,by simp,g⟩
  by_cases h:b≠P/\b≠Q
  .exact⟨b,by simp,h⟩
  refine⟨c,by simp,λe=>?_,λe=>?_⟩<;>subst e<;>grind
def getD_at {l:List G.V}{j:Nat}(h:j<l.length):l[j]?=some (l.getD j 0):=by rw[aAo,aAg h];rfl
def C1 {l:List G.V}{j:Nat}(h:j<l.length):l.getD j 0∈l:=aAu (getD_at h)
def WZ (r:List G.V)(P:G.V):List Int:=(aEO 1<|r.length-1-1).map λk=>mY (r.getD 0 0) (r.getD k 0) (r.getD (k+1) 0) P
def P6 (r:List G.V)(P:G.V):Int:=-(WZ r P).sum
def a1j (r:List G.V)(P:G.V):Prop:=1<=r.length/\r.length<=1000/\(∀X∈r,Sz 1000 X)/\Sz 5000 P
def vY:List D->R D:=tj λr=>v1 λx y z=>iZ (TX (a1j r ⟨x,y,z⟩)<|.int (P6 r ⟨x,y,z⟩))
def WH {r:List G.V}{P:G.V}(h:a1j r P):vY [.lst (r.map vd),vd P]=.ok (.int (P6 r P)):=(kN _ r _).trans (fT h)
def t7 (l:List G.V) (P:G.V):List Int:=(j1<|f6 l).map λf=>P6 (G.i4 (f6 l) f) P
def ZK (l:List G.V):Prop:=aS 900 l/\G.j4 l/\(f6 l).length<=14
def fY:List D->R D:=tj λl=>v1 λx y z=>iZ (TX (ZK l/\Sz 5000 ⟨x,y,z⟩)<|.lst ((t7 l ⟨x,y,z⟩).map D.int))
def zN {l:List G.V}{P:G.V}(h:ZK l)(a:Sz 5000 P):fY [.lst (l.map vd),vd P]=.ok (.lst ((t7 l P).map D.int)):=(kN _ l _).trans (fT ⟨h,a⟩)
def MN:List D->R D:=tj λl=>iZ (TX (ZK l/\l≠[])<|.int (t7 l<|l.getD 0 0).sum)
def mz {l:List G.V}(h:ZK l)(a:l≠[]):MN [.lst (l.map vd)]=.ok (.int (t7 l (l.getD 0 0)).sum):=(kN _ l _).trans (fT ⟨h,a⟩)
theorem kF:∀l:List G.V,G.k9 l=(aAQ (l.length-1)).map λj=>(l.getD j 0,l.getD (j+1) 0)
 |[]=>rfl
 |[_]=>rfl
 |a::b::r=>by have d:=kF (b::r);rw[G.k9,d];simp only[aAr,Nat.add_sub_cancel];rw[aEg,aAn,aAV];rfl
def GI (a:G.V)(r:List G.V)(P:G.V):P6 (a::r) P=-G.d5 (G.ar 0 (G.B8 (a::r))) (P-a):=by unfold P6 WZ;rw[<-G.FH a,G.RZ,kF];unfold G.ar;rw[G.IC,aAV,aAV,aFq,aAV];congr 2;simp only[aAr,Nat.add_sub_cancel];refine aCK λj _=>?_;simp only[aGr,mY,aGD 1 j];rfl
def sum_map_add {α:Type}(f g:α->Int)(l:List α):(l.map λx=>f x+g x).sum=(l.map f).sum+(l.map g).sum:=by
 induction l with
 |nil=>rfl
 |cons a l b=>simp only[aAn,aCE,b];lia
def WL {α:Type}(f:α->Int)(l:List α)(d:l≠[])(h:∀x∈l,0<f x):0<(l.map f).sum:=by
 have g:∀l:List α,(∀x∈l,0<f x)->0<=(l.map f).sum:=λl=>by
  induction l with
  |nil=>intro _;exact aBX 0
  |cons a l e=>intro h;have:=h a (.head _);have:=e λx b=>h x (.tail _ b);simp only[aAn,aCE];lia
 match l,d,h with
 |a::l,_,h=>have:=h a (.head _);have:=g l λx b=>h x (.tail _ b);simp only[aAn,aCE];lia
section
variable{l:List G.V} (h:ZK l)
include h
theorem ZK.solid:G.j4 (f6 l):=lU h.2.1 λv a=>z8.mpr a
theorem ZK.ab6:(∀f,f∈j1 (f6 l)↔G.IsFace (f6 l) f.1 f.2)/\j1 (f6 l)≠[]/\(j1 (f6 l)).Nodup:=by obtain⟨a,b,d⟩:=h;obtain⟨i,j,_⟩:=uH a b d;obtain⟨m,r,e,L⟩:=Z3 a b (by lia);have g:=J2 L (by rw[<-e];exact d);rw[<-e]at g;exact⟨i,j,O8 (V9 g.2)⟩
theorem aY {f:G.V×Int}(d:G.IsFace (f6 l) f.1 f.2){s:G.V}(g:G.d5 f.1 s=f.2)(P:G.V):P6 (G.i4 (f6 l) f) P=-G.d5 (G.ar 0 (G.B8 (G.i4 (f6 l) f))) (P-s):=by
 obtain⟨a,b,c,r,e⟩:=G.C6 (o9 l) d;have e:G.i4 (f6 l) f=a::b::c::r:=e;have on:G.d5 f.1 a=f.2:=(G.d8.mp ((d.aa2<|o9 l).aa4 (show a∈G.i4 (f6 l) f by rw[e];exact .head _))).2;have z:=(G.bC h.solid (o9 l) d g a).2.2 on;rw[e,GI,<-e];generalize G.ar 0 (G.B8<|G.i4 (f6 l) f)=A at*
 rw[G.e9]at z⊢;rw[G.e9]
 lia
theorem pG (P Q:G.V):(t7 l P).sum=(t7 l Q).sum:=by
 obtain⟨i,m,j⟩:=h.ab6;have none:=G.EU h.solid (o9 l) i j;have g:∀P,(t7 l P).sum=((j1<|f6 l).map λf=>G.d5 (G.ar 0<|G.B8<|G.i4 (f6 l) f) ((G.i4 (f6 l) f).getD 0 0)).sum:=λP=>by
  have e:t7 l P=(j1<|f6 l).map λf=>G.d5 (G.ar 0<|G.B8<|G.i4 (f6 l) f) ((G.i4 (f6 l) f).getD 0 0)+G.d5 (G.ar 0<|G.B8<|G.i4 (f6 l) f) (-P):=by unfold t7;refine aCK λf d=>?_;have d:=(i f).mp d;obtain⟨a,b,c,r,e⟩:=G.C6 (o9 l) d;have e:G.i4 (f6 l) f=a::b::c::r:=e;rw[e,GI];show-G.d5 _ (P-a)=G.d5 _ a+G.d5 _ (-P);generalize G.ar 0 (G.B8 (a::b::c::r))=A;simp[G.d5];grind
  rw[e,sum_map_add];have z:=G.IC (-P) ((j1<|f6 l).map λf=>G.ar 0 (G.B8<|G.i4 (f6 l) f));rw[none,aAV]at z;have k:G.d5 0 (-P)=0:=by simp[G.d5]
  have:((j1<|f6 l).map λf=>G.d5 (G.ar 0<|G.B8<|G.i4 (f6 l) f) (-P)).sum=0:=by rw[<-k,z];rfl
  lia
 rw[g P,g Q]
theorem LL (P:G.V):0<(t7 l P).sum:=by
 obtain⟨n,o,J⟩:=h.ab6;obtain⟨A,p,B,q,C,r,E,s,i9⟩:=h.solid;have i:0<((j1<|f6 l).map λf=>(P6 (G.i4 (f6 l) f) A+P6 (G.i4 (f6 l) f) B)+(P6 (G.i4 (f6 l) f) C+P6 (G.i4 (f6 l) f) E)).sum:=by
  refine WL _ _ o λf g=>?_;have g:=(n f).mp g;obtain⟨X,t,_,_,_,_,on,_⟩:=g.three;rw[aY h g on A,aY h g on B,aY h g on C,aY h g on E];have j:=G.bC h.solid (o9 l) g on A;have pb:=G.bC h.solid (o9 l) g on B;have k:=G.bC h.solid (o9 l) g on C;have m:=G.bC h.solid (o9 l) g on E;have u:=g.sup A p;have v:=g.sup B q;have w:=g.sup C r;have x:=g.sup E s;have some:¬(G.d5 f.1 A=f.2/\G.d5 f.1 B=f.2/\G.d5 f.1 C=f.2/\G.d5 f.1 E=f.2):=by
   rintro⟨a,b,c,e⟩;have d:∀{X:G.V},G.d5 f.1 X=f.2->G.d5 (X-A) f.1=0:=λ{X} t=>by
    have:G.d5 (X-A) f.1=G.d5 f.1 X-G.d5 f.1 A:=by simp[G.d5];grind
    lia
   exact g.prim.ne (G.tM i9 (d b) (d c)<|d e)
  have L:=j.1 u;have N:=pb.1 v;have O:=k.1 w;have Q:=m.1 x;by_cases y:G.d5 f.1 A<f.2
  .have:=j.2.1 y;lia
  by_cases z:G.d5 f.1 B<f.2
  .have:=pb.2.1 z;lia
  by_cases H:G.d5 f.1 C<f.2
  .have:=k.2.1 H;lia
  have:=m.2.1 (by
   by_cases I:G.d5 f.1 E<f.2
   .exact I
   .exact absurd ⟨by lia,by lia,by lia,by lia⟩ some)
  lia
 rw[sum_map_add,sum_map_add,sum_map_add]at i;have e:∀X,((j1<|f6 l).map λf=>P6 (G.i4 (f6 l) f) X).sum=(t7 l P).sum:=λX=>pG h X P;rw[e,e,e,e]at i
 lia
end
def lp {α:Type}:Nat->(Nat->α->α)->α->α
 |0,_,a=>a
 |n+1,f,a=>f n (lp n f a)
theorem wA {α:Type}{f:Nat->α->α}{a:α}(P:α->Prop)(h0:P a):∀{n:Nat},(∀k<n,∀x,P x->P (f k x))->P (lp n f a)
 |0,_=>h0
 |n+1,h=>h n (aDh n) _ (wA P h0 λk b=>h k (aBz b))
theorem xY {α:Type}{f:Nat->List α->List α}{a:List α}{y:α}(mono:∀k x,y∈x->y∈f k x):∀{n:Nat},y∈a->y∈lp n f a
 |0,h=>h
 |n+1,h=>mono n _ (xY mono h)
theorem vT {α:Type}{f:Nat->List α->List α}{a:List α}{y:α}(mono:∀k x,y∈x->y∈f k x){k:Nat}(b:∀x,y∈f k x):∀{n:Nat},k<n->y∈lp n f a
 |n+1,h=>by
  by_cases e:k=n
  .subst e;exact b _
  .exact mono n _ (vT mono b (by lia))
abbrev Fc:=List (G.V×Int)
open Classical in
def sK (f:G.V×Int) (fs:Fc):Fc:=if f∈fs then fs else fs++[f]
def UpQ (L:List G.V)(A B C:G.V):Prop:=G.cr (B-A) (C-A)≠0/\∀X∈L,G.d5 (G.cr (B-A)<|C-A) (X-A)<=0
open Classical in
def eU (L:List G.V) (i j k:Nat) (fs:Fc):Fc:=if(j<i/\j≠k)/\UpQ L (L.getD i 0) (L.getD j 0) (L.getD k 0)then sK (G.d9 (L.getD i 0) (L.getD j 0)<|L.getD k 0) fs else fs
def TY (L:List G.V) (i j:Nat):Fc->Fc:=lp i (eU L i j)
def UR (L:List G.V) (i:Nat):Fc->Fc:=lp L.length (TY L i)
def rO (L:List G.V):Fc:=lp L.length (UR L) []
def JR {f g:G.V×Int}{fs:Fc}(h:f∈fs):f∈sK g fs:=by
 unfold sK;split
 .exact h
 .exact aBu _ h
def VL (f:G.V×Int)(fs:Fc):f∈sK f fs:=by
 unfold sK;split
 .assumption
 .simp
def KF {L:List G.V}{i j k:Nat}{f:G.V×Int}{fs:Fc}(h:f∈fs):f∈eU L i j k fs:=by
 unfold eU;split
 .exact JR h
 .exact h
def zC (L:List G.V)(fs:Fc):Prop:=fs.Nodup/\∀f∈fs,G.IsFace L f.1 f.2
def rj {L:List G.V}(b:G.j4 L){A B C:G.V}(f:A∈L)(h:UpQ L A B C):G.Up L A B C:=by
 refine⟨h.2,?_⟩;obtain⟨X,a,e⟩:=b.off (n:=G.cr (B-A) (C-A)) (d:=G.d5 (G.cr (B-A)<|C-A) A) h.1;refine⟨X,a,?_⟩;have:=h.2 X a;rw[G.e9]at this⊢
 lia
def WM {L:List G.V}(g:G.j4 L){i j k:Nat}(e:i<L.length)(l:k<L.length){fs:Fc}(h:zC L fs):zC L (eU L i j k fs):=by
 unfold eU;split
 .rename_i z;have F:=G.UO (C1 e) (C1 (show j<L.length by lia)) (C1 l) (rj g (C1 e) z.2);unfold sK;split
  .exact h
  .rename_i m;refine⟨aCo.mpr ⟨h.1,by simp,λa n b o q=>m (by rw[aAX.mp o]at q;exact q▸n)⟩,λf d=>?_⟩;rcases aAL.mp d with d|d
   .exact h.2 f d
   .rw[aAX.mp d];exact F
 .exact h
def OR {L:List G.V}(a:G.j4 L){i j:Nat}(b:i<L.length){n:Nat}(e:n<=i){fs:Fc}(h:zC L fs):zC L (lp n (eU L i j) fs):=wA _ h λk f x d=>WM a b (by lia) d
def SW {L:List G.V}(a:G.j4 L){i:Nat}(b:i<L.length){n:Nat}{fs:Fc}(h:zC L fs):zC L (lp n (TY L i) fs):=wA _ h λj _ x d=>OR a b (aAj _) d
def DO {L:List G.V}(a:G.j4 L){n:Nat}(d:n<=L.length):zC L (lp n (UR L) []):=wA _ ⟨.nil,λ_ h=>nomatch h⟩ λi e x b=>SW a (by lia) b
def ix {L:List G.V}(n:G.j4 L)(f:G.V×Int):f∈rO L↔G.IsFace L f.1 f.2:=by
 refine⟨λh=>(DO n<|aAj _).2 f h,λo=>?_⟩;obtain⟨A0,g,B0,l,C0,m,I,J,c0,N⟩:=o.three;obtain⟨A,B,C,⟨i,j,k,ij,r,O,Q,s⟩,e,T⟩:=G.VT g l m N;obtain⟨a,b,c⟩:=T (λX=>G.d5 f.1 X=f.2) I J c0;have at_:∀{i:Nat} {A:G.V},L[i]?=some A->i<L.length/\L.getD i 0=A:=λ{i A} e=>⟨(aAw.mp e).1,by rw[aAo,e];rfl⟩;obtain⟨iA,t⟩:=at_ O;obtain⟨iB,v⟩:=at_ Q;obtain⟨U,gC⟩:=at_ s;have hC:=aAu s;have er:G.cr (A-C) (B-C)≠0:=by rw[show G.cr (A-C) (B-C)=G.cr (B-A) (C-A)by apply G.ext<;>simp<;>grind];exact e
 have y:∀{i j k x},f∈x->f∈eU L i j k x:=λh=>KF h;have E:∀{i j x},f∈x->f∈TY L i j x:=λh=>xY (λ_ _=>y) h;have m1:∀{i x},f∈x->f∈UR L i x:=λh=>xY (λ_ _=>E) h;have H:∀{p q:Nat} {X Y:G.V},p<k->q<k->p≠q->L.getD p 0=X->L.getD q 0=Y->G.Up L C X Y->G.d9 C X Y=f->f∈rO L:=λ{p q X Y} hp hq pq gX gY u d=>by
  have st:∀x,f∈eU L k p q x:=λx=>by
   unfold eU;rw[gC,gX,gY,jk ⟨⟨hp,pq⟩,λz=>by obtain⟨_,Z,_,w⟩:=u;rw[z]at w;simp[G.d5]at w,u.1⟩,d]
   exact VL _ _
  have a3:∀x,f∈TY L k p x:=λx=>vT (f:=eU L k p) (λ_ _=>y) st hq;have a2:∀x,f∈UR L k x:=λx=>vT (f:=TY L k) (λ_ _=>E) a3 (by lia);exact vT (f:=UR L) (λ_ _=>m1) a2 U
 rcases G.CK n o hC c a b er with⟨u,d⟩|⟨u,d⟩
 .exact H (p:=i) (q:=j) (by lia) r (by lia) t v u d
 .exact H (p:=j) (q:=i) r (by lia) (by lia) v t (G.ZO.mp u) d
def SL (L:List G.V)(f:G.V×Int):D:=.lst ((G.o8 f.1 f.2 L).map vd)
def Y2 (L:List G.V)(fs:Fc):List (D×D):=fs.map λf=>(gK f,SL L f)
def yG (L:List G.V)(fs:Fc):(Y2 L fs).map (·.1)=fs.map gK:=by unfold Y2;rw[aAV];rfl
def XM (L:List G.V)(f:G.V×Int)(fs:Fc):cB (Y2 L fs) (gK f) (SL L f)=Y2 L (sK f fs):=by
 unfold cB sK;have a:gK f∈(Y2 L fs).map (·.1)↔f∈fs:=by rw[yG,aAk];exact⟨by rintro⟨g,b,e⟩;exact yC e▸b,λh=>⟨f,h,rfl⟩⟩
 by_cases h:f∈fs
 .rw[jk (a.mpr h),jk h];have:∀p∈Y2 L fs,(if p.1=gK f then(p.1,SL L f)else p)=p:=λp d=>by
   obtain⟨g,_,rfl⟩:=aAk.mp d;split
   .rename_i e;rw[yC e]
   .rfl
  rw[aCK this];simp
 .rw[ka (λz=>h (a.mp z)),ka h];unfold Y2;rw[aBw];rfl
def W5:List D->RK
 |[.lst d]=>match F7 d with
  |some L=>(open Classical in if(∀X∈L,Sz 900 X)/\G.j4 L/\L.Pairwise (λa b=>G.i3 (b-a))/\L.length<=14 then .ok (Y2 L (rO L))else .bad)
  |none=>.bad
 |_=>.bad
def IR {L:List G.V}(d:∀X∈L,Sz 900 X)(e:G.j4 L)(f:L.Pairwise (λa b=>G.i3 (b-a)))(g:L.length<=14):W5 [.lst (L.map vd)]=.ok (Y2 L (rO L)):=by simp only[W5,w6];exact jk ⟨d,e,f,g⟩
def EX {ds:List D}{N:List (D×D)}(h:W5 ds=.ok N):∃L,ds=[.lst (L.map vd)]/\(∀X∈L,Sz 900 X)/\G.j4 L/\L.Pairwise (λa b=>G.i3 (b-a))/\L.length<=14/\N=Y2 L (rO L):=by
 unfold W5 at h;split at h
 .split at h
  .rename_i L e;split at h
   .rename_i z;obtain⟨d,f,g,i⟩:=z;cases h;exact⟨L,by rw[u3 e],d,f,g,i,rfl⟩
   .cases h
  .cases h
 .cases h
def vX {q:G.V->Bool}(L:List G.V):((aAQ L.length).filter λn=>q (L.getD n 0)).map (λn=>vd (L.getD n 0))=(L.filter q).map vd:=by
 have e:L=(aAQ L.length).map λn=>L.getD n 0:=by refine List.ext_getElem (by simp) λn a b=>?_;simp[aAo,aAg a]
 have:(L.filter q)=((aAQ L.length).filter λn=>q (L.getD n 0)).map λn=>L.getD n 0:=by
  conv=>lhs;rw[e]
  rw[List.filter_map];rfl
 rw[this,aAV];rfl
def RL {A B C:G.V}(h:G.cr (B-A) (C-A)≠0)(L:List G.V):(L.filter λX=>decide (G.d5 (G.cr (B-A) (C-A)) (X-A)=0))=G.o8 (G.d9 A B C).1 (G.d9 A B C).2 L:=by
 obtain⟨g,d,a,e,b⟩:=G.W7 h;unfold G.o8;refine List.filter_congr λX _=>decide_eq_decide.mpr ?_;rw[a,b];have:G.d5 (g*(G.d9 A B C).1) (X-A)=g*(G.d5 (G.d9 A B C).1 X-G.d5 (G.d9 A B C).1 A):=by simp[G.d5];grind
 rw[this,aAy]
 lia
def yx {L:List G.V}{f:G.V×Int}{fs:Fc}{a:Sl}{r:Ev}(h:fs.length<=2744):qB 1 (a::.d (Y2 L fs)::r) (gK f) (SL L f)=.ok (.nx (a::.d (Y2 L (sK f fs))::r)):=by have e:qB 1 (a::.d (Y2 L fs)::r) (gK f) (SL L f)=.ok (.nx (a::.d (cB (Y2 L fs) (gK f)<|SL L f)::r)):=jk ⟨rfl,rfl,aAs (show(Y2 L fs).length<=2744 by unfold Y2;rw[aAi];exact h) (by decide)⟩;rw[e,XM]
def WP {L:List G.V}{fs:Fc}(a:L.length<=14)(h:zC L fs):fs.length<=2744:=aAs (G.uA h.1 h.2) (aCW a<|aCW a a)
structure Bd4 (L:List G.V):Prop where
 sz:aS 900 L
 sol:G.j4 L
 ord:L.Pairwise λa b=>G.i3 (b-a)
 len:L.length<=14
 cor:∀X∈L,∃f:G.V×Int,G.IsFace L f.1 f.2/\X∈G.i4 L f
section
variable{L:List G.V} (h:Bd4 L)
include h
theorem Bd4.self:f6 L=L:=nH h.ord
theorem Bd4.lok:ZK L:=⟨h.sz,h.sol,by rw[h.self];exact h.len⟩
theorem Bd4.ab6:(∀f,f∈j1 L↔G.IsFace L f.1 f.2)/\j1 L≠[]/\(j1 L).Nodup:=by have:=h.lok.ab6;rw[h.self]at this;exact this
theorem Bd4.on {f:G.V×Int}(i:G.IsFace L f.1 f.2){X:G.V}(n:X∈G.o8 f.1 f.2 L):X∈G.i4 L f:=by
 obtain⟨a,e⟩:=G.d8.mp n;obtain⟨g,b,j⟩:=h.cor X a;obtain⟨o,u,p,q,k,r,d,l,s,t⟩:=G.yA h.sol h.ord b j;by_cases z:f=g
 .rw[z];exact j
 by_cases m:f=o
 .subst m;exact G.pW h.sol h.ord a i b q e l t k.symm d r
 .exact G.pW h.sol h.ord a i b p e l s z m k
theorem Bd4.few:(j1 L).length<=60:=by
 obtain⟨a,b,c⟩:=h.ab6;have few:=G.aX h.sol h.ord c λf d=>(a f).mp d;have e:=G.dU h.sol h.ord λf d=>(a f).mp d;have g:L.length*L.length<=14*L.length:=Nat.mul_le_mul_right _ h.len;have:=h.len
 lia
theorem Bd4.perm:(rO L).Perm (j1 L):=(aBO (DO h.sol<|aAj _).1 h.ab6.2.2).mpr λf=>(ix h.sol f).trans (h.ab6.1 f).symm
theorem Bd4.sorted {ρ:Ev}(e:ρ[2]?=some (.d (Y2 L (rO L)))):sdR 2 ρ=.ok ((j1 L).map gK):=by
 have pt:∀d∈(rO L).map gK,aP d=true:=λd b=>by obtain⟨f,_,rfl⟩:=aAk.mp b;rfl
 unfold sdR;rw[e];dsimp only;have i:=h.few;rw[yG,jk ⟨aBN.mpr pt,by unfold Y2;rw[aAi,h.perm.length_eq];lia⟩];congr 1;obtain⟨m,r,e,g⟩:=Z3 h.sz h.sol (by rw[h.self];have:=h.len;lia);have a:=J2 g (by rw[<-e,h.self];exact h.len);rw[<-e,h.self]at a;refine eS (V5 _) ?_ λd=>?_
 .have:=a.2;unfold rQ at this;unfold PM;rw[aBm]at this⊢;exact this
 .rw[K0 pt];exact(h.perm.map gK).mem_iff
end
def nq (s:List G.V):List (G.V×G.V):=s.flatMap λP=>s.map λQ=>(P,Q)
def Go4 (n:G.V)(s:List G.V)(P Q:G.V):Prop:=P≠Q/\∀R∈s,R≠P->R≠Q->0<G.d5 n (G.cr (Q-P)<|R-P)
open Classical in
def cW (n:G.V) (s:List G.V) (e:G.V×G.V):Bool:=decide (Go4 n s e.1 e.2)
open Classical in
def rG {n:G.V}{s:List G.V}{e:G.V×G.V}:cW n s e=true↔Go4 n s e.1 e.2:=⟨λq=>of_decide_eq_true q,λq=>decide_eq_true q⟩
def CD (n:G.V) (s:List G.V):G.V:=G.ar (s.getD 0 0) ((nq s).filter (cW n s))
def bx (n:G.V)(s:List G.V):Prop:=Sz 2003 n/\(∀X∈s,Sz 900 X)/\3<=s.length/\s.length<=30/\s.Nodup
def oO:List D->R D:=v4 λa b c d=>tj λs=>iZ (TX (bx ⟨a,b,c⟩ s)<|vd<|CD ⟨a,b,c⟩ s)
def MI {f:G.V×Int}{s:List G.V}(h:bx f.1 s):oO [gK f,.lst (s.map vd)]=.ok (vd (CD f.1 s)):=(kN _ s _).trans (fT h)
def IN {s:List G.V}{P Q:G.V}:(P,Q)∈nq s↔P∈s/\Q∈s:=by
 unfold nq;rw[aBf];constructor
 .rintro⟨d,a,h⟩;obtain⟨f,b,e⟩:=aAk.mp h;cases e;exact⟨a,b⟩
 .rintro⟨a,b⟩;exact⟨P,a,aAk.mpr ⟨Q,b,rfl⟩⟩
def KI {s:List G.V}(h:s.Nodup):(nq s).Nodup:=by
 have g:∀l:List G.V,l.Nodup->(l.flatMap λP=>s.map λQ=>(P,Q)).Nodup:=λl=>by
  induction l with
  |nil=>intro _;exact .nil
  |cons P l i=>intro d;obtain⟨j,d⟩:=aAI.mp d;rw[aDB,aCo];refine⟨aBm.mpr (h.imp λ{a b} n e=>n (by injection e)),i d,λa k b f e=>?_⟩;obtain⟨Q,_,rfl⟩:=aAk.mp k;obtain⟨p,m,f⟩:=aBf.mp f;obtain⟨q,_,rfl⟩:=aAk.mp f;injection e with o r;exact j (o▸m)
 exact g s h
section
variable{L:List G.V} (h:Bd4 L)
include h
theorem Bd4.goes {f:G.V×Int}(d:G.IsFace L f.1 f.2){P Q:G.V}:(P∈G.o8 f.1 f.2 L/\Q∈G.o8 f.1 f.2 L)/\Go4 f.1 (G.o8 f.1 f.2 L) P Q↔(P,Q)∈G.B8 (G.i4 L f):=by
 have S:=d.aa2 h.ord;show _↔(P,Q)∈G.B8 (G.l6 f.1 (G.o8 f.1 f.2 L));rw[S.aa1];have ends:∀P Q:G.V,G.wj P Q P/\G.wj P Q Q:=λP Q=>⟨⟨λq=>⟨.inl rfl,.inr q⟩,λq=>⟨.inl rfl,.inr q⟩⟩,⟨λq=>⟨.inr q,.inl rfl⟩,λq=>⟨.inr q,.inl rfl⟩⟩⟩;constructor
 .rintro⟨⟨g,i⟩,ne,st⟩;have j:G.i9 f.1 (Q-P) (P-P)=0:=by simp[G.i9,G.d5]
  have k:G.i9 f.1 (Q-P) (Q-P)=0:=by simp[G.i9,G.d5];grind
  refine⟨g,i,ne,λX b=>?_,λX b z=>?_⟩
  .by_cases e:X=P
   .subst e;rw[j];exact aBX 0
   by_cases a:X=Q
   .subst a;rw[k];exact aBX 0
   .exact aAT (st X b e a)
  .by_cases e:X=P
   .subst e;exact(ends X Q).1
   by_cases a:X=Q
   .subst a;exact(ends P X).2
   .have:=st X b e a;have z:G.d5 f.1 (G.cr (Q-P)<|X-P)=0:=z
    lia
 .intro E;exact⟨⟨E.p,E.q⟩,E.ne,λR l m n=>S.strict E (h.on d l) m n⟩
theorem Bd4.af9 {f:G.V×Int}(g:G.IsFace L f.1 f.2):bx f.1 (G.o8 f.1 f.2 L)/\∃d r,G.o8 f.1 f.2 L=d::r/\∀V,0-G.d5 (CD f.1 (G.o8 f.1 f.2 L)) (V-d)=P6 (G.i4 L f) V:=by
 have S:=g.aa2 h.ord;have i:(G.o8 f.1 f.2 L).Nodup:=S.ord.imp λ{a b} q e=>by rw[e]at q;exact G.y7 q q
 obtain⟨a,b,c,x,e⟩:=G.C6 h.ord g;have len:3<=(G.o8 f.1 f.2 L).length:=by
  have l:(G.l6 f.1 (G.o8 f.1 f.2 L)).Nodup:=S.aa3;have:=G.M5 l (m:=G.o8 f.1 f.2 L) λv o=>S.aa4 o;rw[e]at this;simp at this
  lia
 have p:(G.o8 f.1 f.2 L).length<=30:=aAs (aDA _ _) (by have:=h.len;lia);have s:Sz 2003 f.1:=UZ h.sz (by rw[h.self];exact g);refine⟨⟨s,λX t=>h.sz.1 X (G.d8.mp t).1,len,p,i⟩,?_⟩;obtain⟨d,r,j⟩:∃d r,G.o8 f.1 f.2 L=d::r:=aDG λz=>by rw[z]at len;simp at len
 refine⟨d,r,j,λV=>?_⟩;have u:((nq<|G.o8 f.1 f.2 L).filter (cW f.1 (G.o8 f.1 f.2 L))).Perm (G.B8<|G.i4 L f):=by
  have w:(G.B8<|G.i4 L f).Nodup:=by
   have:((G.B8<|G.i4 L f).map (·.1)).Nodup:=by rw[G.wK];exact S.aa3
   exact(aBm.mp this).imp λ{a b} n q=>n (by rw[q])
  refine(aBO ((KI i).sublist List.filter_sublist) w).mpr λ⟨P,Q⟩=>?_;rw[aBS,IN,<-h.goes g];exact and_congr_right λ_=>rG
 have on:G.d5 f.1 d=f.2:=(G.d8.mp (show d∈G.o8 f.1 f.2 L by rw[j];exact .head _)).2;have k:=aY h.lok (f:=f) (by rw[h.self];exact g) on V;rw[h.self]at k;rw[k];unfold CD;rw[G.HS u,G.FH]
 lia
end
def YO:Int:=2000000000000000000001
def JS:Int:=1000000000000000000000
def kK (l:List G.V)(c:Int):G.V:=
 let P:=l.getD ((c.fdiv 4).fmod l.length).toNat 0
 let Q:=l.getD ((c.fdiv 64).fmod l.length).toNat 0
 if c.fmod 4=1 then⟨P.x+(c.fdiv 4).fmod 5-2,P.y+(c.fdiv 20).fmod 5-2,P.z+(c.fdiv 100).fmod 5-2⟩
 else if c.fmod 4=2 then⟨2*Q.x-P.x,2*Q.y-P.y,2*Q.z-P.z⟩
 else if c.fmod 4=3 then⟨(c*48611+JS).fmod YO-JS,(c*c*7919+JS).fmod YO-JS,(c*c*c+JS).fmod YO-JS⟩
 else P
def bw (l:List G.V)(c:Int):Prop:=l≠[]/\l.length<=1000/\(∀X∈l,Sz 900 X)/\bits c<=2000000
def jQ:List D->R D:=tj λl=>zA λc=>iZ (TX (bw l c)<|vd<|kK l c)
def KR {l:List G.V}{c:Int}(h:bw l c):jQ [.lst (l.map vd),.int c]=.ok (vd (kK l c)):=(kN _ l _).trans (fT h)
def IE {l:List G.V}(d:l≠[])(c:Int):(c.fmod l.length).toNat<l.length/\0<=c.fmod l.length/\(0:Int)<l.length:=by
 have e:(0:Int)<l.length:=by
  have:l.length≠0:=λz=>d (aDj z)
  lia
 have r:=B4 (a:=c) (b:=(l.length:Int)) e
 lia
def NE {l:List G.V}{c:Int}(h:bw l c):Sz 5000 (kK l c):=by
 obtain⟨g,_,i,_⟩:=h;have d:=i _ (C1 (IE g<|c.fdiv 4).1);have e:=i _ (C1 (IE g<|c.fdiv 64).1);unfold kK;dsimp only;generalize l.getD ((c.fdiv 4).fmod l.length).toNat 0=P at*
 generalize l.getD ((c.fdiv 64).fmod l.length).toNat 0=Q at*
 have a:∀{x:Int} (y:Int),bits x<=900->bits (x+y.fmod 5-2)<=5000:=λy h=>f7 (bits_sub (n:=901) (bits_add h (bits_fmod (by decide) (by decide))) (by decide));have b:∀{x y:Int},bits x<=900->bits y<=900->bits (2*y-x)<=5000:=λh j=>f7 (bits_sub (n:=902) (bits_mul (show bits 2<=2 by decide) j)<|f7 h);have f:∀x:Int,bits (x.fmod YO-JS)<=5000:=λx=>f7 (bits_sub (n:=80) (bits_fmod (by decide) (by decide)) (by decide))
 repeat' split
 .exact⟨a _ d.1,a _ d.2.1,a _ d.2.2⟩
 .exact⟨b d.1 e.1,b d.2.1 e.2.1,b d.2.2 e.2.2⟩
 .exact⟨f _,f _,f _⟩
 .exact d.mono
def oI:List D->R D:=HW λY=>HW λb=>iZ (TX (Y=b/\∃a:List Int,Y=a.map D.int/\a.length<=1000)<|.bl true)
def BW {ns:List Int}(h:ns.length<=1000):oI [.lst (ns.map D.int),.lst (ns.map D.int)]=.ok (.bl true):=fT ⟨rfl,ns,rfl,h⟩
def oN:List D->R D:=HW λY=>iZ (TX (Y.length<=63/\iR 1048576 Y)<|.bl true)
def xq {J:List G.V}(f:aS 900 J)(g:G.j4 J)(h:(f6 J).length<=14):Bd4 (D7 J):=by
 obtain⟨a,b,d,e,i,l⟩:=IQ f g h;refine⟨b,a,o9 _,e,λX j=>?_⟩;have k:X∈D7 (D7 J):=by rw[i];exact j
 have:=(qJ b a (by rw[d];exact e) X).mp k;rw[d]at this;exact this
theorem ZB {o:G.V}(a:Sz 900 o):∀{l:List (G.V×G.V)},(∀e∈l,Sz 900 e.1/\Sz 900 e.2)->Sz (1803+l.length) (G.ar o l)
 |[],_=>⟨aAM _,aAM _,aAM _⟩
 |e::l,h=>by have i:=ZB a (l:=l) λe b=>h e (.tail _ b);have c:Sz 1803 (G.cr (e.1-o)<|e.2-o):=((h e<|.head _).1.sub a).cr ((h e<|.head _).2.sub a);rw[G.N3];exact(c.mono<|aDP _ _).add i
def a2t {L:List G.V}(B:Bd4 L){f:G.V×Int}(j:f∈j1 L):oO [gK f,SL L f]=.ok (vd (CD f.1 (G.o8 f.1 f.2 L)))/\T0 (SL L f) (.int 0)=.ok (vd ((G.o8 f.1 f.2 L).getD 0 0))/\∀V,Sz 5000 V->j2 [vd (CD f.1 (G.o8 f.1 f.2 L)),vd (V-(G.o8 f.1 f.2 L).getD 0 0)]=.ok (.int (G.d5 (CD f.1 (G.o8 f.1 f.2 L)) (V-(G.o8 f.1 f.2 L).getD 0 0)))/\0-G.d5 (CD f.1 (G.o8 f.1 f.2 L)) (V-(G.o8 f.1 f.2 L).getD 0 0)=P6 (G.i4 L f) V:=by
 obtain⟨a,k,r,b,o⟩:=B.af9 ((B.ab6.1 f).mp j);have p:(G.o8 f.1 f.2 L).getD 0 0=k:=by rw[b];rfl
 have d:0<(G.o8 f.1 f.2 L).length:=by rw[b];simp
 refine⟨MI a,Y0 (i:=0) (getD_at d),λV q=>⟨?_,by rw[p];exact o V⟩⟩;have h:=a.2.1 _ (C1 d);have t:=ZB h (l:=(nq<|G.o8 f.1 f.2 L).filter (cW f.1 (G.o8 f.1 f.2 L))) λe u=>by have:=IN.mp (aBS.mp u).1;exact⟨a.2.1 _ this.1,a.2.1 _ this.2⟩
 have w:((nq<|G.o8 f.1 f.2 L).filter (cW f.1 (G.o8 f.1 f.2 L))).length<=900:=by
  refine aAs (aDA _ _) ?_;have g:∀m s:List G.V,(m.flatMap λP=>s.map λQ=>(P,Q)).length=m.length*s.length:=λm s=>by
   induction m with
   |nil=>simp
   |cons P m v=>rw[aDB,aAC,v,aAi,aAr,aGC,aGD]
  show((G.o8 f.1 f.2 L).flatMap λP=>(G.o8 f.1 f.2 L).map λQ=>(P,Q)).length<=30*30;rw[g];exact aCW a.2.2.2.1 a.2.2.2.1
 exact V2 (Sz.mono t (by lia)) ((q.mono (n:=5000)).sub (h.mono (n:=5000))).mono
def a1p {L:List G.V}{fs:Fc}{f:G.V×Int}{a:Sl}(h:f∈fs):UG 1 [a,.d (Y2 L fs)] (gK f)=.ok (SL L f):=by
 have e:atK (Y2 L fs) (gK f)=some (SL L f):=by
  unfold atK;cases q:(Y2 L fs).find? (λp=>decide (p.1=gK f))with
  |none=>rw[List.find?_eq_none]at q;exact absurd (decide_eq_true rfl) (q (gK f,SL L f)<|aAk.mpr ⟨f,h,rfl⟩)
  |some p=>obtain⟨g,_,rfl⟩:=aAk.mp (aFh q);have z:decide (gK g=gK f)=true:=List.find?_some (p:=λp:D×D=>decide (p.1=gK f)) q;rw[yC (of_decide_eq_true z)];rfl
 unfold UG;dsimp only[aEc,aCF];rw[jk ⟨rfl,rfl⟩,e]
def a0k {Y:List D}(b:iR 1048576 Y):∃c:Int,bits c<=1048576/\(mJ (.lst ((Y.drop 9).take 1)) (.lst [.int 5])).bind (λx=>ET x none (some 1))=.ok (.lst [.int c]):=by
 have a:∀d∈(Y.drop 9).take 1,∃i,d=.int i/\bits i<=1048576:=λd e=>b d (aDI<|aEA e);have len:((Y.drop 9).take 1).length<=1:=List.length_take_le _ _;generalize(Y.drop 9).take 1=t at*
 match t,a,len with
 |[],_,_=>exact⟨5,by decide,rfl⟩
 |[d],a,_=>obtain⟨i,rfl,f⟩:=a d (.head _);exact⟨i,f,rfl⟩
end M
namespace K41
open PySem L2 DL M
def top (i:Nat):bM:=PySem.Challenge.pw_stakebodies_k41_rooms_by_faces.main.body.getD i (.Pass ⟨0,0,0,0⟩)
abbrev aN:bM:=top 5
abbrev sR:List Str:=["P", "Q"]
def pC:FnScope sR ["P", "Q"] (c6 aN):=G7
abbrev gZ:bM:=top 6
abbrev FI:List Str:=["u", "v"]
def AI:FnScope FI ["u", "v"] (c6 gZ):=G7
abbrev bJ:bM:=top 7
abbrev xN:List Str:=["u", "v"]
def rX:FnScope xN ["u", "v"] (c6 bJ):=G7
abbrev mU:bM:=top 8
abbrev IP:List Str:=["P", "Q", "R", "S"]
def ER:FnScope IP ["P", "Q", "R", "S"] (c6 mU):=G7
abbrev P9:bM:=top 9
abbrev mR:List Str:=["numbers", "divisor", "number", "rest", "further"]
def jV:FnScope mR ["numbers"] (c6 P9):=G7
abbrev T5:bM:=top 10
abbrev nU:List Str:=["P", "Q", "R", "cross", "divisor", "upright"]
def mB:FnScope nU ["P", "Q", "R"] (c6 T5):=G7
abbrev lP:bM:=top 11
abbrev LU:List Str:=["plane", "P", "height"]
def FR:FnScope LU ["plane", "P"] (c6 lP):=G7
abbrev Q8:bM:=top 14
abbrev lF:List Str:=["ways", "way"]
def jY:FnScope lF ["ways"] (c6 Q8):=G7
abbrev D1:bM:=top 15
abbrev O7:List Str:=["points", "ways", "along", "upright"]
def nZ:FnScope O7 ["points"] (c6 D1):=G7
abbrev Z8:bM:=top 16
abbrev tJ:List Str:=["points"]
def rL:FnScope tJ ["points"] (c6 Z8):=G7
abbrev Y9:bM:=top 17
abbrev nN:List Str:=["plane", "points"]
def xQ:FnScope nN ["plane", "points"] (c6 Y9):=G7
abbrev aJ:bM:=top 18
abbrev rS:List Str:=["pair", "points", "along", "upright", "outermost", "P", "way"]
def pU:FnScope rS ["pair", "points"] (c6 aJ):=G7
abbrev bR:bM:=top 19
abbrev xC:List Str:=["points", "least", "upward", "touched"]
def rZ:FnScope xC ["points"] (c6 bR):=G7
abbrev mH:bM:=top 20
abbrev LA:List Str:=["upright", "P", "Q", "R"]
def FE:FnScope LA ["upright", "P", "Q", "R"] (c6 mH):=G7
abbrev bK:bM:=top 21
abbrev xX:List Str:=["upright", "points", "chain", "P"]
def rT:FnScope xX ["upright", "points"] (c6 bK):=G7
abbrev lV:bM:=top 22
abbrev LR:List Str:=["upright", "points", "there", "back"]
def GA:FnScope LR ["upright", "points"] (c6 lV):=G7
abbrev aO:bM:=top 23
abbrev rR:List Str:=["ring"]
def qD:FnScope rR ["ring"] (c6 aO):=G7
abbrev cO:bM:=top 24
abbrev wJ:List Str:=["first", "about", "touched_by", "faces", "walked", "waiting", "pair", "plane", "ring", "step"]
def gI:FnScope wJ ["first", "about", "touched_by"] (c6 cO):=G7
abbrev M0:bM:=top 25
abbrev iJ:List Str:=["points", "spread", "about", "touched_by"]
def nE:FnScope iJ ["points"] (c6 M0):=G7
abbrev bD:bM:=top 26
abbrev wX:List Str:=["faces", "corners", "plane", "ring"]
def rW:FnScope wX ["faces"] (c6 bD):=G7
abbrev mC:bM:=top 27
abbrev JW:List Str:=["points"]
def EL:FnScope JW ["points"] (c6 mC):=G7
abbrev Z2:bM:=top 29
abbrev nI:List Str:=["ring", "V"]
def xS:FnScope nI ["ring", "V"] (c6 Z2):=G7
abbrev U9:bM:=top 30
abbrev jF:List Str:=["land", "V"]
def tK:FnScope jF ["land", "V"] (c6 U9):=G7
abbrev W2:bM:=top 31
abbrev rM:List Str:=["land"]
def nT:FnScope rM ["land"] (c6 W2):=G7
abbrev X8:bM:=top 33
abbrev qK:List Str:=["script", "k"]
def oA:FnScope qK ["script", "k"] (c6 X8):=G7
abbrev gS:bM:=top 34
abbrev FZ:List Str:=["P", "Q"]
def zK:FnScope FZ ["P", "Q"] (c6 gS):=G7
abbrev cC:bM:=top 35
abbrev xB:List Str:=["u", "v"]
def rV:FnScope xB ["u", "v"] (c6 cC):=G7
abbrev W6:bM:=top 36
abbrev pT:List Str:=["u", "v"]
def oF:FnScope pT ["u", "v"] (c6 W6):=G7
abbrev bZ:bM:=top 37
abbrev wD:List Str:=["cell", "most", "x", "y"]
def sF:FnScope wD ["cell"] (c6 bZ):=G7
abbrev J1:bM:=top 38
abbrev R9:List Str:=["script", "cell", "a", "b", "c", "kind", "some"]
def vW:FnScope R9 ["script"] (c6 J1):=G7
abbrev bH:bM:=top 39
abbrev vZ:List Str:=["spot", "script", "x", "y", "z", "cell", "most", "far"]
def sS:FnScope vZ ["spot", "script"] (c6 bH):=G7
abbrev dD:bM:=top 40
abbrev yX:List Str:=["land", "cell", "P", "Q", "most", "x", "y"]
def wV:FnScope yX ["land", "cell"] (c6 dD):=G7
abbrev bI:bM:=top 41
abbrev xO:List Str:=["normal", "P", "found", "number", "other", "plane"]
def sJ:FnScope xO ["normal", "P"] (c6 bI):=G7
abbrev N1:bM:=top 42
abbrev bN:List Str:=["land", "found", "i", "j", "k", "normal", "tops", "plane"]
def sI:FnScope bN ["land"] (c6 N1):=G7
abbrev F4:bM:=top 43
abbrev T4:List Str:=["plane", "some", "found", "P", "Q", "ways", "part"]
def lH:FnScope T4 ["plane", "some"] (c6 F4):=G7
abbrev Y6:bM:=top 44
abbrev nK:List Str:=["found", "due"]
def xF:FnScope nK ["found", "due"] (c6 Y6):=G7
abbrev cT:bM:=top 45
abbrev GU:List Str:=["script", "land", "faces", "areas", "handed", "cell", "V", "due", "found", "room"]
def MA:FnScope GU ["script"] (c6 cT):=G7
def eV:bM:=(t0 M0).getD 2 (.Pass ⟨0,0,0,0⟩)
abbrev IK:Str:= "faces_of.<locals>.about"
def L7:bM:=(t0 M0).getD 3 (.Pass ⟨0,0,0,0⟩)
abbrev jJ:Str:= "faces_of.<locals>.touched_by"
def tbK:List (Pos×Str):=[(IA eV,IK),(IA L7,jJ)]
section
variable [Tabs]
variable{P:ba} {w:be} {K:kc} {mg:cV} {base:bt}
def l8 (g:bF K mg "way_between" aN):w9 P w K mg base 1 "way_between" 2 l4:=by
 refine' n6 (k:=0) (F:=_) g pC (λf i j l=>?b) λe d m h=>?_
 case b=>refine' (d6<|j0<|gT (b9 p5 (PD.pb<|f9 (b8 1) c8)<|PD.pb<|f9 (b8 0) c8) (b9 p5 (PD.pb<|f9 (b8 1) c8)<|PD.pb<|f9 (b8 0) c8)<|b9 p5 (PD.pb<|f9 (b8 1) c8)<|PD.pb<|f9 (b8 0) c8)
 replace h:=B1 h;obtain⟨a,b,c,e,rfl,h⟩:=h;replace h:=B1 h;obtain⟨n,o,p,e,rfl,h⟩:=h;replace h:=y6 h;obtain⟨rfl,h⟩:=h;exact h
def A9 (g:bF K mg "cross_of" gZ):w9 P w K mg base 1 "cross_of" 2 u4:=by
 refine' n6 (k:=0) (F:=_) g AI (λp q r s=>?b) λe d t h=>?_
 case b=>refine' (d6<|j0<|gT (b9 p5 (PD.pb<|b9 j5 (PD.pb<|f9 (b8 0) c8)<|PD.pb<|f9 (b8 1) c8)<|PD.pb<|b9 j5 (PD.pb<|f9 (b8 0) c8)<|PD.pb<|f9 (b8 1) c8) (b9 p5 (PD.pb<|b9 j5 (PD.pb<|f9 (b8 0) c8)<|PD.pb<|f9 (b8 1) c8)<|PD.pb<|b9 j5 (PD.pb<|f9 (b8 0) c8)<|PD.pb<|f9 (b8 1) c8)<|b9 p5 (PD.pb<|b9 j5 (PD.pb<|f9 (b8 0) c8)<|PD.pb<|f9 (b8 1) c8)<|PD.pb<|b9 j5 (PD.pb<|f9 (b8 0) c8)<|PD.pb<|f9 (b8 1) c8)
 replace h:=B1 h;obtain⟨a,b,c,e,rfl,h⟩:=h;replace h:=B1 h;obtain⟨u,v,x,e,rfl,h⟩:=h;replace h:=y6 h;obtain⟨rfl,h⟩:=h;split at h
 .rename_i o;obtain⟨⟨f,i,j⟩,l,m,n⟩:=o;rw[<-h];simp[j6,j9 (v6.of i n),j9 (v6.of j m),j9 (v6.of j l),j9 (v6.of f n),j9 (v6.of f m),j9 (v6.of i l)]
 .cases h
def v8 (g:bF K mg "product_of" bJ):w9 P w K mg base 1 "product_of" 2 j2:=by
 refine' n6 (k:=0) (F:=_) g rX (λp q r s=>?b) λe d u h=>?_
 case b=>refine' (d6<|j0<|b9 l7 (PD.pb<|b9 l7 (PD.pb<|b9 j5 (PD.pb<|f9 (b8 0) c8)<|PD.pb<|f9 (b8 1) c8)<|PD.pb<|b9 j5 (PD.pb<|f9 (b8 0) c8)<|PD.pb<|f9 (b8 1) c8)<|PD.pb<|b9 j5 (PD.pb<|f9 (b8 0) c8)<|PD.pb<|f9 (b8 1) c8)
 replace h:=ZS h;obtain⟨a,b,c,t,e,rfl,h⟩:=h;replace h:=B1 h;obtain⟨v,x,y,e,rfl,h⟩:=h;replace h:=y6 h;obtain⟨rfl,h⟩:=h;split at h
 .rename_i f;obtain⟨⟨i,j,l⟩,m,n,o⟩:=f;rw[<-h];simp[j6,YY,ZC,YI,j9 (v6.of i m),j9 (v6.of j n),j9 (v6.of l o)]
 .cases h
def lX (v8:w9 P w K mg base 1 "product_of" 2 j2)(A9:w9 P w K mg base 1 "cross_of" 2 u4)(l8:w9 P w K mg base 1 "way_between" 2 l4)(g:bF K mg "lift_of" mU):w9 P w K mg base 2 "lift_of" 4 fS:=by
 refine' n6 (k:=1) (F:=_) g ER (λm A B C=>?b) λn d E h=>?_
 case b=>refine' (d6<|j0<|P7 v8 m (P7 A9 m (P7 l8 m (c7 0)<|c7 1)<|P7 l8 m (c7 0)<|c7 2)<|P7 l8 m (c7 0)<|c7 3)
 replace h:=B1 h;obtain⟨a,b,c,n,rfl,h⟩:=h;replace h:=B1 h;obtain⟨d,e,f,n,rfl,h⟩:=h;replace h:=B1 h;obtain⟨g,o,i,n,rfl,h⟩:=h;replace h:=B1 h;obtain⟨j,k,l,n,rfl,h⟩:=h;replace h:=y6 h;obtain⟨rfl,h⟩:=h;split at h
 .rename_i y;obtain⟨p,q,r,s⟩:=y;rw[<-h];have t:=S1 (u:=⟨d,e,f⟩-⟨a,b,c⟩) (v:=⟨g,o,i⟩-⟨a,b,c⟩) (q.sub p).mono (r.sub p).mono;have x:=V2 (u:=G.cr (⟨d,e,f⟩-⟨a,b,c⟩) (⟨g,o,i⟩-⟨a,b,c⟩)) (v:=⟨j,k,l⟩-⟨a,b,c⟩) ((q.sub p).cr (r.sub p)).mono (s.sub p).mono;simp only[vd,G.MO,G.SK,G.QT,G.QX,G.OP,G.NZ]at t x;have z:∀a b c d e f:Int,l4 [.tup [.int a,.int b,.int c],.tup [.int d,.int e,.int f]]=.ok (.tup [.int (d-a),.int (e-b),.int (f-c)]):=λ_ _ _ _ _ _=>rfl;simp[j6,z,t,x,mY]
 .cases h
def R3 (I:mg "abs"=none)(g:bF K mg "common_divisor" P9):w9 P w K mg base 1 "common_divisor" 1 K3:=by
 refine' n6 (k:=0) (F:=_) g jV (λJ u L i=>?b) λt d N h=>?_
 case b=>
  refine' (c5 (i7 1 c8 i)
   (c5 (G9 aAW rfl (IL<|c7 0) (n4 2 i) (c5 (i7 3 (CB SF<|b8 2) i)
   (d6 (fM (YX 3) aAW (j3 (cS u) (b8 3) o5) (c5 (i7 4 (b9 q8 (b8 1)<|b8 3) i)
   (c5 (i7 1 (c7 3) i)
   (d6<|i7 3 (c7 4) i)))))))
   (d6<|j0<|c7 1)))
 replace h:=B1 h;obtain⟨a,b,c,t,rfl,h⟩:=h;replace h:=y6 h;obtain⟨rfl,h⟩:=h;rw[<-h];simp only[j6,aAn,aBH,aAD,aBq];simp only[C4,D9,R.aa0,uV,A3,aAr,aAR,aCj,aCk,aBZ,aBl,aBa,aBb];refine aU (λrest ρ=>∃(g:Nat) (n r f:Sl),ρ=[.v (.tup [.int a,.int b,.int c]),.v (.int g),n,r,f]/\∃e:List Int,rest=e.map D.int/\e.foldl (λg n=>aGg g n.natAbs) g=G.u0 ⟨a,b,c⟩) ?_ ⟨0,_,_,_,rfl,[a,b,c],rfl,by simp[G.u0]⟩ ?_
 .rintro d t ρ ⟨g,n,r,f,rfl,e,l,j⟩;match e,l,j with
  |x::e,l,j=>
   injection l with y A;subst y A;simp only[bY,aBa,aBb,o6,u7,E9,D3,R.aa0,PV,A3];have B:(if x<0 then-x else x)=(x.natAbs:Int):=by split<;>lia
   rw[B];refine qQ (λm ρ=>∃(p q:Nat) (f:Sl),ρ=[.v (.tup [.int a,.int b,.int c]),.v (.int p),.v (.int x),.v (.int q),f]/\q<m/\aGg p q=aGg g x.natAbs) ?_ (by rintro ρ ⟨p,q,f,_,h,_⟩;lia) ⟨g,x.natAbs,f,rfl,by show x.natAbs<((x.natAbs:Int).natAbs)+2;lia,rfl⟩ ?_
   .rintro m ρ ⟨p,q,f,rfl,C,s⟩;by_cases o:(q:Int)=0
    .exact .inl (by simp[o])
    .have E:q≠0:=by lia
     refine .inr ⟨by simp[E],_,?_,q,p%q,Sl.v (.int ((p%q:Nat):Int)),rfl,?_,?_⟩
     .have em:gU (.int (p:Int)) (.int (q:Int))=.ok (.int ((p%q:Nat):Int)):=by rw[rN o,aET _ (by lia)];rfl
      simp[em]
     .have:=aED p (show 0<q by lia)
      lia
     .rw[aFO,<-Nat.gcd_rec,aFO];exact s
   .rintro m ρ ⟨p,q,f,rfl,C,s⟩ H;have o:q=0:=by
     by_cases z:q=0
     .exact z
     .simp[z]at H
    subst o;refine⟨p,_,_,_,rfl,e,rfl,?_⟩;rw[<-j,aDw,<-s,Nat.gcd_zero_right]
 .rintro ρ ⟨g,n,r,f,rfl,e,l,j⟩;have:e=[]:=by simpa using l.symm
  subst this;simp at j;simp[j]
def T7 (A9:w9 P w K mg base 1 "cross_of" 2 u4)(l8:w9 P w K mg base 1 "way_between" 2 l4)(R3:w9 P w K mg base 1 "common_divisor" 1 K3)(v8:w9 P w K mg base 1 "product_of" 2 j2)(g:bF K mg "plane_through" T5):w9 P w K mg base 2 "plane_through" 3 T2:=by
 refine' n6 (k:=1) (F:=_) g mB (λl Y dh s=>?b) λA d hl h=>?_
 case b=>
  refine' (c5 (i7 3 (P7 A9 l (P7 l8 l (c7 0)<|c7 1)<|P7 l8 l (c7 0)<|c7 2) s)
   (c5 (i7 4 (DX R3 l<|c7 3) s)
   (c5 (v5 (j3 (M4 Y) (b8 4) o5) (d6 mF) m6)
   (c5 (i7 5 (gT (b9 u8 (PD.pb<|f9 (b8 3) c8)<|b8 4) (b9 u8 (PD.pb<|f9 (b8 3) c8)<|b8 4)<|b9 u8 (PD.pb<|f9 (b8 3) c8)<|b8 4) s)
   (d6<|j0<|pB<|i6 (f9 (b8 5) c8)<|i6 (f9 (b8 5) c8)<|i6 (f9 (b8 5) c8)<|i6 (P7 v8 l (c7 5)<|c7 0) o7)))))
 replace h:=B1 h;obtain⟨a,b,c,A,rfl,h⟩:=h;replace h:=B1 h;obtain⟨d,e,f,A,rfl,h⟩:=h;replace h:=B1 h;obtain⟨g,J,i,A,rfl,h⟩:=h;replace h:=y6 h;obtain⟨rfl,h⟩:=h
 .skip
  split at h
  .rename_i hz;obtain⟨⟨p,q,r⟩,n⟩:=hz;rw[<-h];obtain⟨P,B⟩:∃P:G.V,P=⟨a,b,c⟩:=⟨_,rfl⟩;obtain⟨Q,E⟩:∃P:G.V,P=⟨d,e,f⟩:=⟨_,rfl⟩;obtain⟨j,H⟩:∃P:G.V,P=⟨g,J,i⟩:=⟨_,rfl⟩;rw[<-B]at p n;rw[<-E]at q n;rw[<-H]at r n;have vP:(.tup [.int a,.int b,.int c]:D)=vd P:=by rw[B]
   have vQ:(.tup [.int d,.int e,.int f]:D)=vd Q:=by rw[E]
   have vR:(.tup [.int g,.int J,.int i]:D)=vd j:=by rw[H]
   rw[vP,vQ,vR,<-B,<-E,<-H];have o:=(q.sub p).cr (r.sub p);have c1:=S1 (u:=Q-P) (v:=j-P) (q.sub p).mono (r.sub p).mono;obtain⟨L,g1,g2⟩:=G.fG n;have m:((G.u0 (G.cr (Q-P)<|j-P):Nat):Int)≠0:=by lia
   have gb:tU ((G.u0 (G.cr (Q-P)<|j-P):Nat):Int):=⟨m,f7 (tQ o)⟩;have dv:=DQ (G.cr (Q-P)<|j-P);have pl:G.d9 P Q j=(G.cZ (G.cr (Q-P)<|j-P) (G.u0<|G.cr (Q-P)<|j-P),G.d5 (G.cZ (G.cr (Q-P)<|j-P)<|G.u0<|G.cr (Q-P)<|j-P) P):=rfl;rw[pl];generalize hC:G.cr (Q-P) (j-P)=C at*
   have sn:Sz 2003 (G.cZ C<|G.u0 C):=by have N:=bits_fdiv (b:=(G.u0 C:Int)) o.1;have O:=bits_fdiv (b:=(G.u0 C:Int)) o.2.1;have T:=bits_fdiv (b:=(G.u0 C:Int)) o.2.2;rw[dJ L]at N O T;exact⟨N,O,T⟩
   have d1:∀t:Int,R8 (.int t) (.int (G.u0 C:Nat))=.ok (.int (t/(G.u0 C:Nat))):=λt=>by rw[kR gb,dJ L]
   have U:=V2 (u:=G.cZ C (G.u0 C)) (v:=P) sn.mono p.mono;have e0:(((G.u0 C:Nat):Int)==0)=false:=by simpa using m
   simp only[G.cZ]at U;have I:j2 [.tup [.int (C.x/(G.u0 C:Nat)),.int (C.y/(G.u0 C:Nat)),.int (C.z/(G.u0 C:Nat))],vd P]=_:=U;simp[j6,c1,dv,e0,d1,I,G.cZ]
  .cases h
def mS (g:bF K mg "side_of" lP):w9 P w K mg base 1 "side_of" 2 aT:=by
 refine' n6 (k:=0) (F:=_) g FR (λv A B s=>?b) λq d C h=>?_
 case b=>
  refine' (c5 (i7 2 (b9 p5 (PD.pb<|b9 l7 (PD.pb<|b9 l7 (PD.pb<|b9 j5 (PD.pb<|f9 (b8 0) c8)<|PD.pb<|f9 (b8 1) c8)<|PD.pb<|b9 j5 (PD.pb<|f9 (b8 0) c8)<|PD.pb<|f9 (b8 1) c8)<|PD.pb<|b9 j5 (PD.pb<|f9 (b8 0) c8)<|PD.pb<|f9 (b8 1) c8)<|PD.pb<|f9 (b8 0) c8) s)
   (c5 (v5 (j3 uZ (b8 2) o5) (d6<|j0 c8) m6)
   (c5 (v5 (j3 yU (b8 2) o5) (d6<|j0<|lO c8) m6)
   (d6<|j0 c8))))
 replace h:=QN h;obtain⟨a,b,c,d,q,rfl,h⟩:=h;replace h:=B1 h;obtain⟨x,y,z,q,rfl,h⟩:=h;replace h:=y6 h;obtain⟨rfl,h⟩:=h
 .skip
  split at h
  .rename_i u;obtain⟨⟨e,f,i⟩,j,l,m⟩:=u;rw[<-h];obtain⟨t,r⟩:∃t,a*x+b*y+c*z-d=t:=⟨_,rfl⟩;have o:MD (.int (a*x+b*y+c*z)) (.int d)=.ok (.int t):=by rw[<-r];rfl
   rw[r];unfold sgn;by_cases p:0<t
   .simp[-Y4,j6,j9 (v6.of e j),j9 (v6.of f l),j9 (v6.of i m),p,o]
   .by_cases n:t<0
    .simp[-Y4,j6,j9 (v6.of e j),j9 (v6.of f l),j9 (v6.of i m),p,n,o]
    .simp[-Y4,j6,j9 (v6.of e j),j9 (v6.of f l),j9 (v6.of i m),p,n,o]
  .cases h
def J8 (j:NJ K mg "NO_WAY" [0,0,0])(g:bF K mg "first_real_way" Q8):w9 P w K mg base 1 "first_real_way" 1 A7:=by
 refine' n6 (k:=0) (F:=_) g jY (λp l q m=>?b) λn d r h=>?_
 case b=>
  refine' (c5 (G9 aAW rfl (t4<|c7 0) (n4 1 m)<|d6<|v5 (j3 (cS l) (b8 1)<|PD.pb<|yB j) (d6<|j0<|c7 1) m6)
   (d6<|j0 CQ))
 match n,h with
 |[.lst Y],h=>
  simp only[A7]at h;split at h
  .rename_i f i;rw[u3 i];rw[<-h];simp[j6];generalize Sl.v (D.lst<|aDr vd f)=a;generalize Sl.no=b;clear h i;induction f generalizing b with
   |nil=>rfl
   |cons v f o=>
    rw[aAn,G.B6];by_cases e:v=0
    .rw[V0 (ρ2:=[a,.v (vd v)]) rfl (by simp[-CI,ne0,e]),o];simp[e]
    .rw[xL (x:=vd v) rfl (by simp[-CI,ne0,e])];simp[e,EM]
  .cases h
def I0 (l8:w9 P w K mg base 1 "way_between" 2 l4)(J8:w9 P w K mg base 1 "first_real_way" 1 A7)(A9:w9 P w K mg base 1 "cross_of" 2 u4)(v8:w9 P w K mg base 1 "product_of" 2 j2)(dn:mg "len"=none)(L:mg "any"=none)(g:bF K mg "dimension_of" D1):w9 P w K mg base 2 "dimension_of" 1 C9:=by
 refine' n6 (k:=1) (F:=_) g nZ (λy hu dh O=>?b) λn d hl h=>?_
 case b=>
  refine' (c5 (v5 (j3 (M4 hu) (PD.pb<|CB aM<|b8 0) o5) (d6 mF) m6)
   (c5 (jE 1 ["P"] ["points"] [0] O rfl (G6 (sc:=c6 D1) (N:=O7)) (t4<|c7 0) (LW λ_ _ _ _ _=>(P7 l8 y (f9 (b8 1) c8)<|c7 0))<|λ_=>t6)
   (c5 (i7 2 (DX J8 y<|c7 1) O)
   (c5 (v5 (j3 OB (b8 2)<|PD.pb CQ) (d6<|j0 c8) m6)
   (c5 (i7 3 (DX J8 y<|J7 ["way"] ["along"] [2] rfl (G6 (sc:=c6 D1) (N:=O7)) (t4<|c7 1) (LW λ_ _ _ _ _=>(P7 A9 y (c7 1)<|c7 0))<|λ_=>t6) O)
   (c5 (v5 (j3 OB (b8 3)<|PD.pb CQ) (d6<|j0 c8) m6)
   (c5 (v5 (fO<|CB (cw rfl)<|PD.pb<|J7 ["way"] ["upright"] [3] rfl (G6 (sc:=c6 D1) (N:=O7)) (t4<|c7 1) (LW λ_ _ _ _ _=>(DG (cS hu) (PD.pb<|P7 v8 y (c7 1)<|c7 0) o5))<|λ_=>t6) (d6<|j0 c8) m6)
   (d6<|j0 c8))))))))
 match n,h with
 |[.lst Y],h=>
  simp only[C9]at h;split at h
  .rename_i J j;rw[u3 j];split at h
   .rename_i hz;rw[<-h];obtain⟨af,C⟩:=hz;match J,af with
    |p::o,_=>
    obtain⟨e,a⟩:∃e,(p::o).map vd=e:=⟨_,rfl⟩;have i0:T0 (.lst e) (.int 0)=.ok (vd p):=gM (by rw[cP (by decide),<-a];rfl);have E:w8 (λd ρ=>R.ok (aDF ρ 0<|Sl.v d)) (λx=>R.ok true) (λρ=>(((rY 1 ρ).bind λx=>T0 x (D.int 0)).bind λd=>((bL 0 ρ).bind λd=>R.ok [d]).bind λn=>R.ok (d::n)).bind l4) [.no,.v (.lst e)] e=.ok (((p::o).map (· -p)).map vd):=by rw[aAV];rw[show w8 _ _ _ _ e=w8 _ _ _ _ ((p::o).map vd)by rw[a]];refine V7 vd _ _ λq l=>⟨[.v (vd q),Sl.v (.lst e)],rfl,?_⟩;show((T0 (.lst e)<|.int 0).bind _).bind _=_;rw[i0];rfl
    have j:∀w∈(p::o).map (· -p),Sz 1001 w:=λw j=>by obtain⟨q,l,rfl⟩:=aAk.mp j;exact(C.1 q l).sub (C.1 p (.head _))
    have H:(((p::o).map (· -p)).map vd).length<=sizeLine:=by rw[aAi,aAi];exact small C.2
    have I:e.length<=sizeLine:=by rw[<-a,aAi];exact small C.2
    have f:((e.length:Int)==0)=false:=by rw[<-a];simp;lia
    have s:=CJ ((p::o).map (· -p));unfold G.U1;dsimp only;rw[a];generalize(p::o).map (· -p)=W at*
    have m:=λu=>CJ (W.map<|G.cr u);cases Q:G.B6 W with
    |none=>rw[Q]at s;simp[j6,i8,I,f,E,s,EM,QR]
    |some r=>
     rw[Q]at s;obtain⟨hm,_⟩:=G.v9 Q;have z:=j r hm;have A:w8 (λd ρ=>R.ok (aDF ρ 0<|Sl.v d)) (λx=>R.ok true) (λρ=>((bL 1 ρ).bind λd=>((bL 0 ρ).bind λd=>R.ok [d]).bind λn=>R.ok (d::n)).bind u4) [.no,.v (vd r)] (W.map vd)=.ok ((W.map<|G.cr r).map vd):=by rw[aAV];refine V7 vd _ _ λq l=>⟨[.v (vd q),Sl.v (vd r)],rfl,?_⟩;show u4 [vd r,vd q]=_;exact S1 z.mono (j q l).mono
     have m:=CJ (W.map<|G.cr r);have eW:(W.map vd).length=W.length:=aAi ..;rw[eW]at H;cases B:G.B6 (W.map<|G.cr r)with
     |none=>rw[B]at m;simp only[aAV]at A m;simp only[B];simp[j6,i8,I,f,E,s,EM,QR,H,A,m]
     |some i=>
      rw[B]at m;obtain⟨jm,_⟩:=G.v9 B;have T:Sz 2003 i:=by obtain⟨q,l,rfl⟩:=aAk.mp jm;exact(z.cr<|j q l).mono
      have U:w8 (λd ρ=>R.ok (aDF ρ 0<|Sl.v d)) (λx=>R.ok true) (λρ=>(((bL 1 ρ).bind λd=>((bL 0 ρ).bind λd=>R.ok [d]).bind λn=>R.ok (d::n)).bind j2).bind λx=>DH x (D.int 0)) [.no,.v (vd i)] (W.map vd)=.ok ((W.map λw=>decide (G.d5 i w≠0)).map D.bl):=by rw[aAV];refine V7 vd _ _ λq l=>⟨[.v (vd q),Sl.v (vd i)],rfl,?_⟩;show(j2 [vd i,vd q]).bind _=_;rw[V2 T.mono (j q l).mono,R.aa0,TV];congr 2;rw[aEa];simp
      have t:=jj (W.map λw=>decide (G.d5 i w≠0));have ean:(W.map λw=>decide (G.d5 i w≠0)).any id=W.any λw=>decide (G.d5 i w≠0):=by rw[List.any_map];rfl
      rw[ean]at t;simp only[aAV]at A m U t;simp only[B];generalize(λw=>decide (G.d5 i w≠0))=Bf at*
      cases hc:W.any Bf with
      |false=>rw[hc]at t;simp[j6,i8,I,f,E,s,EM,QR,H,A,m,U,t]
      |true=>rw[hc]at t;simp[j6,i8,I,f,E,s,EM,QR,H,A,m,U,t]
   .cases h
  .cases h
def aF (I0:w9 P w K mg base 2 "dimension_of" 1 C9)(g:bF K mg "refuse_flat" Z8):w9 P w K mg base 3 "refuse_flat" 1 G0:=by
 refine' n6 (k:=2) (F:=_) g rL (λf o p q=>?b) λi d r h=>?_
 case b=>refine' (d6<|v5 (j3 yU (PD.pb<|DX I0 f<|c7 0) o5) (d6 mF) m6)
 match i,h with
 |[.lst Y],h=>
  simp only[G0]at h;split at h
  .rename_i J j;rw[u3 j];split at h
   .rename_i l;rw[<-h];obtain⟨m,a⟩:=l;have n:J≠[]:=λe=>by subst e;cases a
    have e:=MQ n m;rw[a]at e;simp[j6,e]
   .cases h
  .cases h
def J5 (mS:w9 P w K mg base 1 "side_of" 2 aT)(g:bF K mg "points_on" Y9):w9 P w K mg base 2 "points_on" 2 A5:=by
 refine' n6 (k:=1) (F:=_) g xQ (λj l o p=>?b) λf d q h=>?_
 case b=>refine' (d6<|j0<|J7 ["P"] ["plane"] [0] rfl (G6 (sc:=c6 Y9) (N:=nN)) (t4<|c7 1) (hxt λ_ _ _ _ _=>⟨(j3 (M4 l) (PD.pb<|P7 mS j (c7 1)<|c7 0) o5),(c7 0)⟩)<|λ_=>t6)
 replace h:=QN h;obtain⟨a,b,c,d,f,rfl,h⟩:=h;replace h:=eJ h;obtain⟨Y,f,rfl,h⟩:=h;replace h:=y6 h;obtain⟨rfl,h⟩:=h
 .skip
  split at h
  .rename_i J m;rw[u3 m];split at h
   .rename_i i;rw[<-h];have e:=fF vd (G:=λd ρ=>R.ok (aDF ρ 0<|Sl.v d)) (ft:=λρ=>((((bL 1 ρ).bind λd=>((bL 0 ρ).bind λd=>R.ok [d]).bind λf=>R.ok (d::f)).bind aT).bind λx=>SG x (D.int 0)).bind xU) (fe:=bL 0) (ρ:=[.no,.v (.tup [D.int a,D.int b,D.int c,D.int d])])
     (λX=>decide (G.d5 ⟨a,b,c⟩ X=d)) vd J λP n=>⟨[.v (vd P),Sl.v (D.tup [D.int a,D.int b,D.int c,D.int d])],rfl,by simp[XY i.1.mono (i.2.1 P n).mono,a3n,G.d5];exact decide_eq_decide.mpr (by lia),λ_=>rfl⟩
    simp[j6,i8,small i.2.2,e];rfl
   .cases h
  .cases h
def L6 (l8:w9 P w K mg base 1 "way_between" 2 l4)(v8:w9 P w K mg base 1 "product_of" 2 j2)(A9:w9 P w K mg base 1 "cross_of" 2 u4)(T7:w9 P w K mg base 2 "plane_through" 3 T2)(T:NJ K mg "NO_WAY" [0,0,0])(g:bF K mg "plane_about" aJ):w9 P w K mg base 3 "plane_about" 2 G2:=by
 refine' n6 (k:=2) (F:=_) g pU (λr hu dh p=>?b) λI d hl h=>?_
 case b=>
  refine' (c5 (i7 2 (P7 l8 r (f9 (b8 0) c8)<|f9 (b8 0) c8) p)
   (c5 (i7 3 (yB T) p)
   (c5 (i7 4 (f9 (b8 0) c8) p)
   (c5 (G9 aAW rfl (t4<|c7 1) (n4 5 p) (c5 (i7 6 (P7 l8 r (f9 (b8 0) c8)<|c7 5) p)
   (d6 (v5 (uJ.pt<|iT (j3 (M4 hu) (b8 3)<|PD.pb<|yB T)<|fH<|j3 uZ (PD.pb<|P7 v8 r (c7 3)<|c7 6) o5) (c5 (i7 3 (P7 A9 r (c7 2)<|c7 6) p)
   (d6<|i7 4 (c7 5) p)) m6))))
   (d6<|j0<|pc3 T7 r (f9 (b8 0) c8) (f9 (b8 0) c8)<|c7 4)))))
 replace h:=xW h;obtain⟨U,I,rfl,h⟩:=h;replace h:=eJ h;obtain⟨Y,I,rfl,h⟩:=h;replace h:=y6 h;obtain⟨rfl,h⟩:=h;replace h:=B1 h;obtain⟨a,b,c,U,rfl,h⟩:=h;replace h:=B1 h;obtain⟨d,e,f,U,rfl,h⟩:=h;replace h:=y6 h;obtain⟨rfl,h⟩:=h
 .skip
  split at h
  .rename_i J hw;rw[u3 hw];split at h
   .rename_i hz;rw[<-h];obtain⟨q,E,hs,L⟩:=hz;have vA:(.tup [.int a,.int b,.int c]:D)=vd ⟨a,b,c⟩:=rfl;have vB:(.tup [.int d,.int e,.int f]:D)=vd ⟨d,e,f⟩:=rfl;rw[vA,vB];generalize(⟨a,b,c⟩:G.V)=A at*
    generalize(⟨d,e,f⟩:G.V)=B at*
    simp[j6];have z0:(.tup [.int 0,.int 0,.int 0]:D)=vd 0:=rfl;rw[z0];refine aU (λrest ρ=>∃(j i:G.V) (l:List G.V) (x y:Sl),ρ=[.v (.tup [vd A,vd B]),.v (.lst (aDr vd J)),.v (vd<|B-A),.v (vd j),.v (vd i),x,y]/\rest=l.map vd/\Sz 2003 j/\Sz 1000 i/\(∀X∈l,Sz 1000 X)/\G.G8 (B-A) A l j i=G.G8 (B-A) A J 0 A) ?_ ⟨0,A,J,_,_,rfl,rfl,⟨by decide,by decide,by decide⟩,q,hs.1,rfl⟩ ?_
    .rintro d I ρ ⟨j,i,l,x,y,rfl,s,N,O,t,m⟩;match l,s with
     |P::l,s=>
      injection s with e3 e4;subst e3 e4;have Q:=t P (.head _);have H:=Q.sub q;have e0:=eq0 j;rw[show(.tup [.int 0,.int 0,.int 0]:D)=vd 0 from rfl]at e0;have c1:=S1 (u:=B-A) (v:=P-A) (E.sub q).mono H.mono;have p1:=V2 (u:=j) (v:=P-A) N.mono H.mono;have w1:=qE A P;have i0:T0 (.tup [vd A,vd B]) (.int 0)=.ok (vd A):=rfl
      conv at m=>lhs;unfold G.G8
      simp only[bY,aBa,aBb,E9,D3,L3,C4,R.aa0,i0,w1,A3,e0,uC,p1,rD];by_cases n:j=0
      .rw[jk (.inl n)]at m;refine⟨_,?_,G.cr (B-A) (P-A),P,l,.v (vd P),.v (vd<|P-A),rfl,rfl,(((E.sub q).cr H).mono),Q,λX C=>t X (.tail _ C),m⟩;rw[decide_eq_true n];simp only[if_true,R.aa0,c1,A3,aBa,aBb,L3,C4]
      .rw[decide_eq_false n];by_cases o:0<G.d5 j (P-A)
       .rw[jk (.inr o)]at m;refine⟨_,?_,G.cr (B-A) (P-A),P,l,.v (vd P),.v (vd<|P-A),rfl,rfl,(((E.sub q).cr H).mono),Q,λX C=>t X (.tail _ C),m⟩;rw[decide_eq_true o];simp only[if_true,aAt,if_false,R.aa0,c1,A3,aBa,aBb,L3,C4]
       .rw[ka (λz=>z.elim n o)]at m;refine⟨_,?_,j,i,l,.v (vd P),.v (vd<|P-A),rfl,rfl,N,O,λX C=>t X (.tail _ C),m⟩;rw[decide_eq_false o];simp only[aAt,if_false,R.aa0]
    .rintro ρ ⟨j,i,l,x,y,rfl,s,N,O,t,m⟩;have:l=[]:=by simpa using s.symm
     subst this;have m:(j,i)=G.G8 (B-A) A J 0 A:=m;have eo:(G.G8 (B-A) A J 0 A).2=i:=by rw[<-m]
     unfold G.b7 at L⊢;rw[eo]at L⊢;have pl:=OI ⟨q,E,O⟩ (VY L);simp[pl]
   .cases h
  .cases h
def bQ (J5:w9 P w K mg base 2 "points_on" 2 A5)(L6:w9 P w K mg base 3 "plane_about" 2 G2)(I0:w9 P w K mg base 2 "dimension_of" 1 C9)(qt:mg "min"=none)(g:bF K mg "first_pair" bR):w9 P w K mg base 8 "first_pair" 1 K5:=by
 refine' n6 (k:=7) (F:=_) g rZ (λf z dh l=>?b) λA d hl h=>?_
 case b=>
  have o:=f.ad9 (by decide);refine' (c5 (i7 1 (jO (UV rfl o)<|A8 (b8 0) L0) l)
   (c5 (i7 2 (BX (c7 1)<|gT (f9 (b8 1) c8) (f9 (b8 1) c8)<|b9 l7 (PD.pb<|f9 (b8 1) c8) o5) l)
   (c5 (i7 3 (P7 J5 f (P7 L6 f (c7 2)<|c7 0)<|c7 0) l)
   (c5 (v5 (j3 (M4 z) (PD.pb<|DX I0 f<|c7 3) o5) (d6<|j0<|c7 2) m6)
   (d6<|j0<|BX (f9 (b8 3) c8)<|f9 (b8 3) c8)))))
 match A,h with
 |[.lst Y],h=>
  simp only[K5]at h;split at h
  .rename_i m J B;rw[u3 B];split at h
   .rename_i a;rw[<-h];have u:=dj a.good.ord;have i:aS 1000 (m::J):=a.sz.mono;have j:Sz 900 m:=a.sz.1 m (.head _);obtain⟨C,E,H,I,N⟩:=G.zH a.good.solid a.good.mem a.good.least;have p:=X7 j.mono (MU j) i C;have q:=zS j.mono (MU j) i;rw[yz]at p;have v:=kA (d:=(G.b7 m (m+G.kk) (m::J)).2) q.mono i;obtain⟨x,y,r,e⟩:=OS E I N;have O:=SH (n:=(G.b7 m (m+G.kk) (m::J)).1) (d:=(G.b7 m (m+G.kk) (m::J)).2) i;have s:=MQ (J:=G.o8 (G.b7 m (m+G.kk) (m::J)).1 (G.b7 m (m+G.kk) (m::J)).2 (m::J)) (by rw[e];simp) O;have Q:T0 (.lst ((G.o8 (G.b7 m (m+G.kk) (m::J)).1 (G.b7 m (m+G.kk) (m::J)).2 (m::J)).map vd)) (.int 0)=.ok (vd x):=gM (by rw[e];exact yw _ _);have T:T0 (.lst ((G.o8 (G.b7 m (m+G.kk) (m::J)).1 (G.b7 m (m+G.kk) (m::J)).2 (m::J)).map vd)) (.int 1)=.ok (vd y):=gM (by rw[e];exact a1s _ _ _);unfold G.i5;dsimp only;by_cases t:G.U1 (G.o8 (G.b7 m (m+G.kk) (m::J)).1 (G.b7 m (m+G.kk) (m::J)).2 (m::J))=2
    .rw[jk t];rw[t]at s;generalize(m::J).map vd=L at*
     generalize(G.o8 (G.b7 m (m+G.kk) (m::J)).1 (G.b7 m (m+G.kk) (m::J)).2 (m::J)).map vd=L2 at*
     generalize(G.b7 m (m+G.kk) (m::J)).1=U at*
     generalize(G.b7 m (m+G.kk) (m::J)).2=pm at*
     simp[j6,u,p,v,s,G.kk]
    .rw[ka t];have e0:(G.o8 (G.b7 m (m+G.kk) (m::J)).1 (G.b7 m (m+G.kk) (m::J)).2 (m::J)).getD 0 0=x:=by rw[e];rfl
     have e1:(G.o8 (G.b7 m (m+G.kk) (m::J)).1 (G.b7 m (m+G.kk) (m::J)).2 (m::J)).getD 1 0=y:=by rw[e];rfl
     rw[e0,e1];have hb:((G.U1 (G.o8 (G.b7 m (m+G.kk) (m::J)).1 (G.b7 m (m+G.kk) (m::J)).2 (m::J)):Int)==2)=false:=by rw[beq_eq_false_iff_ne];lia
     generalize(m::J).map vd=L at*
     generalize(G.o8 (G.b7 m (m+G.kk) (m::J)).1 (G.b7 m (m+G.kk) (m::J)).2 (m::J)).map vd=L2 at*
     generalize(G.U1 (G.o8 (G.b7 m (m+G.kk) (m::J)).1 (G.b7 m (m+G.kk) (m::J)).2 (m::J)):Int)=dd at*
     generalize(G.b7 m (m+G.kk) (m::J)).1=U at*
     generalize(G.b7 m (m+G.kk) (m::J)).2=pm at*
     simp[j6,u,p,v,s,hb,Q,T]
   .cases h
  .cases h
def lD (v8:w9 P w K mg base 1 "product_of" 2 j2)(A9:w9 P w K mg base 1 "cross_of" 2 u4)(l8:w9 P w K mg base 1 "way_between" 2 l4)(g:bF K mg "turn_of" mH):w9 P w K mg base 2 "turn_of" 4 fE:=by
 refine' n6 (k:=1) (F:=_) g FE (λm A B C=>?b) λn d E h=>?_
 case b=>refine' (d6<|j0<|P7 v8 m (c7 0)<|P7 A9 m (P7 l8 m (c7 1)<|c7 2)<|P7 l8 m (c7 2)<|c7 3)
 replace h:=B1 h;obtain⟨a,b,c,n,rfl,h⟩:=h;replace h:=B1 h;obtain⟨d,e,f,n,rfl,h⟩:=h;replace h:=B1 h;obtain⟨g,o,i,n,rfl,h⟩:=h;replace h:=B1 h;obtain⟨j,k,l,n,rfl,h⟩:=h;replace h:=y6 h;obtain⟨rfl,h⟩:=h
 .skip
  split at h
  .rename_i y;obtain⟨p,q,r,s⟩:=y;rw[<-h];have t:=S1 (u:=⟨g,o,i⟩-⟨d,e,f⟩) (v:=⟨j,k,l⟩-⟨g,o,i⟩) (r.sub q).mono (s.sub r).mono;have x:=V2 (u:=⟨a,b,c⟩) (v:=G.cr (⟨g,o,i⟩-⟨d,e,f⟩) (⟨j,k,l⟩-⟨g,o,i⟩)) p.mono ((r.sub q).cr (s.sub r)).mono;simp only[vd,G.MO,G.SK,G.QT,G.QX,G.OP,G.NZ]at t x;have z:∀a b c d e f:Int,l4 [.tup [.int a,.int b,.int c],.tup [.int d,.int e,.int f]]=.ok (.tup [.int (d-a),.int (e-b),.int (f-c)]):=λ_ _ _ _ _ _=>rfl;simp[j6,z,t,x,G.turn,G.i9]
  .cases h
def U3 (lD:w9 P w K mg base 2 "turn_of" 4 fE)(dn:mg "len"=none)(g:bF K mg "left_chain" bK):w9 P w K mg base 3 "left_chain" 2 V3:=by
 refine' n6 (k:=2) (F:=_) g rT (λhr hu dh T=>?b) λj d I h=>?_
 case b=>
  refine' (c5 (cM 2 (kZ o7) T)
   (c5 (G9 aAW rfl (t4<|c7 1) (n4 3 T) (c5 (fM (λ_=>1001) aAW (uJ.pt<|fR (j3 uZ (PD.pb<|CB aM<|b8 2) o5)<|bB<|j3 ZM (PD.pb<|pc4 lD hr (c7 0) (f9 (b8 2)<|lO c8) (f9 (b8 2)<|lO c8)<|c7 3) o5)<|d6<|YF 2)
   (d6<|W9 2<|c7 3)))
   (d6<|vU 2<|j0<|c7 2)))
 replace h:=B1 h;obtain⟨a,b,c,j,rfl,h⟩:=h;replace h:=eJ h;obtain⟨Y,j,rfl,h⟩:=h;replace h:=y6 h;obtain⟨rfl,h⟩:=h
 .skip
  split at h
  .rename_i J hw;rw[u3 hw];split at h
   .rename_i L;rw[<-h];obtain⟨U,hs⟩:=L;have vn:(.tup [.int a,.int b,.int c]:D)=vd ⟨a,b,c⟩:=rfl;rw[vn];generalize(⟨a,b,c⟩:G.V)=n at*
    simp[j6];refine aU (λrest ρ=>∃(c i:List G.V) (x:Sl),ρ=[.v (vd n),.v (.lst (aDr vd J)),.o (c.reverse.map vd),x]/\rest=i.map vd/\(∀X∈c,Sz 1000 X)/\(∀X∈i,Sz 1000 X)/\c.length+i.length<=1000/\i.foldl (λc P=>P::G.Y3 n P c) c=G.y3 n J) ?_ ⟨[],J,_,rfl,rfl,λX l=>by(cases l),hs.1,by simpa using hs.2,rfl⟩ ?_
    .rintro d j ρ ⟨c,i,x,rfl,t,sc,N,I,u⟩;match i,t with
     |P::i,t=>
      injection t with e3 e4;subst e3 e4;have O:=N P (.head _);simp only[aAr]at I;simp only[bY,aBa,aBb];refine Exists.elim (qQ (n:=1001) (ρ:=[.v (vd n),.v (.lst (aDr vd J)),.o (c.reverse.map vd),.v (vd P)]) (Post:=λρ=>∃e,ρ=[.v (vd n),.v (.lst (aDr vd J)),.o (e.reverse.map vd),.v (vd P)]/\(∀X∈e,Sz 1000 X)/\e.length<=c.length/\e=G.Y3 n P c)
       (c:=yV (λρ=>((((rY 2 ρ).bind λd=>R.ok [d]).bind tE).bind λx=>tz x (D.int 1)).bind xU) λρ=>((((bL 0 ρ).bind λd=>(((rY 2 ρ).bind λx=>T0 x (D.int (-2))).bind λd=>(((rY 2 ρ).bind λx=>T0 x (D.int (-1))).bind λd=>((bL 3 ρ).bind λd=>R.ok [d]).bind λj=>R.ok (d::j)).bind λj=>R.ok (d::j)).bind λj=>R.ok (d::j)).bind fE).bind λx=>leR x (D.int 0)).bind xU) (F:=λρ=>(CL 2 ρ).bind λz=>R.ok (Out.nx z.snd))
       (λm ρ=>∃e,ρ=[.v (vd n),.v (.lst (aDr vd J)),.o (e.reverse.map vd),.v (vd P)]/\(∀X∈e,Sz 1000 X)/\e.length<=c.length/\e.length<m/\G.Y3 n P e=G.Y3 n P c) ?_ (by rintro ρ ⟨e,_,_,_,h,_⟩;lia) ⟨c,rfl,sc,aAj _,by lia,rfl⟩ ?_) ?_
      .rintro m ρ ⟨e,rfl,sub,p,q,f⟩;match e,sub,p,q,f with
       |[],_,_,_,_=>exact .inl (by simp)
       |[a],_,_,_,_=>exact .inl (by simp)
       |b::a::r,sub,p,q,f=>
        have s:(b::a::r).reverse.map vd=r.reverse.map vd++[vd a,vd b]:=by simp
        have A:T0 (.lst ((b::a::r).reverse.map vd)) (.int (-1))=.ok (vd b):=gM (by rw[s];exact YV _ _ _);have B:T0 (.lst ((b::a::r).reverse.map vd)) (.int (-2))=.ok (vd a):=gM (by rw[s];exact YU _ _ _);have C:=IJ U (sub a<|.tail _ (.head _)) (sub b<|.head _) O;have E:(1:Int)<(aDr vd (b::a::r).reverse).length:=by rw[aAi,aCN];simp;lia
        by_cases Q:G.turn n a b P<=0
        .refine .inr ⟨?_,[.v (vd n),.v (.lst (aDr vd J)),.o ((a::r).reverse.map vd),.v (vd P)],?_,a::r,rfl,λX l=>sub X (.tail _ l),?_,?_,?_⟩
         .simp only[wY,E9,EY,R.aa0,DU,rD,decide_eq_true E,uC,if_true,C4,L3,A,B,C,pD,decide_eq_true Q]
         .show(match(aDr vd (b::a::r).reverse)[(aDr vd (b::a::r).reverse).length-1]? with|some d=>_|none=>_:R (D×Ev)).bind _=_;rw[s];simp
         .simp only[aAr]at p⊢;lia
         .simp only[aAr]at q⊢;lia
         .rw[<-f]
          conv=>rhs;unfold G.Y3
          rw[jk Q]
        .refine .inl ?_;simp only[wY,E9,EY,R.aa0,DU,rD,decide_eq_true E,uC,if_true,C4,L3,A,B,C,pD,decide_eq_false Q]
      .rintro m ρ ⟨e,rfl,sub,p,q,f⟩ H;refine⟨e,rfl,sub,p,?_⟩;match e,sub,p,q,f,H with
       |[],_,_,_,f,_=>exact f
       |[a],_,_,_,f,_=>exact f
       |b::a::r,sub,p,q,f,H=>
        have s:(b::a::r).reverse.map vd=r.reverse.map vd++[vd a,vd b]:=by simp
        have A:T0 (.lst ((b::a::r).reverse.map vd)) (.int (-1))=.ok (vd b):=gM (by rw[s];exact YV _ _ _);have B:T0 (.lst ((b::a::r).reverse.map vd)) (.int (-2))=.ok (vd a):=gM (by rw[s];exact YU _ _ _);have C:=IJ U (sub a<|.tail _ (.head _)) (sub b<|.head _) O;have E:(1:Int)<(aDr vd (b::a::r).reverse).length:=by rw[aAi,aCN];simp;lia
        simp only[wY,E9,EY,R.aa0,DU,rD,decide_eq_true E,uC,if_true,C4,L3,A,B,C,pD,RM,decide_eq_false_iff_not]at H;rw[<-f]
        conv=>rhs;unfold G.Y3
        rw[ka H]
      .rintro ρ2 ⟨ew,e,rfl,sub,p,y⟩;refine⟨[.v (vd n),.v (.lst (aDr vd J)),.o ((P::e).reverse.map vd),.v (vd P)],?_,P::e,i,_,rfl,rfl,?_,λX l=>N X (.tail _ l),?_,?_⟩
       .rw[ew];have L:(aDr vd e.reverse).length<sizeLine:=by rw[aAi,aCN];exact aCQ (show e.length<=1000 by lia) (by decide)
        simp only[A3,L3,C4,R.aa0];show(if(aDr vd e.reverse).length<sizeLine then _ else _)=_;rw[jk L];simp
       .intro X l;rcases aAd.mp l with rfl|l
        .exact O
        .exact sub X l
       .simp;lia
       .rw[<-u,aDw,y]
    .rintro ρ ⟨c,i,x,rfl,t,sc,N,I,u⟩;have:i=[]:=by simpa using t.symm
     subst this;have u:c=G.y3 n J:=u;subst u;simp[FQ]
   .cases h
  .cases h
def lJ (U3:w9 P w K mg base 3 "left_chain" 2 V3)(x:mg "list"=none)(y:mg "reversed"=none)(g:bF K mg "ring_of" lV):w9 P w K mg base 4 "ring_of" 2 Q1:=by
 refine' n6 (k:=3) (F:=_) g GA (λf z A i=>?b) λj d B h=>?_
 case b=>
  refine' (c5 (i7 2 (P7 U3 f (c7 0)<|c7 1) i)
   (c5 (i7 3 (P7 U3 f (c7 0)<|PF.pd<|DR (b8 1) rfl) i)
   (d6<|j0<|b9 l7 (PD.pb<|kI (b8 2) X4<|J0<|lO c8)<|PD.pb<|kI (b8 3) X4<|J0<|lO c8)))
 replace h:=B1 h;obtain⟨a,b,c,j,rfl,h⟩:=h;replace h:=eJ h;obtain⟨Y,j,rfl,h⟩:=h;replace h:=y6 h;obtain⟨rfl,h⟩:=h
 .skip
  split at h
  .rename_i J o;rw[u3 o];split at h
   .rename_i p;rw[<-h];obtain⟨m,e⟩:=p;have q:(.tup [.int a,.int b,.int c]:D)=vd ⟨a,b,c⟩:=rfl;rw[q];generalize(⟨a,b,c⟩:G.V)=n at*
    have r:=YZ m e;have s:aS 1000 J.reverse:=e.sub (λP t=>by simpa using t) (by simp);have l2:=YZ m s;rw[aFy (l:=J)]at l2;have C:=tZ n J;have u:=tZ n J.reverse;rw[aCN]at u;have v:mJ (.lst ((G.y3 n J).reverse.map vd).dropLast) (.lst ((G.y3 n J.reverse).reverse.map vd).dropLast)=.ok (.lst ((G.l6 n J).map vd)):=by rw[oK (by simp only[aFS,aAi,aCN];exact aAs (show _<=2000 by have:=e.2;lia) (by decide))];unfold G.l6;rw[aBw,List.map_dropLast,List.map_dropLast]
    simp[-aFy,j6,r,l2,YB,v,a1m]
   .cases h
  .cases h
def aE (m:mg "list"=none)(a:mg "zip"=none)(g:bF K mg "pairs_round" aO):w9 P w K mg base 1 "pairs_round" 1 A6:=by
 refine' n6 (k:=0) (F:=_) g qD (λn o p q=>?b) λi d r h=>?_
 case b=>refine' (d6<|j0<|PF.pd<|CU (b8 0) (PD.pb<|b9 l7 (PD.pb<|kI (b8 0) (J0 c8) X4)<|PD.pb<|kI (b8 0) X4<|J0 c8) rfl)
 match i,h with
 |[.lst Y],h=>
  simp only[A6]at h;split at h
  .rename_i J j;rw[u3 j];split at h
   .rename_i s;rw[<-h];have l:mJ (.lst (J.map vd).tail) (.lst ((J.map vd).take 1))=.ok (.lst ((J.tail++J.take 1).map vd)):=by rw[oK (by simp only[List.length_tail,aBV,aAi];exact NQ (by lia))];rw[aBw,List.map_tail,List.map_take]
    have e:(J.map vd).length=((J.tail++J.take 1).map vd).length:=by
     simp only[aAi,aAC,List.length_tail,aBV]
     lia
    have f:WX [.lst (J.map vd),.lst ((J.tail++J.take 1).map vd)]=.ok ((G.B8 J).map J6):=by show(if _ then _ else _)=_;rw[jk e,tN (β:=Unit)];rfl
    simp[-aBw,-List.map_tail,-List.map_take,j6,UM,ez,l,f]
   .cases h
  .cases h
def cD (L6:w9 P w K mg base 3 "plane_about" 2 G2)(lJ:w9 P w K mg base 4 "ring_of" 2 Q1)(aE:w9 P w K mg base 1 "pairs_round" 1 A6)(B:mg "len"=none)(C:mg "sorted"=none)(g:bF K mg "faces_from" cO):UW P w K mg base 8 3 "faces_from" K7:=by
 obtain⟨f,I,q,l⟩:=g;refine' YA (k:=7) (F:=_) l gI rfl (l.binds λ_ _ _ _ _ _ r t=>match r,t with|[_,_,_],_=>rfl) q (λT A e s H E a=>?hb) ?hm
 case hb=>
  have L:=a.units;have n:=a.ad7;have i:=a.ad9 (by decide);have b:=gI.nd;refine' (c5 (cM 3 (kZ o7) b)
   (c5 (zU 4 b)
   (c5 (cM 5 (kZ<|i6 (c7 0) o7) b)
   (c5 (fM (λ_=>5000) aAW (j3 uZ (PD.pb<|CB aM<|b8 5) o5) (c5 (DN 6 5 b)
   (d6 (v5 (LM 4 (c7 6) n) (c5 (i7 7 (P7 L6 a (c7 6) (AO 1 (k:=3) (Φ:=LY P w K mg base 3 1) rfl (i6 (f9 (b8 6) c8) o7) (x4 S6) (a.mono (by decide)))) b)
   (c5 (i7 8 (P7 lJ a (kI (b8 7) X4<|J0 c8) (AO 2 (k:=3) (Φ:=LY P w K mg base 3 1) rfl (i6 (c7 7) o7) (x4 S6) (a.mono (by decide)))) b)
   (c5 (W9 3<|BX (c7 7)<|c7 8)
   (d6 (G9 aAW rfl (t4<|DX aE a<|c7 8) (n4 9 b) (c5 (rA 4 BE (c7 9) n)
   (d6<|W9 5<|BX (f9 (b8 9) c8)<|f9 (b8 9) c8))))))) m6))))
   (d6<|j0<|PF.pd<|FP (b8 3) rfl i)))))
 case hm=>
  intro d N O Q h;simp only[K7]at h;split at h
  .rename_i Y u;split at h
   .rename_i m J v;split at h
    .rename_i j;rw[<-h];obtain⟨j,x,y,o,p⟩:=j;rw[u3 v]at o p;subst y o p;have z:(1:Nat)<=sizeLine:=by decide
     simp only[lY,C4,o6,u7,R.aa0,aAr,aAR,aDR,z,if_true,A3];exact zj (Φ:=LY P w K mg base 3 1) j x
    .cases h
   .cases h
  .cases h
def tR:Nst:=⟨"about",IK,C8 eV,t0 eV,c6 eV,IA eV,["corner"],[],["spread"],[1],(λρ=>(bL 1 ρ).bind λd=>.ok (.rt d)),L4,2⟩
def dE:Nst:=⟨"touched_by",jJ,C8 L7,t0 L7,c6 L7,IA L7,["plane"],[],["spread"],[1],(λρ=>((t5 (bL 0) (t5 (bL 1) U5) ρ).bind A5).bind λd=>.ok (.rt d)),E6,3⟩
def KB {f:a5}{T:ao}{A:bc}{a:List Env}{s:aA}{H:Hp}{E:XK}:NstOk (LZ P w K mg base iJ "faces_of" (c6 M0) f T A a s H E) 2 tR where
 sc:=⟨rfl,rfl,rfl,by decide+kernel,by decide+kernel,by decide+kernel,λx h=>HE h,by decide+kernel⟩
 one:=rfl
 body:=λt k e A a s H l=>by have u:=l.units;exact(d6<|j0<|c7 1)
 mm:=by
  intro m n d b g h;match m,n,b,g,h with
  |[_],[_],_,_,h=>cases h;rfl
 bind:=λe o v k p q r=>match q,r with|[_],_=>rfl
 len:=rfl
 at_:=λi j x b g=>match i,b,g with
  |0,b,g=>by obtain rfl:1=j:=aAm b;obtain rfl:("spread":Str)=x:=aAm g;exact⟨rfl,rfl⟩
  |i+1,b,_=>nomatch(show(none:Option Nat)=some j from b)
 d0:=rfl
 k0:=rfl
 nm:=rfl
 lc:=.inl rfl
 st:=.inl rfl
 dbg:=by decide
 cdt:=by decide
def rH (J5:w9 P w K mg base 2 "points_on" 2 A5){f:a5}{T:ao}{A:bc}{a:List Env}{s:aA}{H:Hp}{E:XK}:NstOk (LZ P w K mg base iJ "faces_of" (c6 M0) f T A a s H E) 2 dE where
 sc:=⟨rfl,rfl,rfl,by decide+kernel,by decide+kernel,by decide+kernel,λx h=>HE h,by decide+kernel⟩
 one:=rfl
 body:=λy m g A a s H l=>by have z:=l.units;exact(d6<|j0<|P7 J5 l (c7 0)<|c7 1)
 mm:=by
  intro n o d b k h;match n,o,b,k,h with
  |[w],[p],_,_,h=>have h:A5 [p,w]=.ok d:=h;show R1 (((t5 (bL 0) (t5 (bL 1) U5) [.v p,.v w]).bind A5).bind λd=>.ok (.rt d))=.ok d;have e:t5 (bL 0) (t5 (bL 1) U5) [.v p,.v w]=.ok [p,w]:=rfl;rw[e,R.aa0,h];rfl
 bind:=λg q B m r t u=>match t,u with|[_],_=>rfl
 len:=rfl
 at_:=λi j x b k=>match i,b,k with
  |0,b,k=>by obtain rfl:1=j:=aAm b;obtain rfl:("spread":Str)=x:=aAm k;exact⟨rfl,rfl⟩
  |i+1,b,_=>nomatch(show(none:Option Nat)=some j from b)
 d0:=rfl
 k0:=rfl
 nm:=rfl
 lc:=.inl rfl
 st:=.inl rfl
 dbg:=by decide
 cdt:=by decide
def Y1 {t:a5}(J5:w9 P w K mg base 2 "points_on" 2 A5)(aF:w9 P w K mg base 3 "refuse_flat" 1 G0)(bQ:w9 P w K mg base 8 "first_pair" 1 K5)(cD:UW P w K mg base 8 3 "faces_from" K7)(bu:mg "sorted"=none)(qu:mg "set"=none)(Q:kG mg base)(i:(t,tbK)∈Tabs.tbs)(g:a1c K mg "faces_of" M0 t):w9 P w K mg base 9 "faces_of" 1 Q5:=by
 obtain⟨f,fd,cd,T,U,u⟩:=g;refine' VH (k:=8) (F:=_) u nE (u.fn.binds λ_ _ _ _ _ _ us y=>match us,y with|[_],_=>rfl) T (λA j s H E a=>?hb) ?hm
 case hb=>
  have hu:=a.units;have dh:=a.ad7;have l:=a.ad9 (by decide);have z:=nE.nd;refine' (c5 (RX<|DX aF a<|c7 0)
   (c5 (i7 1 (PF.pd<|jX (b8 0) rfl l) z)
   (EK (n1:=tR) (n2:=dE) (clos1:=[("spread",s.heap.objs.size+1)]) (clos2:=[("spread",s.heap.objs.size+1)]) (tb:=tbK) KB (rH J5) ?co1 ?co2 ?hA Q rfl U i (by decide+kernel) (by decide+kernel) (by decide+kernel) (by decide+kernel) (by decide) z cD (a.mono (by decide)) (DX bQ a<|c7 1) (λ_=>rfl))))
  case co1=>exact⟨rfl,rfl,rfl,λx c h=>h,λx o=>⟨_,by obtain rfl:x= "spread":=aAX.mp o;rfl⟩⟩
  case co2=>exact⟨rfl,rfl,rfl,λx c h=>h,λx o=>⟨_,by obtain rfl:x= "spread":=aAX.mp o;rfl⟩⟩
  case hA=>exact IT
 case hm=>
  intro p d y h;match p,h with
  |[.lst Y],h=>
   simp only[Q5]at h;split at h
   .rename_i J hw;rw[u3 hw];split at h
    .rename_i hz;rw[<-h];obtain⟨B,C,I⟩:=hz;obtain⟨m,r,e,L⟩:=Z3 B C (by lia);have q:=YM (J:=J) (by lia);have fl:=WE (B.mono (n:=1000)) C;rw[e]at I q⊢;have N:=a0d L;have O:=jy L I;obtain⟨b,eL⟩:∃b,(m::r).map vd=b:=⟨_,rfl⟩;rw[eL]at q N O;show R1 (D6 ((G0 [D.lst (J.map vd)]).bind λ_=>R.ok (Out.nx [.v (.lst (J.map vd)),.no,.no,.no])) _)=_;rw[fl,R.aa0,A3];show R1 (D6 (((ssR<|.lst (J.map vd)).bind λp=>R.ok (D.lst p)).bind λd=>R.ok (Out.nx [.v (.lst (J.map vd)),.v d,.no,.no])) _)=_;rw[q,R.aa0,R.aa0,A3];show R1 (((K5 [D.lst b]).bind λd1=>(R.ok [D.lst b]).bind λw1=>(R.ok [D.lst b]).bind λw2=>K7 d1 (L4 w1) (E6 w2)).bind λd=>R.ok (Out.rt d))=_;rw[N,R.aa0,R.aa0,R.aa0,O];rfl
    .cases h
   .cases h
def cR (r:mg "sorted"=none)(s:mg "set"=none)(g:bF K mg "corners_in" bD):w9 P w K mg base 8 "corners_in" 1 K9:=by
 refine' n6 (k:=7) (F:=_) g rW (λl t u f=>?b) λm d x h=>?_
 case b=>
  have i:=l.ad9 (by decide);refine' (c5 (cM 1 (kZ o7) f)
   (c5 (G9 aAW rfl (t4<|c7 0) (kE (n:=2) rfl<|B5 (n4 2 f)<|B5 (n4 3 f) dF)<|d6<|DK 1<|c7 3)
   (d6<|j0<|PF.pd<|jX (b8 1) rfl i)))
 match m,h with
 |[.lst Y],h=>
  simp only[K9]at h;split at h
  .rename_i o p;split at h
   .rename_i j;rw[<-h];obtain⟨y,z,e⟩:=mZ (a:=Sl.v (D.lst Y)) Y o [] Sl.no Sl.no p (by simpa using j.1);rw[aBH,aBq]at e;have q:=YM j.2;simp[j6,-List.map_flatten,e,q]
   .cases h
  .cases h
def kP (cR:w9 P w K mg base 8 "corners_in" 1 K9)(Y1:w9 P w K mg base 9 "faces_of" 1 Q5)(g:bF K mg "body_of" mC):w9 P w K mg base 10 "body_of" 1 aZ:=by
 refine' n6 (k:=9) (F:=_) g EL (λf s t u=>?b) λl d v h=>?_
 case b=>refine' (d6<|j0<|DX cR f<|DX Y1 f<|c7 0)
 match l,h with
 |[.lst Y],h=>
  simp only[aZ]at h;split at h
  .rename_i J n;rw[u3 n];split at h
   .rename_i o;rw[<-h];obtain⟨i,j,a⟩:=o;obtain⟨m,r,e,L⟩:=Z3 i j (by lia);have p:=BR i j a;have x:((j1<|f6 J).flatMap (G.i4<|f6 J)).length<=200/\(f6<|(j1<|f6 J).flatMap (G.i4<|f6 J)).length<=14:=by rw[e]at a⊢;exact uT L a
    have q:=DD (J:=f6 J) (fs:=j1 (f6 J)) (by lia) (by lia);simp[j6,p,q,D7]
   .cases h
  .cases h
end
section
variable [Tabs]
variable{P:ba} {w:be} {K:kc} {mg:cV} {base:bt}
def eG (lX:w9 P w K mg base 2 "lift_of" 4 fS)(C:mg "sum"=none)(E:mg "range"=none)(H:mg "len"=none)(g:bF K mg "room_seen" Z2):w9 P w K mg base 3 "room_seen" 2 vY:=by
 refine' n6 (k:=2) (F:=_) g xS (λo I J L=>?b) λm d p h=>?_
 case b=>refine' (d6<|j0<|lO<|CB (FU rfl)<|PD.pb<|J7 ["k"] ["V", "ring"] [1,0] rfl (G6 (sc:=c6 Z2) (N:=nI)) (Q7<|A8 o5<|A8 (PD.pb<|b9 p5 (PD.pb<|CB aM<|b8 0) o5) L0) (LW λ_ _ _ _ _=>(pc4 lX o (f9 (b8 2) c8) (f9 (b8 2)<|c7 0) (f9 (b8 2)<|b9 l7 (b8 0) o5)<|c7 1))<|λ_=>t6)
 replace h:=rJ h;obtain⟨r,m,rfl,h⟩:=h;replace h:=B1 h;obtain⟨x,y,z,m,rfl,h⟩:=h;replace h:=y6 h;obtain⟨rfl,h⟩:=h;replace h:=gQ h;obtain⟨⟨O,p,f,n⟩,rfl⟩:=h;obtain⟨e,j⟩:∃P:G.V,P=⟨x,y,z⟩:=⟨_,rfl⟩;have q:(.tup [.int x,.int y,.int z]:D)=vd e:=by rw[j]
 rw[q,<-j];rw[<-j]at n;have s:fZ [.int 1,.int ((r.length:Int)-1)]=.ok ((aEO 1<|r.length-1-1).map λ(k:Nat)=>D.int (k:Int)):=by have:=a3u (a:=1) (b:=r.length-1) (by lia) (by lia);rw[show((r.length-1:Nat):Int)=(r.length:Int)-1 by lia]at this;exact this
 have t:T0 (.lst (r.map vd)) (.int 0)=.ok (vd<|r.getD 0 0):=Y0 (i:=0) (getD_at (by lia));have u:∀k∈aEO 1 (r.length-1-1),T0 (.lst (r.map vd)) (.int (k:Int))=.ok (vd<|r.getD k 0)/\T0 (.lst (r.map vd)) (.int ((k:Int)+1))=.ok (vd<|r.getD (k+1) 0)/\fS [vd (r.getD 0 0),vd (r.getD k 0),vd (r.getD (k+1) 0),vd e]=.ok (.int (mY (r.getD 0 0) (r.getD k 0) (r.getD (k+1) 0) e)):=λk l=>by rw[List.mem_range'_1]at l;exact⟨Y0 (getD_at (by lia)),Y0 (i:=k+1) (getD_at (by lia)),XE (f _ (C1 (by lia))).mono (f _ (C1 (by lia))).mono (f _ (C1 (by lia))).mono n.mono⟩
 have A:=EG (WZ r e);simp only[j6,aAn,aBH,aAD,aBq,aAr,aAR,aCj,aCk,aBl];have B:tE [.lst (r.map vd)]=.ok (.int (r.length:Int)):=by simp only[tE,aAi]
 simp-implicitDefEqProofs only[o6,u7,D3,D9,R.aa0,B,Y4,s];rw[fU (λ(k:Nat)=>D.int (k:Int)) D.int (λk=>mY (r.getD 0 0) (r.getD k 0) (r.getD (k+1) 0) e) (aEO 1<|r.length-1-1) (by rw[List.length_range'];lia) λk l=>⟨[.v (.int k),.v (vd e),.v (.lst (r.map vd))],rfl,by simp-implicitDefEqProofs only[o6,u7,E9,D3,L3,C4,D9,R.aa0,t,u k l,kB]⟩,show(aEO 1<|r.length-1-1).map (λk=>mY (r.getD 0 0) (r.getD k 0) (r.getD (k+1) 0) e)=WZ r e from rfl];simp-implicitDefEqProofs only[R.aa0,A];rfl
def Z4 (Y1:w9 P w K mg base 9 "faces_of" 1 Q5)(eG:w9 P w K mg base 3 "room_seen" 2 vY)(g:bF K mg "rooms_seen" U9):EH P w K mg base 10 "rooms_seen" 2 fY:=by
 refine' OA (k:=9) (F:=_) g tK (λq T U Y=>?b) λs d hl h=>?_
 case b=>refine' (NY (WB ["plane", "ring"] ["V"] [1] rfl (G6 (sc:=c6 U9) (N:=jF)) (t4<|DX Y1 q<|c7 0) (by rintro t fp X2 ⟨s0,H1,C,rfl⟩;exact⟨(kE (n:=2) rfl (B5 (n4 0 (show(["plane", "ring", "V"]:List Str).Nodup by decide+kernel)) (B5 (n4 1 (show(["plane", "ring", "V"]:List Str).Nodup by decide+kernel)) dF))),wN,(P7 eG q (c7 1)<|c7 2)⟩)<|λ_=>AV))
 replace h:=rJ h;obtain⟨l,s,rfl,h⟩:=h;replace h:=B1 h;obtain⟨x,y,z,s,rfl,h⟩:=h;replace h:=y6 h;obtain⟨rfl,h⟩:=h;replace h:=gQ h;obtain⟨⟨⟨o,u,A⟩,B⟩,rfl⟩:=h;obtain⟨i,p⟩:∃P:G.V,P=⟨x,y,z⟩:=⟨_,rfl⟩;have H:(.tup [.int x,.int y,.int z]:D)=vd i:=by rw[p]
 rw[H,<-p];rw[<-p]at B;have I:=BR o u A;obtain⟨E,_,fl⟩:=uH o u A;have J:∀f∈j1 (f6 l),vY [.lst ((G.i4 (f6 l) f).map vd),vd i]=.ok (.int (P6 (G.i4 (f6 l) f) i)):=λf j=>by have S:=((E f).mp j).aa2 (o9 l);have L:=G.M5 S.aa3 (m:=f6 l) λv O=>(G.d8.mp<|S.aa4 O).1;obtain⟨a,b,c,r,e⟩:=G.C6 (o9 l) ((E f).mp j);have e:G.i4 (f6 l) f=a::b::c::r:=e;refine WH ⟨by rw[e];simp,aAs L (by lia),λX Q=>(o.1 X (z8.mp (G.d8.mp<|S.aa4 Q).1)).mono,B⟩
 simp only[j6,aAn,aBH,aAD,aBq,aAr,aAR,aCj,aCk,aBl];simp-implicitDefEqProofs only[o6,u7,C4,R.aa0,I,K8];rw[UK (n8<|f6 l) D.int (λf=>P6 (G.i4 (f6 l) f) i) (j1<|f6 l) (by lia) λf j=>⟨[.v (wI f.1 f.2),.v (.lst ((G.i4 (f6 l) f).map vd)),.v (vd i)],rfl,by simp-implicitDefEqProofs only[o6,u7,L3,C4,R.aa0,J f j]⟩];rfl
def X0 (f:w9 P w K mg base 10 "rooms_seen" 2 fY)(s:mg "sum"=none)(g:bF K mg "sixfold_room" W2):w9 P w K mg base 11 "sixfold_room" 1 MN:=by
 refine' n6 (k:=10) (F:=_) g nT (λj t u v=>?b) λm d x h=>?_
 case b=>refine' (d6<|j0<|CB (FU rfl)<|PD.pb<|P7 f j (c7 0)<|f9 (b8 0) c8)
 replace h:=rJ h;obtain⟨l,m,rfl,h⟩:=h;replace h:=y6 h;obtain⟨rfl,h⟩:=h;replace h:=gQ h;obtain⟨⟨a,o⟩,rfl⟩:=h;have e:0<l.length:=Nat.pos_of_ne_zero λz=>o (aDj z);have p:T0 (.lst (l.map vd)) (.int 0)=.ok (vd<|l.getD 0 0):=Y0 (i:=0) (getD_at e);have q:=zN a ((a.1.1 _ (C1 e)).mono (n:=5000));have r:=EG (t7 l<|l.getD 0 0);simp only[j6,aAn,aBH,aAD,aBq,aAr,aAR,aCj,aCk,aBl];simp-implicitDefEqProofs only[o6,u7,D3,C4,D9,R.aa0,p,q,r];rfl
end
section
variable [Tabs]
variable{P:ba} {w:be} {K:kc} {mg:cV} {base:bt}
def D4 (m:mg "len"=none)(g:bF K mg "_law_cell_at" X8):w9 P w K mg base 1 "_law_cell_at" 2 G3:=by
 refine' n6 (k:=0) (F:=_) g oA (λn o p q=>?b) λf d r h=>?_
 case b=>
  refine' (c5 (v5 (j3 yU (b8 1)<|PD.pb<|CB aM<|b8 0) (d6<|j0<|f9 (b8 0)<|c7 1) m6)
   (d6<|j0 c8))
 match f,h with
 |[.lst Y,.int k],h=>
  simp only[G3]at h;split at h
  .rename_i i;obtain⟨j,s⟩:=i;rw[<-h];by_cases a:k<Y.length
   .have e:Y[k.toNat]?=some Y[k.toNat]:=aAg (by lia);have l:rP Y k=some Y[k.toNat]:=by rw[cP j,e]
    simp[j6,a,gM l,AN,e]
   .have e:Y[k.toNat]?=none:=aCt.mpr (by lia);simp[j6,a,AN,e]
  .cases h
def z6 (g:bF K mg "_law_way" gS):w9 P w K mg base 1 "_law_way" 2 l4:=by
 refine' n6 (k:=0) (F:=_) g zK (λf i j l=>?b) λe d m h=>?_
 case b=>refine' (d6<|j0<|gT (b9 p5 (PD.pb<|f9 (b8 1) c8)<|PD.pb<|f9 (b8 0) c8) (b9 p5 (PD.pb<|f9 (b8 1) c8)<|PD.pb<|f9 (b8 0) c8)<|b9 p5 (PD.pb<|f9 (b8 1) c8)<|PD.pb<|f9 (b8 0) c8)
 replace h:=B1 h;obtain⟨a,b,c,e,rfl,h⟩:=h;replace h:=B1 h;obtain⟨n,o,p,e,rfl,h⟩:=h;replace h:=y6 h;obtain⟨rfl,h⟩:=h;exact h
def J9 (g:bF K mg "_law_cross" cC):w9 P w K mg base 1 "_law_cross" 2 u4:=by
 refine' n6 (k:=0) (F:=_) g rV (λp q r s=>?b) λe d t h=>?_
 case b=>refine' (d6<|j0<|gT (b9 p5 (PD.pb<|b9 j5 (PD.pb<|f9 (b8 0) c8)<|PD.pb<|f9 (b8 1) c8)<|PD.pb<|b9 j5 (PD.pb<|f9 (b8 0) c8)<|PD.pb<|f9 (b8 1) c8) (b9 p5 (PD.pb<|b9 j5 (PD.pb<|f9 (b8 0) c8)<|PD.pb<|f9 (b8 1) c8)<|PD.pb<|b9 j5 (PD.pb<|f9 (b8 0) c8)<|PD.pb<|f9 (b8 1) c8)<|b9 p5 (PD.pb<|b9 j5 (PD.pb<|f9 (b8 0) c8)<|PD.pb<|f9 (b8 1) c8)<|PD.pb<|b9 j5 (PD.pb<|f9 (b8 0) c8)<|PD.pb<|f9 (b8 1) c8)
 replace h:=B1 h;obtain⟨a,b,c,e,rfl,h⟩:=h;replace h:=B1 h;obtain⟨u,v,x,e,rfl,h⟩:=h;replace h:=y6 h;obtain⟨rfl,h⟩:=h;split at h
 .rename_i o;obtain⟨⟨f,i,j⟩,l,m,n⟩:=o;rw[<-h];simp[j6,j9 (v6.of i n),j9 (v6.of j m),j9 (v6.of j l),j9 (v6.of f n),j9 (v6.of f m),j9 (v6.of i l)]
 .cases h
def w4 (g:bF K mg "_law_product" W6):w9 P w K mg base 1 "_law_product" 2 j2:=by
 refine' n6 (k:=0) (F:=_) g oF (λp q r s=>?b) λe d u h=>?_
 case b=>refine' (d6<|j0<|b9 l7 (PD.pb<|b9 l7 (PD.pb<|b9 j5 (PD.pb<|f9 (b8 0) c8)<|PD.pb<|f9 (b8 1) c8)<|PD.pb<|b9 j5 (PD.pb<|f9 (b8 0) c8)<|PD.pb<|f9 (b8 1) c8)<|PD.pb<|b9 j5 (PD.pb<|f9 (b8 0) c8)<|PD.pb<|f9 (b8 1) c8)
 replace h:=ZS h;obtain⟨a,b,c,t,e,rfl,h⟩:=h;replace h:=B1 h;obtain⟨v,x,y,e,rfl,h⟩:=h;replace h:=y6 h;obtain⟨rfl,h⟩:=h;split at h
 .rename_i f;obtain⟨⟨i,j,l⟩,m,n,o⟩:=f;rw[<-h];simp[j6,YY,ZC,YI,j9 (v6.of i m),j9 (v6.of j n),j9 (v6.of l o)]
 .cases h
def bT (g:bF K mg "_law_great" bZ):w9 P w K mg base 1 "_law_great" 1 kH:=by
 refine' n6 (k:=0) (F:=_) g sF (λj l m a=>?b) λe d n h=>?_
 case b=>
  refine' (c5 (i7 1 (b9 l7 (PD.pb<|b9 j5 o5<|PD.pb<|b9 z7 o5 o5) o5) a)
   (c5 (i7 2 (b9 p5 (PD.pb<|b9 q8 (PD.pb<|b9 l7 (PD.pb<|b9 j5 (b8 0) o5)<|PD.pb<|b9 z7 o5 o5)<|b8 1)<|PD.pb<|b9 z7 o5 o5) a)
   (c5 (i7 3 (b9 p5 (PD.pb<|b9 q8 (PD.pb<|b9 l7 (PD.pb<|b9 j5 (PD.pb<|b9 j5 (b8 0)<|b8 0) o5)<|PD.pb<|b9 z7 o5 o5)<|b8 1)<|PD.pb<|b9 z7 o5 o5) a)
   (d6<|j0<|gT (c7 2) (c7 3)<|b9 p5 (PD.pb<|b9 q8 (PD.pb<|b9 l7 (PD.pb<|b9 j5 (PD.pb<|b9 j5 (b8 0)<|b8 0)<|b8 0)<|PD.pb<|b9 z7 o5 o5)<|b8 1)<|PD.pb<|b9 z7 o5 o5))))
 match e,h with
 |[.int c],h=>
  simp only[kH]at h;split at h
  .rename_i f;rw[<-h]
   haveI:Bd c 2000000:=⟨f⟩
   have i:qS (.int 10) (.int 12)=.ok (.int 1000000000000):=rfl;have o:(2000000000000:Int)+1=2000000000001:=rfl;simp[j6,i,N6,O6,pK,XU,wq]
  .cases h
def dI (D4:w9 P w K mg base 1 "_law_cell_at" 2 G3)(bT:w9 P w K mg base 1 "_law_great" 1 kH)(ib:mg "range"=none)(g:bF K mg "_law_near" J1):w9 P w K mg base 2 "_law_near" 1 vM:=by
 refine' n6 (k:=1) (F:=_) g vW (λq m dh f=>?b) λds d p h=>?_
 case b=>
  refine' (c5 (i7 1 (P7 D4 q (c7 0) c8) f)
   (c5 (i7 2 (b9 l7 o5<|PD.pb<|b9 q8 (PD.pb<|b9 u8 (b8 1) o5) o5) f)
   (c5 (i7 3 (b9 l7 o5<|PD.pb<|b9 q8 (PD.pb<|b9 u8 (b8 1) o5) o5) f)
   (c5 (i7 4 (b9 l7 o5<|PD.pb<|b9 q8 (PD.pb<|b9 u8 (b8 1) o5) o5) f)
   (c5 (v5 (j3 (M4 m) (PD.pb<|b9 q8 (PD.pb<|b9 u8 (b8 1) o5) o5) o5) (d6<|IH (gT (b9 l7 (PD.pb<|b9 j5 (b8 2)<|PD.pb<|b9 z7 o5 o5) o5) (b9 l7 (PD.pb<|b9 j5 (b8 3)<|PD.pb<|b9 z7 o5 o5) o5)<|b9 l7 (PD.pb<|b9 j5 (b8 4)<|PD.pb<|b9 z7 o5 o5) o5)<|kE (n:=3) rfl<|B5 (n4 2 f)<|B5 (n4 3 f)<|B5 (n4 4 f) dF) m6)
   (c5 (i7 5 (b9 q8 (b8 1) o5) f)
   (c5 (v5 (j3 (M4 m) (b8 5) o5) (d6<|j0<|J7 ["k"] ["a", "b", "c"] [2,3,4] rfl (G6 (sc:=c6 J1) (N:=R9)) (Q7<|A8 o5 L0) (LW λ_ _ _ _ _=>(gT (b9 j5 (PD.pb<|b9 q8 (b8 0) o5)<|b8 1) (b9 j5 (PD.pb<|b9 q8 (PD.pb<|b9 u8 (b8 0) o5) o5)<|b8 2)<|b9 j5 (PD.pb<|b9 u8 (b8 0) o5)<|b8 3))<|λ_=>t6) m6)
   (c5 (v5 (j3 (M4 m) (b8 5) o5) (d6<|j0<|iK<|i6 (gT (c7 2) c8 c8)<|i6 (gT (b9 p5 o5<|b8 3) c8 c8)<|i6 (gT c8 (c7 3) c8)<|i6 (gT c8 (b9 p5 o5<|b8 4) c8)<|i6 (gT c8 c8<|c7 4)<|i6 (gT c8 c8<|b9 p5 o5<|b8 2) o7) m6)
   (c5 (v5 (j3 (M4 m) (b8 5) o5) (c5 (cM 6 (kZ<|i6 (BX c8 c8)<|i6 (BX (c7 2) c8)<|i6 (BX c8<|c7 3) o7) f)
   (d6<|vU 6<|j0<|b9 l7 (PD.pb<|J7 ["spot"] [] [] rfl (G6 (sc:=c6 J1) (N:=R9)) (t4<|c7 6) (LW λ_ _ _ _ _=>(b9 l7 (b8 0)<|PD.pb<|pB<|i6 c8 o7))<|λ_=>t6)<|PD.pb<|J7 ["spot"] ["c", "a", "b"] [4,2,3] rfl (G6 (sc:=c6 J1) (N:=R9)) (t4<|c7 6) (LW λ_ _ _ _ _=>(gT (b9 l7 (PD.pb<|f9 (b8 0) c8)<|b8 1) (f9 (b8 0) c8)<|b9 l7 (b8 2)<|b8 3))<|λ_=>t6)) m6)
   (c5 (v5 (j3 (M4 m) (b8 5) o5) (d6<|j0<|b9 l7 (PD.pb<|J7 ["k"] [] [] rfl (G6 (sc:=c6 J1) (N:=R9)) (Q7<|A8 (PD.pb<|b9 l7 o5<|PD.pb<|b9 q8 (PD.pb<|b9 u8 (b8 1) o5) o5) L0) (LW λ_ _ _ _ _=>(gT (c7 0) (b9 j5 (b8 0)<|b8 0) c8))<|λ_=>t6)<|PD.pb<|iK<|i6 (gT (c7 2) (c7 3)<|c7 4) o7) m6)
   (c5 (cM 6 (kZ<|i6 (gT c8 c8 c8)<|i6 (gT (c7 2) c8 c8)<|i6 (gT c8 (c7 3) c8)<|i6 (gT c8 c8<|c7 4) o7) f)
   (c5 (G9 aAW rfl (t4<|kI (b8 0) (J0 c8)<|J0 c8) (n4 1 f)<|d6<|v5 (uJ.pt<|iT (j3 (M4 m) (b8 5) o5)<|fH<|uJ.pt<|fR (j3 (M4 m) (b8 5) o5)<|bB<|j3 (M4 m) (PD.pb<|b9 q8 (b8 1) o5) o5) (d6<|W9 6<|DX bT q<|b9 u8 (b8 1) o5)<|d6<|W9 6<|gT (b9 p5 (PD.pb<|b9 q8 (b8 1) o5) o5) (b9 p5 (PD.pb<|b9 q8 (PD.pb<|b9 u8 (b8 1) o5) o5) o5)<|b9 p5 (PD.pb<|b9 q8 (PD.pb<|b9 u8 (b8 1) o5) o5) o5)
   (d6<|vU 6<|j0<|c7 6)))))))))))))
 match ds,h with
 |[.lst Y],h=>
  simp only[vM]at h;split at h
  .rename_i hi;rw[<-h];obtain⟨e0,hb⟩:=QL hi 0 (by decide);have e0:G3 [.lst Y,.int 0]=.ok (.int (cI Y 0)):=e0;generalize cI Y 0=c at*
   have hp:=vN c;have p6:qS (.int 10) (.int 6)=.ok (.int 1000000):=rfl;have p7:qS (.int 10) (.int 7)=.ok (.int 10000000):=rfl;have p8:qS (.int 10) (.int 8)=.ok (.int 100000000):=rfl;have r:R8 (.int c) (.int 7)=.ok (.int (c.fdiv 7)):=F8 (by decide) (by decide);have d14:R8 (.int c) (.int 14)=.ok (.int (c.fdiv 14)):=F8 (by decide) (by decide);have d42:R8 (.int c) (.int 42)=.ok (.int (c.fdiv 42)):=F8 (by decide) (by decide);have s:R8 (.int c) (.int 126)=.ok (.int (c.fdiv 126)):=F8 (by decide) (by decide);have t:R8 (.int c) (.int 378)=.ok (.int (c.fdiv 378)):=F8 (by decide) (by decide);have u:∀(x:Int) {k:Int},0<k->gU (.int x) (.int k)=.ok (.int (x.fmod k)):=λx k A=>O6 A;have m3:=λx=>u x (show(0:Int)<3 by decide);have C:=λx=>u x (show(0:Int)<2 by decide);have m7:=λx=>u x (show(0:Int)<7 by decide);have m8:=λx=>u x (show(0:Int)<8 by decide);clear u;unfold Y5;simp only[j6,aAn,aBH,aAD,aBq,aAr,aAR,aCj,aCk,aBZ,aBl];refine j7 (by simp[e0];rfl) ?_;refine j7 (by simp[d14,m3];rfl) ?_;refine j7 (by simp[d42,m3];rfl) ?_;refine j7 (by simp[s,m3];rfl) ?_;refine j7 (ρ:=[.v (.lst Y),.v (.int c),.v (.int (eN c).1),.v (.int (eN c).2.1),.v (.int (eN c).2.2),.no,.no]) ?_ ?_
   .have f1:=B4 (a:=c.fdiv 14) (b:=3) (by decide);have f2:=B4 (a:=c.fdiv 42) (b:=3) (by decide);have f3:=B4 (a:=c.fdiv 126) (b:=3) (by decide);unfold eN
    haveI:Bd (1+(c.fdiv 14).fmod 3) 10:=⟨u5 (by lia) (by lia)⟩
    haveI:Bd (1+(c.fdiv 42).fmod 3) 10:=⟨u5 (by lia) (by lia)⟩
    haveI:Bd (1+(c.fdiv 126).fmod 3) 10:=⟨u5 (by lia) (by lia)⟩
    by_cases hq:(c.fdiv 7).fmod 2=1
    .generalize 1+(c.fdiv 14).fmod 3=a at*
     generalize 1+(c.fdiv 42).fmod 3=b at*
     generalize 1+(c.fdiv 126).fmod 3=e at*
     simp[r,C,hq,p6,p7,p8,N6,LB,gG,T8,nJ]
    .simp[r,C,hq]
   .generalize(eN c).1=a at*
    generalize(eN c).2.1=b at*
    generalize(eN c).2.2=e at*
    obtain⟨⟨a0,a1⟩,⟨b0,b1⟩,⟨c0,c1⟩⟩:=hp
    haveI Ba:Bd a 40:=⟨u5 (by lia) (by lia)⟩
    haveI Bb:Bd b 40:=⟨u5 (by lia) (by lia)⟩
    haveI Be:Bd e 40:=⟨u5 (by lia) (by lia)⟩
    refine j7 (by simp[m7];rfl) ?_;by_cases J:c.fmod 7=0
    .rw[jk J];refine W3 ?_;have q:fZ [.int 8]=.ok ((aAQ 8).map λ(k:Nat)=>D.int (k:Int)):=nk (n:=8) (by decide);have p:((aAQ 8).map λ(k:Nat)=>D.int (k:Int)).length<=sizeLine:=by rw[aAi,aDd];decide
     have eb:(QJ a b e).map vd=(aAQ 8).map λ(k:Nat)=>vd ⟨(k:Int).fmod 2*a,((k:Int).fdiv 2).fmod 2*b,(k:Int).fdiv 4*e⟩:=aAV ..;rw[eb];simp only[J,E9,D3,R.aa0,D9,xE,uC,beq_self_eq_true,if_true,o6,u7,q];rw[BS p (V7 (λ(k:Nat)=>D.int (k:Int)) (λ(k:Nat)=>vd ⟨(k:Int).fmod 2*a,((k:Int).fdiv 2).fmod 2*b,(k:Int).fdiv 4*e⟩) (aAQ 8) λk A=>⟨[.v (.int (k:Int)),.v (.int a),.v (.int b),.v (.int e)],rfl,?_⟩)]
     .rfl
     .have hk8:=aBA.mp A;have L:R8 (.int (k:Int)) (.int 2)=.ok (.int ((k:Int).fdiv 2)):=F8 (by decide) (by decide);have d4:R8 (.int (k:Int)) (.int 4)=.ok (.int ((k:Int).fdiv 4)):=F8 (by decide) (by decide)
      haveI:Bd (((k:Int)).fmod 2) 3:=⟨G1 (by decide) (by decide)⟩
      haveI:Bd (((k:Int).fdiv 2).fmod 2) 3:=⟨G1 (by decide) (by decide)⟩
      haveI:Bd (((k:Int).fdiv 4)) 10:=⟨bits_fdiv (u5 (by lia) (by lia))⟩
      simp[C,L,d4,N6]
    .rw[ka J];refine j7 (by simp[J];rfl) ?_;by_cases O:c.fmod 7=1
     .rw[jk O];refine W3 ?_;simp[O,BA,CN,sizeLine]
     .rw[ka O];refine j7 (by simp[O];rfl) ?_;by_cases Q:c.fmod 7=2
      .rw[jk Q];refine W3 ?_;have ad:∀x y:List D,x.length+y.length<=1000->mJ (.lst x) (.lst y)=.ok (.lst (x++y)):=λx y h=>oK (small h);simp[Q,AM,CN,sizeLine,FQ,i8,VO,ad]
      .rw[ka Q];refine j7 (by simp[Q];rfl) ?_;by_cases T:c.fmod 7=3
       .rw[jk T];refine W3 ?_;obtain⟨n,en,hn,et⟩:=RT c;have q:=nk (n:=n) (aAs hn (by decide));have p:=XO n (aAs hn (by decide));rw[et,XS];simp only[T,E9,D3,R.aa0,D9,xE,uC,beq_self_eq_true,if_true,o6,u7,t,m8,kB];rw[en,q,R.aa0];rw[BS p (V7 (λ(k:Nat)=>D.int (k:Int)) (λ(k:Nat)=>vd ⟨(k:Int),(k:Int)*(k:Int),0⟩) (aAQ n) λk A=>⟨[.v (.int (k:Int))],rfl,?_⟩)]
        .rw[R.aa0];simp only[L3,C4,R.aa0,a0f,zx];rw[oK (small (by rw[aAi,aDd];exact aAs (Nat.add_le_add_right hn 1) (by decide)))];rfl
        .have hk8:=aBA.mp A
         haveI:Bd (k:Int) 10:=⟨u5 (by lia) (by lia)⟩
         simp[N6]
       .rw[ka T];refine j7 (by simp[T];rfl) ?_;refine j7 (ρ:=[.v (.lst Y),.v (.int c),.v (.int a),.v (.int b),.v (.int e),.v (.int (c.fmod 7)),.o ((lS a b e).map vd)]) ?_ ?_
        .simp[lS,show 4<=sizeLine by decide]
        .obtain⟨t1,t2,t3⟩:=lT hi;have sl:ET (.lst Y) (some 4) (some 9)=.ok (.lst ((Y.drop 4).take 5)):=TM Y 4 9 (by decide);rw[t1]at sl;simp only[D3,D9,R.aa0,a0p,sl,kD];refine aU (λrest ρ=>∃(B:List G.V) (l:List Int) (x:Sl),ρ=[.v (.lst Y),x,.v (.int a),.v (.int b),.v (.int e),.v (.int (c.fmod 7)),.o (B.map vd)]/\rest=l.map D.int/\(∀i∈l,bits i<=1048576)/\B.length+l.length<=9/\B++l.map (CG c)=lS a b e++(fB Y).map (CG c)) ?_ ⟨lS a b e,fB Y,_,rfl,rfl,t3,by simp[lS];lia,rfl⟩ ?_
         .rintro d ds ρ ⟨B,l,x,rfl,E,xl,p,U⟩;match l,E with
          |i::l,E=>
           injection E with e3 e4;subst e3 e4;have hbi:=xl i (.head _);have hz:(B.map vd).length<sizeLine:=by rw[aAi];simp only[aAr]at p;exact aCQ (show B.length<=1000 by lia) (by decide)
           have dd:∀k:Int,0<k->k<100->R8 (.int i) (.int k)=.ok (.int (i.fdiv k)):=λk h1 h2=>F8 h1 (by lia);have L:=dd 2 (by decide) (by decide);have r:=dd 7 (by decide) (by decide);have H:=dd 49 (by decide) (by decide);clear dd;have ap:∀v:G.V,BC 6 [.v (.lst Y),.v (.int i),.v (.int a),.v (.int b),.v (.int e),.v (.int (c.fmod 7)),.o (B.map vd)] (vd v)=.ok (.nx [.v (.lst Y),.v (.int i),.v (.int a),.v (.int b),.v (.int e),.v (.int (c.fmod 7)),.o ((B++[v]).map vd)]):=λv=>by show(if(B.map vd).length<sizeLine then _ else _)=_;rw[jk hz,aBw];rfl
           have gr:kH [.int (i.fdiv 2)]=.ok (vd<|pK<|i.fdiv 2):=jk (f7<|bits_fdiv hbi);refine⟨[.v (.lst Y),.v (.int i),.v (.int a),.v (.int b),.v (.int e),.v (.int (c.fmod 7)),.o ((B++[CG c i]).map vd)],?_,B++[CG c i],l,_,rfl,rfl,λj hj=>xl j (.tail _ hj),by simp at p⊢;lia,by rw[<-U];simp⟩;rw[<-ap];unfold CG;by_cases I:c.fmod 7=5
           .rw[jk (.inl I)];simp[I,L,gr]
           .by_cases k6:c.fmod 7=6
            .by_cases o2:i.fmod 2=1
             .rw[jk (.inr ⟨k6,o2⟩)];simp[k6,C,o2,L,gr]
             .rw[ka (λz=>z.elim I λz=>o2 z.2)];simp[k6,C,o2,r,H,m7]
            .rw[ka (λz=>z.elim I λz=>k6 z.1)];simp[I,k6,r,H,m7]
         .rintro ρ ⟨B,l,x,rfl,E,xl,p,U⟩;have:l=[]:=by simpa using E.symm
          subst this;rw[aBH,aBk]at U;rw[<-U];simp[FQ]
  .cases h
def cE (D4:w9 P w K mg base 1 "_law_cell_at" 2 G3)(g:bF K mg "_law_moved" bH):w9 P w K mg base 2 "_law_moved" 2 oU:=by
 refine' n6 (k:=1) (F:=_) g sS (λhr hu dh e=>?b) λds d hl h=>?_
 case b=>
  refine' (c5 (IH (c7 0)<|kE (n:=3) rfl<|B5 (n4 2 e)<|B5 (n4 3 e)<|B5 (n4 4 e) dF)
   (c5 (i7 5 (P7 D4 hr (c7 1) c8) e)
   (c5 (i7 6 (f9 (PD.pb<|iK<|i6 c8<|i6 (b9 z7 o5 o5) o7)<|b9 q8 (b8 5) o5) e)
   (c5 (i7 2 (b9 l7 (b8 2)<|PD.pb<|b9 j5 (PD.pb<|b9 q8 (PD.pb<|b9 u8 (b8 5) o5)<|b8 6)<|b8 3) e)
   (c5 (i7 3 (b9 p5 (b8 3)<|PD.pb<|b9 j5 (PD.pb<|b9 q8 (PD.pb<|b9 u8 (PD.pb<|b9 j5 (b8 5)<|b8 5) o5)<|b8 6)<|b8 4) e)
   (c5 (i7 4 (b9 l7 (b8 4)<|PD.pb<|b9 j5 (PD.pb<|b9 q8 (PD.pb<|b9 u8 (PD.pb<|b9 j5 (b8 5) o5) o5)<|b8 6)<|b8 2) e)
   (c5 (v5 (j3 (M4 hu) (PD.pb<|b9 q8 (PD.pb<|b9 u8 (b8 5) o5) o5) o5) (d6<|BM 2 4 rfl e<|i6 (c7 4)<|i6 (c7 2) o7) m6)
   (c5 (i7 7 (P7 D4 hr (c7 1) c8) e)
   (c5 (i7 6 (b9 l7 (PD.pb<|b9 j5 o5<|PD.pb<|b9 z7 o5 o5) o5) e)
   (c5 (i7 2 (b9 p5 (PD.pb<|b9 l7 (b8 2)<|PD.pb<|b9 q8 (PD.pb<|b9 l7 (PD.pb<|b9 j5 (b8 7) o5)<|PD.pb<|b9 z7 o5 o5)<|b8 6)<|PD.pb<|b9 z7 o5 o5) e)
   (c5 (i7 3 (b9 p5 (PD.pb<|b9 l7 (b8 3)<|PD.pb<|b9 q8 (PD.pb<|b9 l7 (PD.pb<|b9 j5 (PD.pb<|b9 j5 (b8 7)<|b8 7) o5)<|PD.pb<|b9 z7 o5 o5)<|b8 6)<|PD.pb<|b9 z7 o5 o5) e)
   (d6<|j0<|gT (c7 2) (c7 3)<|b9 p5 (PD.pb<|b9 l7 (b8 4)<|PD.pb<|b9 q8 (PD.pb<|b9 l7 (PD.pb<|b9 j5 (PD.pb<|b9 j5 (b8 7)<|b8 7)<|b8 7)<|PD.pb<|b9 z7 o5 o5)<|b8 6)<|PD.pb<|b9 z7 o5 o5))))))))))))
 match ds,h with
 |[.tup [.int a,.int b,.int c],.lst Y],h=>
  simp only[oU]at h;split at h
  .rename_i hz;obtain⟨hi,B⟩:=hz;rw[<-h];obtain⟨C,E⟩:=QL hi 1 (by decide);obtain⟨H,h2⟩:=QL hi 2 (by decide);have C:G3 [.lst Y,.int 1]=.ok (.int (cI Y 1)):=C;have H:G3 [.lst Y,.int 2]=.ok (.int (cI Y 2)):=H;generalize cI Y 1=k at*
   generalize cI Y 2=f at*
   obtain⟨I,jm,J⟩:=PP k
   haveI:Bd k 1048576:=⟨E⟩
   haveI:Bd f 1048576:=⟨h2⟩
   haveI:Bd a 100:=⟨B.1⟩
   haveI:Bd b 100:=⟨B.2.1⟩
   haveI:Bd c 100:=⟨B.2.2⟩
   have p6:qS (.int 10) (.int 6)=.ok (.int 1000000):=rfl;have i:qS (.int 10) (.int 20)=.ok (.int 100000000000000000000):=rfl;have L:∀x:Int,gU (.int x) (.int 2)=.ok (.int (x.fmod 2)):=λx=>O6 (by decide);have N:∀x:Int,gU (.int x) (.int (GG k))=.ok (.int (x.fmod<|GG k)):=λx=>O6 jm;have q:∀x:Int,Bd (x.fmod<|GG k) 20:=λx=>⟨G1 jm J⟩;have y:∀(x:Int) {j:Int},0<j->j<100->R8 (.int x) (.int j)=.ok (.int (x.fdiv j)):=λx j E h2=>F8 E (by lia);have d4:=λx=>y x (show(0:Int)<4 by decide) (by decide);have d2:=λx=>y x (show(0:Int)<2 by decide) (by decide);have O:=λx=>y x (show(0:Int)<16 by decide) (by decide);clear y;unfold gD;dsimp only
   haveI:=q (k.fdiv 4)
   haveI:=q ((k*k).fdiv 16)
   haveI:=q ((k*48611).fdiv 4)
   generalize GG k=Mk at*
   simp only[j6,aAn,aBH,aAD,aBq,aAr,aAR,aCj,aCk,aBZ,aBl];refine j7 (by simp[LB,gG,T8,nJ];rfl) ?_;refine j7 (by simp[C];rfl) ?_;refine j7 (by simp[p6,L,I];rfl) ?_;obtain⟨s,m⟩:∃s,(k.fdiv 4).fmod Mk=s:=⟨_,rfl⟩;obtain⟨z,Q⟩:∃z,((k*k).fdiv 16).fmod Mk=z:=⟨_,rfl⟩;obtain⟨A,o⟩:∃A,((k*48611).fdiv 4).fmod Mk=A:=⟨_,rfl⟩;rw[m,Q,o]
   haveI:Bd s 20:=m▸q _
   haveI:Bd z 20:=Q▸q _
   haveI:Bd A 20:=o▸q _
   obtain⟨l,p⟩:∃l,a+s*b=l:=⟨_,rfl⟩
   haveI:Bd l 300:=⟨by rw[<-p];exact f7 (Bd.h (a:=a+s*b))⟩
   obtain⟨T,t⟩:∃T,b-z*c=T:=⟨_,rfl⟩;obtain⟨r,u⟩:∃r,c+A*l=r:=⟨_,rfl⟩;rw[p,t,u];refine j7 (by simp[d4,N,N6,m,p];rfl) ?_;refine j7 (by simp[O,N,N6,Q,t];rfl) ?_;refine j7 (by simp[d4,N,N6,o,u];rfl) ?_;refine j7 (ρ:=[.v (.tup [.int a,.int b,.int c]),.v (.lst Y),.v (.int (if(k.fdiv 2).fmod 2=1 then r else l)),.v (.int T),.v (.int (if(k.fdiv 2).fmod 2=1 then l else r)),.v (.int k),.v (.int Mk),.no]) ?_ ?_
   .by_cases hq:(k.fdiv 2).fmod 2=1
    .simp[d2,L,hq,LB,gG,T8,nJ]
    .simp[d2,L,hq]
   .generalize(if(k.fdiv 2).fmod 2=1 then r else l)=x2;generalize(if(k.fdiv 2).fmod 2=1 then l else r)=z2;have eM:(2:Int)*100000000000000000000+1=TZ:=rfl;have U:∀x:Int,gU (.int x) (.int TZ)=.ok (.int (x.fmod TZ)):=λx=>O6 (by decide);have eT:(100000000000000000000:Int)=HY:=rfl;refine j7 (by simp[H];rfl) ?_;refine j7 (by simp only[D9,R.aa0,i,N6 (show(2:Nat)<=60000000 by decide) (show(67:Nat)<=60000000 by decide),kB,eM,aBa,aBb];rfl) ?_;refine j7 (by rw[<-eT]at*;simp[i,U,N6];rfl) ?_;refine j7 (by rw[<-eT]at*;simp[i,U,N6];rfl) ?_;rw[<-eT];simp[i,U,N6]
  .cases h
def fA (dn:mg "len"=none)(g:bF K mg "_law_spot" dD):w9 P w K mg base 1 "_law_spot" 2 jQ:=by
 refine' n6 (k:=0) (F:=_) g wV (λhr s dh j=>?b) λI d hl h=>?_
 case b=>
  refine' (c5 (i7 2 (f9 (b8 0)<|b9 q8 (PD.pb<|b9 u8 (b8 1) o5)<|PD.pb<|CB aM<|b8 0) j)
   (c5 (i7 3 (f9 (b8 0)<|b9 q8 (PD.pb<|b9 u8 (b8 1) o5)<|PD.pb<|CB aM<|b8 0) j)
   (c5 (v5 (j3 (M4 s) (PD.pb<|b9 q8 (b8 1) o5) o5) (d6<|j0<|gT (b9 p5 (PD.pb<|b9 l7 (PD.pb<|f9 (b8 2) c8)<|PD.pb<|b9 q8 (PD.pb<|b9 u8 (b8 1) o5) o5) o5) (b9 p5 (PD.pb<|b9 l7 (PD.pb<|f9 (b8 2) c8)<|PD.pb<|b9 q8 (PD.pb<|b9 u8 (b8 1) o5) o5) o5)<|b9 p5 (PD.pb<|b9 l7 (PD.pb<|f9 (b8 2) c8)<|PD.pb<|b9 q8 (PD.pb<|b9 u8 (b8 1) o5) o5) o5) m6)
   (c5 (v5 (j3 (M4 s) (PD.pb<|b9 q8 (b8 1) o5) o5) (d6<|j0<|gT (b9 p5 (PD.pb<|b9 j5 o5<|PD.pb<|f9 (b8 3) c8)<|PD.pb<|f9 (b8 2) c8) (b9 p5 (PD.pb<|b9 j5 o5<|PD.pb<|f9 (b8 3) c8)<|PD.pb<|f9 (b8 2) c8)<|b9 p5 (PD.pb<|b9 j5 o5<|PD.pb<|f9 (b8 3) c8)<|PD.pb<|f9 (b8 2) c8) m6)
   (c5 (v5 (j3 (M4 s) (PD.pb<|b9 q8 (b8 1) o5) o5) (c5 (i7 4 (b9 l7 (PD.pb<|b9 j5 o5<|PD.pb<|b9 z7 o5 o5) o5) j)
   (c5 (i7 5 (b9 p5 (PD.pb<|b9 q8 (PD.pb<|b9 l7 (PD.pb<|b9 j5 (b8 1) o5)<|PD.pb<|b9 z7 o5 o5)<|b8 4)<|PD.pb<|b9 z7 o5 o5) j)
   (c5 (i7 6 (b9 p5 (PD.pb<|b9 q8 (PD.pb<|b9 l7 (PD.pb<|b9 j5 (PD.pb<|b9 j5 (b8 1)<|b8 1) o5)<|PD.pb<|b9 z7 o5 o5)<|b8 4)<|PD.pb<|b9 z7 o5 o5) j)
   (d6<|j0<|gT (c7 5) (c7 6)<|b9 p5 (PD.pb<|b9 q8 (PD.pb<|b9 l7 (PD.pb<|b9 j5 (PD.pb<|b9 j5 (b8 1)<|b8 1)<|b8 1)<|PD.pb<|b9 z7 o5 o5)<|b8 4)<|PD.pb<|b9 z7 o5 o5)))) m6)
   (d6<|j0<|c7 2))))))
 replace h:=rJ h;obtain⟨l,I,rfl,h⟩:=h;replace h:=X3 h;obtain⟨c,I,rfl,h⟩:=h;replace h:=y6 h;obtain⟨rfl,h⟩:=h;replace h:=gQ h;obtain⟨⟨J,hl,L,e⟩,rfl⟩:=h;obtain⟨N,p2,l0⟩:=IE J (c.fdiv 4);obtain⟨O,q2,_⟩:=IE J (c.fdiv 64);have at_:∀k:Int,0<=k->k.toNat<l.length->T0 (.lst (l.map vd)) (.int k)=.ok (vd<|l.getD k.toNat 0):=λk h0 hk=>by have:=Y0 (getD_at hk);rw[Int.toNat_of_nonneg h0]at this;exact this
 have iP:=at_ _ p2 N;have iQ:=at_ _ q2 O;have hP:=L _ (C1 N);have t:=L _ (C1 O);have Q:tE [.lst (l.map vd)]=.ok (.int (l.length:Int)):=by simp only[tE,aAi]
 have U:∀x:Int,gU (.int x) (.int (l.length:Int))=.ok (.int (x.fmod l.length)):=λx=>O6 l0;have f:gU (.int c) (.int 4)=.ok (.int (c.fmod 4)):=O6 (by decide);have m5:∀x:Int,gU (.int x) (.int 5)=.ok (.int (x.fmod 5)):=λx=>O6 (by decide);have o:∀{w:Int},0<w->w<1000000000000000->R8 (.int c) (.int w)=.ok (.int (c.fdiv w)):=λw0 w1=>F8 w0 w1;have Y:=o (w:=4) (by decide) (by decide);have u:=o (w:=64) (by decide) (by decide);have C:=o (w:=20) (by decide) (by decide);have n:=o (w:=100) (by decide) (by decide);unfold kK;dsimp only;generalize l.getD ((c.fdiv 4).fmod l.length).toNat 0=A at*
 generalize l.getD ((c.fdiv 64).fmod l.length).toNat 0=B at*
 generalize l.map vd=lv at*
 have r4:=B4 (a:=c) (b:=4) (by decide);have kv:∀v:G.V,T0 (vd v) (.int 0)=.ok (.int v.x)/\T0 (vd v) (.int 1)=.ok (.int v.y)/\T0 (vd v) (.int 2)=.ok (.int v.z):=λv=>⟨rfl,rfl,rfl⟩;simp only[j6,aAn,aBH,aAD,aBq,aAr,aAR,aCj,aCk,aBZ,aBl];refine j7 (by simp-implicitDefEqProofs only[o6,u7,E9,D3,D9,R.aa0,Y,Q,U,iP,aBa,aBb];rfl) ?_;refine j7 (by simp-implicitDefEqProofs only[o6,u7,E9,D3,D9,R.aa0,u,Q,U,iQ,aBa,aBb];rfl) ?_;have i:∀k:Int,SG (.int (c.fmod 4)) (.int k)=.ok (.bl (decide (c.fmod 4=k))):=λk=>xE _ _;by_cases p:c.fmod 4=1
 .rw[jk p];refine W3 ?_;simp-implicitDefEqProofs only[E9,D3,D9,R.aa0,f,i,decide_eq_true p,xU,if_true,kv,Y,C,n,m5,kB,Y4,o6,u7];rfl
 rw[ka p];refine j7 (by simp-implicitDefEqProofs only[E9,D3,D9,R.aa0,f,i,decide_eq_false p,xU,aAt,if_false];rfl) ?_;by_cases q:c.fmod 4=2
 .rw[jk q];refine W3 ?_;have E:∀{x:Int},bits x<=900->pR (.int 2) (.int x)=.ok (.int (2*x)):=λh=>j9 (v6.of (show bits 2<=80 by decide) h);simp-implicitDefEqProofs only[E9,D3,D9,R.aa0,f,i,decide_eq_true q,xU,if_true,kv,E t.1,E t.2.1,E t.2.2,Y4,o6,u7];rfl
 rw[ka q];refine j7 (by simp-implicitDefEqProofs only[E9,D3,D9,R.aa0,f,i,decide_eq_false q,xU,aAt,if_false];rfl) ?_;by_cases r:c.fmod 4=3
 .rw[jk r];refine W3 ?_;have H:qS (.int 10) (.int 21)=.ok (.int JS):=(MG ⟨by decide,by decide,by decide⟩).trans (by rfl);have k2:pR (.int 2) (.int JS)=.ok (.int (2*JS)):=j9 (v6.of (show bits 2<=80 by decide) (show bits JS<=80 by decide));have a1:mJ (.int (2*JS)) (.int 1)=.ok (.int YO):=rfl;have mM:∀x:Int,gU (.int x) (.int YO)=.ok (.int (x.fmod YO)):=λx=>O6 (by decide);have b1:pR (.int c) (.int 48611)=.ok (.int (c*48611)):=j9 (v6.of e (show bits 48611<=80 by decide));have b2:pR (.int c) (.int c)=.ok (.int (c*c)):=j9 (v6.of e e);have b3:pR (.int (c*c)) (.int 7919)=.ok (.int (c*c*7919)):=j9 (v6.of (bits_mul e e) (show bits 7919<=80 by decide));have b4:pR (.int (c*c)) (.int c)=.ok (.int (c*c*c)):=j9 (v6.of (bits_mul e e) e);generalize JS=T at*
  generalize YO=m at*
  simp-implicitDefEqProofs only[E9,D3,L3,C4,D9,R.aa0,f,i,decide_eq_true r,xU,if_true,H,k2,a1,mM,b1,b2,b3,b4,kB,Y4,o6,u7,A3,aBa,aBb];rfl
 rw[ka r];refine j7 (by simp-implicitDefEqProofs only[E9,D3,D9,R.aa0,f,i,decide_eq_false r,xU,aAt,if_false];rfl) ?_;rfl
def cQ (w4:w9 P w K mg base 1 "_law_product" 2 j2)(qr:mg "abs"=none)(g:bF K mg "_law_plane" bI):w9 P w K mg base 2 "_law_plane" 2 pM:=by
 refine' n6 (k:=1) (F:=_) g sJ (λhr hu dh l=>?b) λE d hl h=>?_
 case b=>
  refine' (c5 (i7 2 c8 l)
   (c5 (G9 aAW rfl (IL<|c7 0) (n4 3 l) (c5 (i7 4 (CB SF<|b8 3) l)
   (d6<|fM (YX 4) aAW (j3 uZ (b8 4) o5)<|d6<|BM 2 4 rfl l<|i6 (c7 4)<|i6 (b9 q8 (b8 2)<|b8 4) o7)))
   (c5 (i7 5 (gT (b9 u8 (PD.pb<|f9 (b8 0) c8)<|b8 2) (b9 u8 (PD.pb<|f9 (b8 0) c8)<|b8 2)<|b9 u8 (PD.pb<|f9 (b8 0) c8)<|b8 2) l)
   (d6<|j0<|b9 l7 (b8 5)<|PD.pb<|pB<|i6 (P7 w4 hr (c7 5)<|c7 1) o7))))
 replace h:=B1 h;obtain⟨a,b,c,E,rfl,h⟩:=h;replace h:=B1 h;obtain⟨d,e,f,E,rfl,h⟩:=h;replace h:=y6 h;obtain⟨rfl,h⟩:=h;split at h
 .rename_i hz;obtain⟨O,o,Q⟩:=hz;rw[<-h];obtain⟨C,H⟩:∃P:G.V,P=⟨a,b,c⟩:=⟨_,rfl⟩;obtain⟨s,I⟩:∃P:G.V,P=⟨d,e,f⟩:=⟨_,rfl⟩;rw[<-H]at O o;rw[<-I]at Q;have vC:(.tup [.int a,.int b,.int c]:D)=vd C:=by rw[H]
  have vP:(.tup [.int d,.int e,.int f]:D)=vd s:=by rw[I]
  rw[vC,vP,<-H,<-I];obtain⟨T,g1,g2⟩:=G.fG O;have J:((G.u0 C:Nat):Int)≠0:=by lia
  have gb:tU ((G.u0 C:Nat):Int):=⟨J,f7 (tQ o)⟩;simp only[j6,aAn,aBH,aAD,aBq];simp only[C4,D9,R.aa0,uV,A3,aAr,aAR,aCj,aCk,aBZ,aBl,aBa,aBb];refine aU (λrest ρ=>∃(g:Nat) (n r:Sl),ρ=[.v (vd C),.v (vd s),.v (.int g),n,r,.no]/\∃i:List Int,rest=i.map D.int/\i.foldl (λg n=>aGg g n.natAbs) g=G.u0 C) ?_ ⟨0,_,_,rfl,[C.x,C.y,C.z],rfl,by simp[G.u0]⟩ ?_
  .rintro d E ρ ⟨g,n,r,rfl,i,A,j⟩;match i,A,j with
   |x::i,A,j=>
    injection A with e3 e4;subst e3 e4;simp only[bY,aBa,aBb,o6,u7,E9,D3,R.aa0,PV,A3];have ea:(if x<0 then-x else x)=(x.natAbs:Int):=by split<;>lia
    rw[ea];refine qQ (λm ρ=>∃(p q:Nat),ρ=[.v (vd C),.v (vd s),.v (.int p),.v (.int x),.v (.int q),.no]/\q<m/\aGg p q=aGg g x.natAbs) ?_ (by rintro ρ ⟨p,q,_,h,_⟩;lia) ⟨g,x.natAbs,rfl,by show x.natAbs<((x.natAbs:Int).natAbs)+2;lia,rfl⟩ ?_
    .rintro m ρ ⟨p,q,rfl,hq,L⟩;by_cases B:(q:Int)=0
     .exact .inl (by simp[B])
     .have h1:q≠0:=by lia
      refine .inr ⟨by simp;lia,_,?_,q,p%q,rfl,?_,?_⟩
      .have em:gU (.int (p:Int)) (.int (q:Int))=.ok (.int ((p%q:Nat):Int)):=by rw[rN B,aET _ (by lia)];rfl
       simp[em,LB,gG,T8,nJ,nV,sizeLine]
      .have:=aED p (show 0<q by lia)
       lia
      .rw[aFO,<-Nat.gcd_rec,aFO];exact L
    .rintro m ρ ⟨p,q,rfl,hq,L⟩ hc;have B:q=0:=by
      by_cases z:q=0
      .exact z
      .simp at hc;lia
     subst B;refine⟨p,_,_,rfl,i,rfl,?_⟩;rw[<-j,aDw,<-L,Nat.gcd_zero_right]
  .rintro ρ ⟨g,n,r,rfl,i,A,j⟩;have:i=[]:=by simpa using A.symm
   subst this;have j:g=G.u0 C:=j;subst j;have sn:Sz 2003 (G.cZ C<|G.u0 C):=by have U:=bits_fdiv (b:=(G.u0 C:Int)) o.1;have Y:=bits_fdiv (b:=(G.u0 C:Int)) o.2.1;have f3:=bits_fdiv (b:=(G.u0 C:Int)) o.2.2;rw[dJ T]at U Y f3;exact⟨U,Y,f3⟩
   have d1:∀t:Int,R8 (.int t) (.int (G.u0 C:Nat))=.ok (.int (t/(G.u0 C:Nat))):=λt=>by rw[kR gb,dJ T]
   have p2:=V2 (u:=G.cZ C (G.u0 C)) (v:=s) sn.mono Q.mono;have N:j2 [.tup [.int (C.x/(G.u0 C:Nat)),.int (C.y/(G.u0 C:Nat)),.int (C.z/(G.u0 C:Nat))],vd s]=_:=p2;have s4:4<=sizeLine:=by decide
   have s3:3<=sizeLine:=by decide
   have s1:1<=sizeLine:=by decide
   simp[d1,i8,N,kq,nV,mJ,s4,s3,s1,gK,VJ,G.cZ]
 .cases h
def Z5 (J9:w9 P w K mg base 1 "_law_cross" 2 u4)(z6:w9 P w K mg base 1 "_law_way" 2 l4)(w4:w9 P w K mg base 1 "_law_product" 2 j2)(cQ:w9 P w K mg base 2 "_law_plane" 2 pM)(ib:mg "range"=none)(dn:mg "len"=none)(b_max:mg "max"=none)(g:bF K mg "_law_faces" N1):OV P w K mg base 3 "_law_faces" 1 W5:=by
 refine' OW (k:=2) (F:=_) g sI (λI hu dh y=>?b) λds d hl h=>?_
 case b=>
  refine' (tY (zU 1 y)
   (tY (G9 aAW rfl (Q7<|A8 (PD.pb<|CB aM<|b8 0) L0) (n4 2 y) (d6 (G9 aAW rfl (Q7<|A8 (PD.pb<|CB aM<|b8 0) L0) (n4 3 y) (d6 (G9 aAW rfl (Q7<|A8 (b8 2) L0) (n4 4 y) (d6 (v5 (uJ.pt<|fR (j3 yU (b8 3)<|b8 2)<|bB<|j3 (cS hu) (b8 3)<|b8 4) (c5 (i7 5 (P7 J9 I (P7 z6 I (f9 (b8 0)<|c7 2)<|f9 (b8 0)<|c7 3)<|P7 z6 I (f9 (b8 0)<|c7 2)<|f9 (b8 0)<|c7 4) y)
   (c5 (i7 6 (J7 ["P"] ["normal", "land", "i"] [5,0,2] rfl (G6 (sc:=c6 N1) (N:=bN)) (t4<|c7 0) (LW λ_ _ _ _ _=>(P7 w4 I (c7 1)<|P7 z6 I (f9 (b8 2)<|c7 3)<|c7 0))<|λ_=>t6) y)
   (d6 (v5 (uJ.pt<|fR (j3 (cS hu) (b8 5)<|PD.pb<|gT c8 c8 c8)<|bB<|j3 ZM (PD.pb<|jO (XA rfl)<|A8 (b8 6) L0) o5) (c5 (i7 7 (P7 cQ I (c7 5)<|f9 (b8 0)<|c7 2) y)
   (d6<|rA 1 (J7 ["n"] ["land", "tops"] [0,6] rfl (G6 (sc:=c6 N1) (N:=bN)) (Q7<|A8 (PD.pb<|CB aM<|b8 0) L0) (hxt λ_ _ _ _ _=>⟨(j3 (M4 hu) (PD.pb<|f9 (b8 2)<|c7 0) o5),(f9 (b8 1)<|c7 0)⟩)<|λ_=>t6) (c7 7) dh)) m6)))) m6)))))))
   (OE 1)))
 obtain⟨L,rfl,U,O,h3,h4,rfl⟩:=EX h;have rn:=ZP (n:=L.length) (by lia);have rI:∀i:Nat,i<L.length->fZ [.int (i:Int)]=.ok (Y7 0 i):=λi E=>ZP (by lia);have lL:tE [.lst (L.map vd)]=.ok (.int (L.length:Int)):=by simp only[tE,aAi]
 simp only[j6,aAn,aBH,aAD,aBq,aAr,aAR,aCj,aCk,aBZ,aBl];refine a3j (ρ:=[.v (.lst (L.map vd)),.d (Y2 L []),.no,.no,.no,.no,.no,.no]) rfl ?_;refine a1x (x:=Y7 0 L.length) (by simp-implicitDefEqProofs only[o6,u7,D3,R.aa0,lL,rn]) ?_;refine a1d (λi ρ=>∃Q s o l m a,ρ=[.v (.lst (L.map vd)),.d (Y2 L<|lp i (UR L) []),Q,s,o,l,m,a]) ?_ ⟨_,_,_,_,_,_,rfl⟩ ?_
 .rintro i _ E ρ ⟨Q,s,o,l,m,a,rfl⟩;have E:i<L.length:=by lia
  refine NW (ρ':=[.v (.lst (L.map vd)),.d (Y2 L<|lp i (UR L) []),.v (.int (i:Int)),s,o,l,m,a]) rfl ?_;have F1:=DO O (n:=i) (by lia);show∃t:Ev,_/\∃Q s o l m a,t=[.v (.lst (L.map vd)),.d (Y2 L<|lp L.length (TY L i)<|lp i (UR L) []),Q,s,o,l,m,a];generalize lp i (UR L) []=fs at*
  refine rq (x:=Y7 0 L.length) (by simp-implicitDefEqProofs only[o6,u7,E9,D3,R.aa0,lL,rn]) ?_;refine MK (λj ρ=>∃s o l m a,ρ=[.v (.lst (L.map vd)),.d (Y2 L<|lp j (TY L i) fs),.v (.int (i:Int)),s,o,l,m,a]) ?_ ⟨_,_,_,_,_,rfl⟩ ?_
  .rintro j _ Y ρ ⟨s,o,l,m,a,rfl⟩;have Y:j<L.length:=by lia
   refine NW (ρ':=[.v (.lst (L.map vd)),.d (Y2 L<|lp j (TY L i) fs),.v (.int (i:Int)),.v (.int (j:Int)),o,l,m,a]) rfl ?_;have F2:=SW O E (n:=j) F1;show∃t:Ev,_/\∃s o l m a,t=[.v (.lst (L.map vd)),.d (Y2 L<|lp i (eU L i j)<|lp j (TY L i) fs),.v (.int (i:Int)),s,o,l,m,a];generalize lp j (TY L i) fs=gs at*
   refine rq (x:=Y7 0 i) (by simp-implicitDefEqProofs only[o6,u7,E9,D3,R.aa0,rI i E]) ?_;refine MK (λk ρ=>∃o l m a,ρ=[.v (.lst (L.map vd)),.d (Y2 L<|lp k (eU L i j) gs),.v (.int (i:Int)),.v (.int (j:Int)),o,l,m,a]) ?_ ⟨_,_,_,_,rfl⟩ ?_
   .rintro k _ hk ρ ⟨o,l,m,a,rfl⟩;have hk:k<i:=by lia
    refine NW (ρ':=[.v (.lst (L.map vd)),.d (Y2 L<|lp k (eU L i j) gs),.v (.int (i:Int)),.v (.int (j:Int)),.v (.int (k:Int)),l,m,a]) rfl ?_;have F3:=OR O E (j:=j) (n:=k) (by lia) F2;show∃t:Ev,_/\∃o l m a,t=[.v (.lst (L.map vd)),.d (Y2 L<|eU L i j k<|lp k (eU L i j) gs),.v (.int (i:Int)),.v (.int (j:Int)),o,l,m,a];generalize lp k (eU L i j) gs=es at*
    have fl:=WP h4 F3;have hj0:=Y;have iA:T0 (.lst (L.map vd)) (.int (i:Int))=.ok (vd<|L.getD i 0):=Y0 (getD_at E);have iB:T0 (.lst (L.map vd)) (.int (j:Int))=.ok (vd<|L.getD j 0):=Y0 (getD_at Y);have iC:T0 (.lst (L.map vd)) (.int (k:Int))=.ok (vd<|L.getD k 0):=Y0 (getD_at (by lia));have J:=U _ (C1 E);have sB:=U _ (C1 Y);have sC:=U _ (C1 (show k<L.length by lia));unfold eU;by_cases T:j<i/\j≠k
    .refine MT (bP (P3 ((QQ _ _).trans (by rw[decide_eq_true T.1])) rfl) (P3 ((YL _ _).trans (by rw[decide_eq_true T.2])) rfl)) ?_;have PL:=λ(u:G.cr (L.getD j 0-L.getD i 0) (L.getD k 0-L.getD i 0)≠0)=>RL u L;have TH:=xG (L.getD i 0) (L.getD j 0) (L.getD k 0);generalize L.getD i 0=A at*
     generalize L.getD j 0=B at*
     generalize L.getD k 0=C at*
     have w1:=qE A B;have w2:=qE A C;have cc:=S1 (sB.sub J).mono (sC.sub J).mono;have sN:Sz 2003 (G.cr (B-A)<|C-A):=((sB.sub J).cr (sC.sub J)).mono;have LP:=λu=>JY (c:=G.cr (B-A) (C-A)) (P:=A) u sN J.mono;rw[TH]at LP;have pr:∀X∈L,l4 [vd A,vd X]=.ok (vd<|X-A)/\j2 [vd (G.cr (B-A)<|C-A),vd (X-A)]=.ok (.int (G.d5 (G.cr (B-A)<|C-A)<|X-A)):=λX r=>⟨qE A X,V2 sN.mono ((U X r).sub J).mono⟩;have UQ:∀{p:Prop},(p/\UpQ L A B C↔p/\G.cr (B-A) (C-A)≠0/\∀X∈L,G.d5 (G.cr (B-A)<|C-A) (X-A)<=0):=Iff.rfl;simp only[UQ];generalize G.d9 A B C=f at*
     generalize G.cr (B-A) (C-A)=N at*
     refine pJ (by simp-implicitDefEqProofs only[o6,u7,E9,D3,L3,C4,R.aa0,iA,iB,iC,w1,w2,cc,aBa,aBb];rfl) ?_;refine pJ (ρ:=[.v (.lst (L.map vd)),.d (Y2 L es),.v (.int (i:Int)),.v (.int (j:Int)),.v (.int (k:Int)),.v (vd N),.v (.lst ((L.map λX=>G.d5 N (X-A)).map D.int)),a]) ?_ ?_
     .simp-implicitDefEqProofs only[L3,C4,R.aa0,K8];rw[fU vd D.int (λX=>G.d5 N (X-A)) L (by lia) λX r=>⟨[.v (vd X),.v (vd N),.v (.lst (L.map vd)),.v (.int (i:Int))],rfl,by simp-implicitDefEqProofs only[o6,u7,E9,D3,L3,C4,R.aa0,iA,pr X r]⟩];rfl
     have mx:=ZX (ns:=L.map λX=>G.d5 N (X-A)) (by obtain⟨X,r,_⟩:=O;intro z;rw[List.map_eq_nil_iff]at z;rw[z]at r;cases r)
     have m1:∀X∈L,G.d5 N (X-A)<=xI (L.map λX=>G.d5 N (X-A)):=λX r=>HJ (aAk.mpr ⟨X,r,rfl⟩);have m2:∃X∈L,G.d5 N (X-A)=xI (L.map λX=>G.d5 N (X-A)):=aAk.mp (AX (by obtain⟨X,r,_⟩:=O;intro z;rw[List.map_eq_nil_iff]at z;rw[z]at r;cases r))
     generalize xI (L.map λX=>G.d5 N (X-A))=mN at*
     by_cases H:N≠0/\∀X∈L,G.d5 N (X-A)<=0
     .rw[jk ⟨T,H⟩];have mle:mN<=0:=by obtain⟨X,r,e⟩:=m2;rw[<-e];exact H.2 X r
      refine MT (bP (P3 ((ne0 N).trans (by rw[decide_eq_false H.1,aGf])) rfl) (P3 (P3 mx ((pD _ _).trans (by rw[decide_eq_true mle]))) rfl)) ?_;refine pJ (by simp-implicitDefEqProofs only[o6,u7,E9,D3,L3,C4,R.aa0,iA,LP H.1,aBa,aBb];rfl) ?_;refine⟨[.v (.lst (L.map vd)),.d (Y2 L<|sK f es),.v (.int (i:Int)),.v (.int (j:Int)),.v (.int (k:Int)),.v (vd N),.v (.lst ((L.map λX=>G.d5 N (X-A)).map D.int)),.v (gK f)],?_,_,_,_,_,rfl⟩;simp-implicitDefEqProofs only[o6,u7,E9,D3,L3,C4,R.aa0,lL,rn];have tp:∀n:Nat,n<L.length->T0 (.lst ((L.map λX=>G.d5 N (X-A)).map D.int)) (.int (n:Int))=.ok (.int (G.d5 N<|L.getD n 0-A)):=λn u=>gM (by rw[cP (by lia),aBx,aAE,aAE,getD_at u];rfl);rw[show Y7 0 L.length=(aAQ L.length).map λ(n:Nat)=>D.int (n:Int)by unfold Y7;rw[aFX],wH (λ(n:Nat)=>D.int (n:Int)) (λn=>decide (G.d5 N (L.getD n 0-A)=0)) (λn=>vd (L.getD n 0)) (aAQ L.length) (by rw[aDd];lia) λn u=>?_,vX (q:=λX=>decide (G.d5 N (X-A)=0)),PL H.1]
      .exact yx fl
      .have u:n<L.length:=by simpa using u
       refine⟨[.v (.int n),.v (.lst (L.map vd)),.v (.lst ((L.map λX=>G.d5 N (X-A)).map D.int))],rfl,?_,?_⟩
       .simp-implicitDefEqProofs only[E9,D3,L3,C4,D9,R.aa0,tp n u,xE,xU];rfl
       .simp-implicitDefEqProofs only[E9,D3,L3,C4,R.aa0,Y0 (getD_at u)]
     .rw[ka λz=>H z.2];refine⟨_,nD ?_,_,_,_,_,rfl⟩;by_cases z:N=0
      .exact wB (P3 ((ne0 N).trans (by rw[decide_eq_true z,aDf])) rfl)
      .refine bP (P3 ((ne0 N).trans (by rw[decide_eq_false z,aGf])) rfl) (P3 (P3 mx ((pD _ _).trans (by rw[decide_eq_false λq=>H ⟨z,λX r=>Int.le_trans (m1 X r) q⟩]))) rfl)
    .rw[ka λz=>T z.1];refine⟨_,nD ?_,_,_,_,_,rfl⟩;by_cases z:j<i
     .exact bP (P3 ((QQ _ _).trans (by rw[decide_eq_true z])) rfl) (P3 ((YL _ _).trans (by rw[decide_eq_false λq=>T ⟨z,q⟩])) rfl)
     .exact wB (P3 ((QQ _ _).trans (by rw[decide_eq_false z])) rfl)
   .rintro ρ ⟨o,l,m,a,rfl⟩;exact⟨_,_,_,_,_,by rw[aDR]⟩
  .rintro ρ ⟨s,o,l,m,a,rfl⟩;exact⟨_,_,_,_,_,_,by rw[aDR]⟩
 .rintro ρ ⟨Q,s,o,l,m,a,rfl⟩;rw[aDR];rfl
def T9 (J9:w9 P w K mg base 1 "_law_cross" 2 u4)(z6:w9 P w K mg base 1 "_law_way" 2 l4)(w4:w9 P w K mg base 1 "_law_product" 2 j2)(qt:mg "min"=none)(g:bF K mg "_law_area_way" F4):w9 P w K mg base 2 "_law_area_way" 2 oO:=by
 refine' n6 (k:=1) (F:=_) g lH (λC hu dh A=>?b) λds d hl h=>?_
 case b=>
  refine' (c5 (i7 2 (gT c8 c8 c8) A)
   (c5 (G9 aAW rfl (t4<|c7 1) (n4 3 A) (d6 (G9 aAW rfl (t4<|c7 1) (n4 4 A) (c5 (jE 5 ["R"] ["P", "Q"] [3,4] A rfl (G6 (sc:=c6 F4) (N:=T4)) (t4<|c7 1) (hxt λ_ _ _ _ _=>⟨(uJ.pt<|fR (j3 (cS hu) (b8 0)<|b8 1)<|bB<|j3 (cS hu) (b8 0)<|b8 2),(P7 J9 C (P7 z6 C (c7 1)<|c7 2)<|P7 z6 C (c7 1)<|c7 0)⟩)<|λ_=>t6)
   (d6 (v5 (uJ.pt<|fR (j3 (cS hu) (b8 3)<|b8 4)<|bB<|j3 uZ (PD.pb<|jO (UY rfl)<|A8 (PD.pb<|J7 ["way"] ["plane"] [0] rfl (G6 (sc:=c6 F4) (N:=T4)) (t4<|c7 5) (LW λ_ _ _ _ _=>(P7 w4 C (kI (b8 1) X4<|J0 c8)<|c7 0))<|λ_=>t6) L0) o5) (c5 (i7 6 (P7 J9 C (P7 z6 C (f9 (b8 1) c8)<|c7 3)<|P7 z6 C (f9 (b8 1) c8)<|c7 4) A)
   (d6<|i7 2 (gT (b9 l7 (PD.pb<|f9 (b8 2) c8)<|PD.pb<|f9 (b8 6) c8) (b9 l7 (PD.pb<|f9 (b8 2) c8)<|PD.pb<|f9 (b8 6) c8)<|b9 l7 (PD.pb<|f9 (b8 2) c8)<|PD.pb<|f9 (b8 6) c8) A)) m6))))))
   (d6<|j0<|c7 2)))
 replace h:=QN h;obtain⟨a,b,c,d0,ds,rfl,h⟩:=h;replace h:=rJ h;obtain⟨s,ds,rfl,h⟩:=h;replace h:=y6 h;obtain⟨rfl,h⟩:=h;replace h:=gQ h;obtain⟨⟨hn,p,h3,hl,A⟩,rfl⟩:=h;obtain⟨n,en⟩:∃P:G.V,P=⟨a,b,c⟩:=⟨_,rfl⟩;rw[<-en]at hn⊢;have sl:ET (.tup [.int a,.int b,.int c,.int d0]) none (some 3)=.ok (vd n):=by rw[en];rfl
 generalize D.tup [.int a,.int b,.int c,.int d0]=q at*
 have i0:T0 (.lst (s.map vd)) (.int 0)=.ok (vd<|s.getD 0 0):=Y0 (i:=0) (getD_at (by lia));have sO:=p _ (C1 (show 0<s.length by lia));unfold CD;generalize s.getD 0 0=o at*
 have ts:=K8 (s.map vd);have third:∀P Q:G.V,∃R∈s,R≠P/\R≠Q:=λP Q=>MH A h3 P Q;have wy:=λP Q=>qE P Q;have L:∀P∈s,∀Q∈s,∀R∈s,u4 [vd (Q-P),vd (R-P)]=.ok (vd<|G.cr (Q-P)<|R-P)/\j2 [vd n,vd (G.cr (Q-P)<|R-P)]=.ok (.int (G.d5 n<|G.cr (Q-P)<|R-P)):=λP t Q B R hR=>⟨S1 ((p Q B).sub (p P t)).mono ((p R hR).sub (p P t)).mono,V2 hn.mono (((p Q B).sub (p P t)).cr ((p R hR).sub (p P t))).mono⟩;have crO:∀P∈s,∀Q∈s,u4 [vd (P-o),vd (Q-o)]=.ok (vd<|G.cr (P-o)<|Q-o):=λP t Q B=>S1 ((p P t).sub sO).mono ((p Q B).sub sO).mono;simp only[j6,aAn,aBH,aAD,aBq,aAr,aAR,aCj,aCk,aBZ,aBl];refine j7 (ρ:=[.v q,.v (.lst (s.map vd)),.v (vd<|G.ar o []),.no,.no,.no,.no]) rfl ?_;refine AU (x:=s.map vd) (by simp-implicitDefEqProofs only[L3,C4,R.aa0,ts]) ?_;refine aU (λrest ρ=>∃done l a3 O T U,rest=l.map vd/\ρ=[.v q,.v (.lst (s.map vd)),.v (vd<|G.ar o<|(done.flatMap λP=>s.map λQ=>(P,Q)).filter (cW n s)),a3,O,T,U]/\done++l=s) ?_ ⟨[],s,_,_,_,_,rfl,rfl,rfl⟩ ?_
 .rintro d ds ρ ⟨done,l,a3,O,T,U,Y,rfl,H⟩;match l,Y,H with
  |P::l,Y,H=>
   injection Y with e3 e4;subst e3 e4;have t:P∈s:=by rw[<-H];simp
   have e5:(done++[P])++l=s:=by rw[<-H];simp
   have er:((done++[P]).flatMap λP=>s.map λQ=>(P,Q))=(done.flatMap λP=>s.map λQ=>(P,Q))++s.map λQ=>(P,Q):=by simp
   refine NW (ρ':=[.v q,.v (.lst (s.map vd)),.v (vd<|G.ar o<|(done.flatMap λP=>s.map λQ=>(P,Q)).filter (cW n s)),.v (vd P),O,T,U]) rfl ?_;refine rq (x:=s.map vd) (by simp-implicitDefEqProofs only[L3,C4,R.aa0,ts]) ?_;generalize(done.flatMap λP=>s.map λQ=>(P,Q))=W at*
   refine gx (λrest ρ=>∃m l y u r,rest=l.map vd/\ρ=[.v q,.v (.lst (s.map vd)),.v (vd<|G.ar o<|(W++m.map λQ=>(P,Q)).filter (cW n s)),.v (vd P),y,u,r]/\m++l=s) ?_ ⟨[],s,O,T,U,rfl,by rw[aBH,aBk],rfl⟩ ?_
   .rintro d ds ρ ⟨m,I,y,u,r,q1,rfl,J⟩;match I,q1,J with
    |Q::I,q1,J=>
     injection q1 with q3 q4;subst q3 q4;have B:Q∈s:=by rw[<-J];simp
     have q5:(m++[Q])++I=s:=by rw[<-J];simp
     have ef:(W++(m++[Q]).map λQ=>(P,Q)).filter (cW n s)=(W++m.map λQ=>(P,Q)).filter (cW n s)++if cW n s (P,Q)=true then[(P,Q)]else[]:=by rw[aBw,<-aEj,List.filter_append];congr 1;simp only[aAn,aBH,List.filter_cons,List.filter_nil]
     refine NW (ρ':=[.v q,.v (.lst (s.map vd)),.v (vd<|G.ar o<|(W++m.map λQ=>(P,Q)).filter (cW n s)),.v (vd P),.v (vd Q),u,r]) rfl ?_;have f:∀ρ:Ev,(∃y u r,ρ=[.v q,.v (.lst (s.map vd)),.v (vd<|G.ar o<|(W++(m++[Q]).map λQ=>(P,Q)).filter (cW n s)),.v (vd P),y,u,r])->∃m l y u r,I.map vd=l.map vd/\ρ=[.v q,.v (.lst (s.map vd)),.v (vd<|G.ar o<|(W++m.map λQ=>(P,Q)).filter (cW n s)),.v (vd P),y,u,r]/\m++l=s:=λρ ⟨y,u,r,e⟩=>⟨m++[Q],I,y,u,r,rfl,e,q5⟩;rw[ef]at f;clear ef;generalize(W++m.map λQ=>(P,Q)).filter (cW n s)=E at*
     refine pJ (ρ:=[.v q,.v (.lst (s.map vd)),.v (vd<|G.ar o E),.v (vd P),.v (vd Q),.v (.lst ((s.filter λR=>decide (R≠P/\R≠Q)).map λR=>vd (G.cr (Q-P)<|R-P))),r]) ?_ ?_
     .simp-implicitDefEqProofs only[L3,C4,R.aa0,ts];rw[wH vd (λR=>decide (R≠P/\R≠Q)) (λR=>vd (G.cr (Q-P)<|R-P)) s (by lia) λZ j=>⟨[.v (vd Z),.v (vd P),.v (vd Q)],rfl,fw Z P Q,by simp-implicitDefEqProofs only[o6,u7,L3,C4,R.aa0,wy,(L P t Q B Z j).1]⟩];rfl
     by_cases pq:P≠Q
     .have nz:(s.filter λZ=>decide (Z≠P/\Z≠Q))≠[]:=by obtain⟨Z,j,hh⟩:=third P Q;intro z;have:=aFF.mp z Z j;exact this (decide_eq_true hh)
      have mi:=qz (ns:=(s.filter λZ=>decide (Z≠P/\Z≠Q)).map λZ=>G.d5 n (G.cr (Q-P)<|Z-P)) (by simpa using nz);have m1:=yF (ns:=(s.filter λZ=>decide (Z≠P/\Z≠Q)).map λZ=>G.d5 n (G.cr (Q-P)<|Z-P)) (by simpa using nz);have m2:∀Z∈s,Z≠P->Z≠Q->tH ((s.filter λZ=>decide (Z≠P/\Z≠Q)).map λZ=>G.d5 n (G.cr (Q-P)<|Z-P))<=G.d5 n (G.cr (Q-P)<|Z-P):=λZ j z1 z2=>II (aAk.mpr ⟨Z,aBS.mpr ⟨j,decide_eq_true ⟨z1,z2⟩⟩,rfl⟩);have gi:=rG (n:=n) (s:=s) (e:=(P,Q));have pos:0<tH ((s.filter λZ=>decide (Z≠P/\Z≠Q)).map λZ=>G.d5 n (G.cr (Q-P)<|Z-P))↔cW n s (P,Q)=true:=by
       rw[gi];constructor
       .exactλz=>⟨pq,λZ j z1 z2=>Int.lt_of_lt_of_le z (m2 Z j z1 z2)⟩
       .rintro⟨_,z⟩;obtain⟨Z,j,e⟩:=aAk.mp m1;rw[aBS,decide_eq_true_eq]at j;rw[<-e];exact z Z j.1 j.2.1 j.2.2
      have CP:=λ{ρ:Ev} {fe:Ev->R D} {K:List D->R D} (h:∀Z∈s.filter (λZ=>decide (Z≠P/\Z≠Q)),∃ρ1,(λd ρ=>R.ok (aDF ρ 0<|Sl.v d)) (vd<|G.cr (Q-P)<|Z-P) ρ=R.ok ρ1/\fe ρ1=.ok (.int (G.d5 n<|G.cr (Q-P)<|Z-P)))=>fU (Gt:=λd ρ=>R.ok (aDF ρ 0<|Sl.v d)) (ρ:=ρ) (fe:=fe) (K:=K) (λZ=>vd (G.cr (Q-P)<|Z-P)) D.int (λZ=>G.d5 n (G.cr (Q-P)<|Z-P)) (s.filter λZ=>decide (Z≠P/\Z≠Q)) (aAs (aDA _ _) (by lia)) h;have tst:∀b:Bool,decide (0<tH ((s.filter λZ=>decide (Z≠P/\Z≠Q)).map λZ=>G.d5 n (G.cr (Q-P)<|Z-P)))=b->tz (.int (tH<|(s.filter λZ=>decide (Z≠P/\Z≠Q)).map λZ=>G.d5 n (G.cr (Q-P)<|Z-P))) (.int 0)=.ok (.bl b):=λb e=>by rw[rD,e]
      have el:∀Z∈s.filter (λZ=>decide (Z≠P/\Z≠Q)),j2 [vd n,vd (G.cr (Q-P)<|Z-P)]=.ok (.int (G.d5 n<|G.cr (Q-P)<|Z-P)):=λZ j=>(L P t Q B Z (aBS.mp j).1).2;by_cases hg:cW n s (P,Q)=true
      .rw[jk hg]at f;refine MT (bP (P3 ((uN P Q).trans (by rw[decide_eq_true pq])) rfl)<|P3 (P3 (P3 (QU<|P3 (K8 _)<|CP λZ j=>⟨[.v (vd<|G.cr (Q-P)<|Z-P),.v q],rfl,P3 (gH sl rfl) (el Z j)⟩) mi)<|tst true<|decide_eq_true<|pos.mpr hg) rfl) ?_;refine pJ (P3 (P3 (gH (P3 (gH i0 rfl)<|wy o P)<|P3 (gH i0 rfl)<|wy o Q)<|crO P t Q B) rfl) ⟨[.v q,.v (.lst (s.map vd)),.v (vd<|G.ar o<|E++[(P,Q)]),.v (vd P),.v (vd Q),.v (.lst ((s.filter λR=>decide (R≠P/\R≠Q)).map λR=>vd (G.cr (Q-P)<|R-P))),.v (vd<|G.cr (P-o)<|Q-o)],?_,f _ ⟨_,_,_,rfl⟩⟩;rw[WK];rfl
      .rw[ka hg,aBk]at f;exact⟨_,nD (bP (P3 ((uN P Q).trans (by rw[decide_eq_true pq])) rfl)<|P3 (P3 (P3 (QU<|P3 (K8 _)<|CP λZ j=>⟨[.v (vd<|G.cr (Q-P)<|Z-P),.v q],rfl,P3 (gH sl rfl) (el Z j)⟩) mi)<|tst false<|decide_eq_false λz=>hg (pos.mp z)) rfl),f _ ⟨_,_,_,rfl⟩⟩
     .have ng:¬cW n s (P,Q)=true:=λz=>pq (rG.mp z).1;rw[ka ng,aBk]at f;exact⟨_,nD (wB (P3 ((uN P Q).trans (by rw[decide_eq_false pq])) rfl)),f _ ⟨_,_,_,rfl⟩⟩
   .rintro ρ ⟨m,I,y,u,r,q1,rfl,J⟩;have:I=[]:=by simpa using q1.symm
    subst this;rw[aBk]at J;subst J;exact⟨done++[P],l,_,_,_,_,rfl,by rw[er],e5⟩
 .rintro ρ ⟨done,l,a3,O,T,U,Y,rfl,H⟩;have:l=[]:=by simpa using Y.symm
  subst this;rw[aBk]at H;subst H;rfl
def Z1 (n:mg "isinstance"=none)(o:mg "list"=none)(p:mg "bool"=none)(e:mg "int"=none)(g:bF K mg "_law_told" Y6):w9 P w K mg base 1 "_law_told" 2 oI:=by
 refine' n6 (k:=0) (F:=_) g xF (λq f r s=>?b) λj d l h=>?_
 case b=>
  refine' (c5 (v5 (uJ.pt<|iT (oJ<|fO<|EW NA<|b8 0)<|fH<|j3 (cS f) (b8 0)<|b8 1) (d6<|j0 BE) m6)
   (d6<|j0<|DG (M4 f) (PD.pb<|J7 ["x"] [] [] rfl (G6 (sc:=c6 Y6) (N:=nK)) (t4<|c7 0) (hxt λ_ _ _ _ _=>⟨(uJ.pt<|iT (oJ<|fO<|EW XX<|b8 0)<|fH<|fO<|EW QE<|b8 0),(c7 0)⟩)<|λ_=>t6)<|PD.pb<|iK o7))
 replace h:=eJ h;obtain⟨Y,j,rfl,h⟩:=h;replace h:=eJ h;obtain⟨t,j,rfl,h⟩:=h;replace h:=y6 h;obtain⟨rfl,h⟩:=h;replace h:=gQ h;obtain⟨⟨rfl,a,rfl,l⟩,rfl⟩:=h;have m:=xD (zJ a);simp only[j6,aAn,aBH,aAD,aBq,aAr,aAR,aCj,aCk,aBl];refine j7 (ρ:=[.v (.lst (a.map D.int)),.v (.lst (a.map D.int))]) (nD<|BH (wR rfl)<|P3 m rfl) ?_;simp-implicitDefEqProofs only[C4,R.aa0,K8];rw[wH D.int (λ_=>false) D.int a (by lia) λi u=>⟨[.v (.int i)],rfl,BH (wR rfl) rfl,rfl⟩,aFF.mpr λ_ _=>by simp];rfl
section
seal PySem.eval
def o_law {f:a5}{fd:dq}(kP:w9 P w K mg base 10 "body_of" 1 aZ)(dI:w9 P w K mg base 2 "_law_near" 1 vM)(cE:w9 P w K mg base 2 "_law_moved" 2 oU)(T9:w9 P w K mg base 2 "_law_area_way" 2 oO)(fA:w9 P w K mg base 1 "_law_spot" 2 jQ)(w4:w9 P w K mg base 1 "_law_product" 2 j2)(z6:w9 P w K mg base 1 "_law_way" 2 l4)(Z1:w9 P w K mg base 1 "_law_told" 2 oI)(fm:w9 P w K mg base 10 "rooms_seen" 2 fY)(X0:w9 P w K mg base 11 "sixfold_room" 1 MN)(Z4:EH P w K mg base 10 "rooms_seen" 2 fY)(Z5:OV P w K mg base 3 "_law_faces" 1 W5)(bu:mg "sorted"=none)(gm:mg "list"=none)(lu:mg "sum"=none)(F0:Fun K "law" "law" cT f fd):FnOk P w K mg base sG 12 f fd ["script"] (vq K 1 oN):=by
 refine' fnD (k:=11) (F:=_) F0 MA (λT A t s H E e=>?b) λds d hl h=>?_
 case b=>
  have q:=e.units;have Q:=e.ad7;have u:=e.ad9 (by decide);have g:=MA.nd;refine' (c5 (i7 1 (DX kP e<|J7 ["spot"] ["script"] [0] rfl (G6 (sc:=c6 cT) (N:=GU)) (t4<|DX dI e<|c7 0) (LW λ_ _ _ _ _=>(P7 cE e (c7 0)<|c7 1))<|λ_=>t6) g)
   (c5 (NP 2 Z5 (e.mono (by decide)) (i6 (c7 1) o7) (x4 S6) g)
   (c5 (jE 3 ["plane"] ["faces"] [2] g rfl (G6 (sc:=c6 cT) (N:=GU)) (t4<|PF.pd<|DW 2 rfl u) (LW λ_ _ _ _ _=>(BX (P7 T9 e (c7 0)<|SV 1 0 (c7 0) Q)<|f9 (PD.pb<|SV 1 0 (c7 0) Q) c8))<|λ_=>t6)
   (c5 (i7 4 (KD UU<|A8 (b8 1) L0) g)
   (c5 (G9 aAW rfl (t4<|kI (PD.pb<|b9 l7 (PD.pb<|kI (b8 0) (J0 c8)<|J0 c8)<|PD.pb<|iK<|i6 c8 o7) X4<|J0 c8) (n4 5 g) (c5 (i7 6 (P7 fA e (c7 1)<|c7 5) g)
   (c5 (jE 7 ["area", "spot"] ["V"] [6] g rfl (G6 (sc:=c6 cT) (N:=GU)) (t4<|c7 3) (by rintro U fp X2 ⟨s0,H1,C,rfl⟩;exact⟨(kE (n:=2) rfl (B5 (n4 0 (show(["area", "spot", "V"]:List Str).Nodup by decide+kernel)) (B5 (n4 1 (show(["area", "spot", "V"]:List Str).Nodup by decide+kernel)) dF))),wN,(b9 p5 o5<|PD.pb<|P7 w4 e (c7 0)<|P7 z6 e (c7 1)<|c7 2)⟩)<|λ_=>AV)
   (c5 (cM 8 (aq Z4 (e.mono (by decide)) (i6 (c7 4)<|i6 (c7 6) o7)<|x4<|x4 S6) g)
   (c5 (v5 (VC 8<|uJ.pt<|iT (oJ<|fO<|P7 Z1 e (c7 8)<|c7 7)<|fH<|j3 (cS q) (b8 4)<|b8 1) (d6<|j0 BE) m6)
   (c5 (JB 8)
   (c5 (v5 (j3 (cS q) (PD.pb<|P7 fm e (c7 4)<|c7 6)<|b8 7) (d6<|j0 BE) m6)
   (c5 (i7 9 (DX X0 e<|c7 4) g)
   (d6<|v5 (uJ.pt<|iT (oJ<|fO<|P7 Z1 e (iK<|i6 (c7 9) o7)<|iK<|i6 (CB (FU rfl)<|b8 7) o7)<|iT (j3 yU (b8 9) o5)<|fH<|j3 (cS q) (b8 4)<|b8 1) (d6<|j0 BE) m6)))))))))
   (d6<|j0<|DG (M4 q) (b8 4)<|b8 1))))))
 replace h:=eJ h;obtain⟨Y,ds,rfl,h⟩:=h;replace h:=y6 h;obtain⟨rfl,h⟩:=h;replace h:=gQ h;obtain⟨⟨hl,m⟩,rfl⟩:=h;have NR:vM [.lst Y]=.ok (.lst ((Y5 (cI Y 0)<|fB Y).map vd)):=jk m;obtain⟨z1,z2⟩:=GL (cI Y 0) (lT m).2.1;obtain⟨k1,k2,k3⟩:=MS (cI Y 0) (cI Y 1) (cI Y 2) (lT m).2.1;have k4:(f6<|(Y5 (cI Y 0)<|fB Y).map (gD (cI Y 1)<|cI Y 2)).length<=14:=aAs (CF _) (by lia);have BO:=VS k1 k2 k4;have B:=xq k1 k2 k4;have MV:∀P,Sz 100 P->oU [vd P,.lst Y]=.ok (vd<|gD (cI Y 1) (cI Y 2) P):=λP y=>jk ⟨m,y⟩;obtain⟨c,cb,c9⟩:=a0k m;have sl:ET (.lst Y) (some 9) (some 10)=.ok (.lst ((Y.drop 9).take 1)):=TM Y 9 10 (by decide);generalize Y5 (cI Y 0) (fB Y)=J at*
 generalize D7 (J.map<|gD (cI Y 1)<|cI Y 2)=L at*
 have LF:=IR B.sz.1 B.sol B.ord B.len;have r:=λ{f:G.V×Int} (i:f∈j1 L)=>a2t B i;have FC:∀f∈j1 L,f∈rO L:=λf i=>B.perm.mem_iff.mpr i;have few:=B.few;have nL:=xD (wU L);have eL:SG (.lst (L.map vd)) (.lst (L.map vd))=.ok (.bl true):=by unfold SG;rw[jk ⟨wU L,wU L⟩,P1]
 have j:L≠[]:=λz=>by obtain⟨A,hA,_⟩:=B.sol;rw[z]at hA;cases hA
 have SO:=KR (l:=L) (c:=c) ⟨j,by have:=B.len;lia,B.sz.1,f7 cb⟩;have I:=NE (l:=L) (c:=c) ⟨j,by have:=B.len;lia,B.sz.1,f7 cb⟩;have RO:=zN B.lok I;have SI:=mz B.lok j;have RS:=pG B.lok (L.getD 0 0) (kK L c);have RP:=LL B.lok (L.getD 0 0);have rl:t7 L (kK L c)=(j1 L).map λf=>P6 (G.i4 L f) (kK L c):=by unfold t7;rw[B.self]
 rw[RS]at SI RP;generalize kK L c=V at*
 have ll:(t7 L V).length<=1000:=by rw[rl,aAi];lia
 have T1:=BW ll;have sm:=EG (t7 L V);have g:=xD (zJ<|t7 L V);simp only[j6,aAn,aBH,aAD,aBq,aAr,aAR,aCj,aCk,aBZ,aBl];refine j7 (ρ:=[.v (.lst Y),.v (.lst (L.map vd)),.no,.no,.no,.no,.no,.no,.no,.no]) ?_ ?_
 .simp-implicitDefEqProofs only[o6,u7,C4,R.aa0,NR,K8];rw[fU vd vd (gD (cI Y 1)<|cI Y 2) J (by lia) λP y=>⟨[.v (vd P),.v (.lst Y)],rfl,P3 (gH rfl rfl) (MV P<|z1 P y)⟩];exact P3 BO rfl
 refine j7 (ρ:=[.v (.lst Y),.v (.lst (L.map vd)),.d (Y2 L<|rO L),.no,.no,.no,.no,.no,.no,.no]) (P3 (x:=[.lst (L.map vd)]) rfl (by rw[LF];rfl)) ?_;refine j7 (ρ:=[.v (.lst Y),.v (.lst (L.map vd)),.d (Y2 L<|rO L),.v (.lst ((j1 L).map λf=>.tup [vd (CD f.1 (G.o8 f.1 f.2 L)),vd ((G.o8 f.1 f.2 L).getD 0 0)])),.no,.no,.no,.no,.no,.no]) ?_ ?_
 .rw[B.sorted rfl];simp-implicitDefEqProofs only[R.aa0,K8];rw[fU gK id (λf=>.tup [vd (CD f.1 (G.o8 f.1 f.2 L)),vd ((G.o8 f.1 f.2 L).getD 0 0)]) (j1 L) (by lia) λf i=>⟨[.v (gK f),.d (Y2 L<|rO L)],rfl,?_⟩]
  .rw[List.map_id];rfl
  .have d1:=a1p (a:=.v (gK f)) (L:=L) (FC f i);exact P3 (gH (P3 (gH rfl d1) (r i).1)<|P3 d1 (r i).2.1) rfl
 have CP:=λ{ρ:Ev} {Gt:D->Ev->R Ev} {fe:Ev->R D} {K:List D->R D} (h:∀f∈j1 L,∃p,Gt (.tup [vd (CD f.1 (G.o8 f.1 f.2 L)),vd ((G.o8 f.1 f.2 L).getD 0 0)]) ρ=R.ok p/\fe p=.ok (.int (P6 (G.i4 L f) V)))=>fU (ρ:=ρ) (Gt:=Gt) (fe:=fe) (K:=K) (λf:G.V×Int=>D.tup [vd (CD f.1 (G.o8 f.1 f.2 L)),vd ((G.o8 f.1 f.2 L).getD 0 0)]) D.int (λf=>P6 (G.i4 L f) V) (j1 L) (by lia) h;rw[<-rl]at CP;have tA:=K8 ((j1 L).map λf=>D.tup [vd (CD f.1 (G.o8 f.1 f.2 L)),vd ((G.o8 f.1 f.2 L).getD 0 0)]);generalize D.lst ((j1 L).map λf=>D.tup [vd (CD f.1 (G.o8 f.1 f.2 L)),vd ((G.o8 f.1 f.2 L).getD 0 0)])=ad at*
 refine j7 (ρ:=[.v (.lst Y),.v (.lst (L.map vd)),.d (Y2 L<|rO L),.v ad,.v (.lst (L.map vd)),.no,.no,.no,.no,.no]) rfl ?_;refine AU (x:=[.int c]) ?_ ?_
 .have l5:CN [.int 5]=.ok (.lst [.int 5]):=rfl;have t9:toI (.int 9)=.ok (some 9):=rfl;have O:toI (.int 10)=.ok (some 10):=rfl;have t1:toI (.int 1)=.ok (some 1):=rfl;simp-implicitDefEqProofs only[o6,u7,D3,D9,R.aa0,t9,O,t1,sl,l5];exact P3 c9 rfl
 refine j7 (ρ:=[.v (.lst Y),.v (.lst (L.map vd)),.d (Y2 L<|rO L),.v ad,.v (.lst (L.map vd)),.v (.int c),.v (vd V),.v (.lst ((t7 L V).map D.int)),.o [],.v (.int (t7 L V).sum)]) ((KA (ρ2:=[.v (.lst Y),.v (.lst (L.map vd)),.d (Y2 L<|rO L),.v ad,.v (.lst (L.map vd)),.v (.int c),.v (vd V),.v (.lst ((t7 L V).map D.int)),.o [],.v (.int (t7 L V).sum)]) ?_).trans rfl) ?_
 .refine pA (ρ:=[.v (.lst Y),.v (.lst (L.map vd)),.d (Y2 L<|rO L),.v ad,.v (.lst (L.map vd)),.v (.int c),.v (vd V),.no,.no,.no]) (P3 SO rfl) ?_;refine pA (ρ:=[.v (.lst Y),.v (.lst (L.map vd)),.d (Y2 L<|rO L),.v ad,.v (.lst (L.map vd)),.v (.int c),.v (vd V),.v (.lst ((t7 L V).map D.int)),.no,.no]) (P3 (P3 tA (CP λf i=>⟨[.v (vd<|CD f.1 (G.o8 f.1 f.2 L)),.v (vd<|(G.o8 f.1 f.2 L).getD 0 0),.v (vd V)],rfl,P3 rfl (P3 ((r i).2.2 V I).1 (by rw[Y4,((r i).2.2 V I).2]))⟩)) rfl) ?_;refine pA (ρ:=[.v (.lst Y),.v (.lst (L.map vd)),.d (Y2 L<|rO L),.v ad,.v (.lst (L.map vd)),.v (.int c),.v (vd V),.v (.lst ((t7 L V).map D.int)),.o ((t7 L V).map D.int),.no]) (P3 (x:=(t7 L V).map D.int) (P3 (gH rfl rfl) (by rw[RO];rfl)) rfl) ?_;refine pA (ρ:=[.v (.lst Y),.v (.lst (L.map vd)),.d (Y2 L<|rO L),.v ad,.v (.lst (L.map vd)),.v (.int c),.v (vd V),.v (.lst ((t7 L V).map D.int)),.o ((t7 L V).map D.int),.no]) (nD<|BH (wR<|P3 T1 rfl)<|P3 nL rfl) ?_;refine pA (ρ:=[.v (.lst Y),.v (.lst (L.map vd)),.d (Y2 L<|rO L),.v ad,.v (.lst (L.map vd)),.v (.int c),.v (vd V),.v (.lst ((t7 L V).map D.int)),.o [],.no]) rfl ?_;refine pA (ρ:=[.v (.lst Y),.v (.lst (L.map vd)),.d (Y2 L<|rO L),.v ad,.v (.lst (L.map vd)),.v (.int c),.v (vd V),.v (.lst ((t7 L V).map D.int)),.o [],.no]) (nD<|P3 (P3 RO g) rfl) ?_;refine pA (ρ:=[.v (.lst Y),.v (.lst (L.map vd)),.d (Y2 L<|rO L),.v ad,.v (.lst (L.map vd)),.v (.int c),.v (vd V),.v (.lst ((t7 L V).map D.int)),.o [],.v (.int (t7 L V).sum)]) (P3 SI rfl) ?_;exact nD (BH (wR (P3 (P3 (gH rfl<|P3 (QU sm) rfl) (BW (ns:=[(t7 L V).sum]) (by simp))) rfl)) (BH (P3 ((QI _ _).trans (by rw[decide_eq_false (show¬(t7 L V).sum<1 by lia)])) rfl)<|P3 nL rfl))
 exact kb R1 (P3 eL rfl)
end
end
end K41
section
namespace K41
open PySem L2 DL M
def truth (ns:List Int)(a:ns.length<=63)(b:∀x∈ns,aBd x<=1048576):oN [.lst (ns.map D.int)]=.ok (.bl true):=by unfold oN;exact jk ⟨by simpa using a,VW b⟩
section
variable [Tabs]
def all_mk {l:PySem.W.OpenLaw}{w:be}{K:kc}{h:bt}{mg:cV}{fa f36 Pt:a5}(X:K.In h)(G:h.Ns bb mg)(hfa:mg "law"=some (.ref fa))
  (g0:Got K "way_between" aN)
  (g1:Got K "cross_of" gZ)
  (g2:Got K "product_of" bJ)
  (g3:Got K "lift_of" mU)
  (g4:Got K "common_divisor" P9)
  (g5:Got K "plane_through" T5)
  (g6:Got K "side_of" lP)
  (g7:Got K "first_real_way" Q8)
  (g8:Got K "dimension_of" D1)
  (g9:Got K "refuse_flat" Z8)
  (g10:Got K "points_on" Y9)
  (g11:Got K "plane_about" aJ)
  (g12:Got K "first_pair" bR)
  (g13:Got K "turn_of" mH)
  (g14:Got K "left_chain" bK)
  (g15:Got K "ring_of" lV)
  (g16:Got K "pairs_round" aO)
  (g17:Got K "faces_from" cO)
  (g18:VU K "faces_of" M0 Pt)
  (g19:Got K "corners_in" bD)
  (g20:Got K "body_of" mC)
  (g21:Got K "room_seen" Z2)
  (g22:Got K "rooms_seen" U9)
  (g23:Got K "sixfold_room" W2)
  (g24:Got K "_law_cell_at" X8)
  (g25:Got K "_law_way" gS)
  (g26:Got K "_law_cross" cC)
  (g27:Got K "_law_product" W6)
  (g28:Got K "_law_great" bZ)
  (g29:Got K "_law_near" J1)
  (g30:Got K "_law_moved" bH)
  (g31:Got K "_law_spot" dD)
  (g32:Got K "_law_plane" bI)
  (g33:Got K "_law_faces" N1)
  (g34:Got K "_law_area_way" F4)
  (g35:Got K "_law_told" Y6)
  {od36 an36:Option a5} {sl36:Array (Option ao)} {oc36 kV36 dc36 pm36 cd36 ct36:ao}
  (a36:PySem.W.nsIn K bb "law"=some (some (.ref f36))) (l36:K.lookup f36=some ⟨oc36,od36,.func (PySem.W.fnOf "law" "law" (C8 cT) (t0 cT) (c6 cT) .none kV36 dc36 pm36 an36 cd36 ct36),sl36⟩) (e36:PySem.W.codeIn K cd36 "law"=true) (k36:PySem.W.keepIn K (.ref f36)=true)
  (z_abs:PySem.W.nsIn K bb "abs"=some none)
  (z_len:PySem.W.nsIn K bb "len"=some none)
  (z_any:PySem.W.nsIn K bb "any"=some none)
  (z_min:PySem.W.nsIn K bb "min"=some none)
  (z_list:PySem.W.nsIn K bb "list"=some none)
  (C:PySem.W.nsIn K bb "reversed"=some none)
  (z_zip:PySem.W.nsIn K bb "zip"=some none)
  (z_sorted:PySem.W.nsIn K bb "sorted"=some none)
  (z_set:PySem.W.nsIn K bb "set"=some none)
  (z_sum:PySem.W.nsIn K bb "sum"=some none)
  (z_range:PySem.W.nsIn K bb "range"=some none)
  (z_max:PySem.W.nsIn K bb "max"=some none)
  (m:PySem.W.nsIn K bb "isinstance"=some none)
  (z_bool:PySem.W.nsIn K bb "bool"=some none)
  (z_int:PySem.W.nsIn K bb "int"=some none)
  {ma:a5} {J:Option a5} {E H I:Tok} {L:Nat} {N:Array (Option ao)}
  (O:PySem.W.nsIn K bb "NO_WAY"=some (some (.ref ma))) (Q:K.lookup ma=some ⟨.type "tuple",J,.seq #[.int 0 E,.int 0 H,.int 0 I] L,N⟩)
  (nt:(Pt,tbK)∈Tabs.tbs)
  (truth:∀ns:List Int,ns.length<=63->(∀x∈ns,aBd x<=1048576)->oN [.lst (ns.map D.int)]=.ok (.bl true)):
  ∃fd:dq,(∀(s:aA) (v:ao),BindsTo s fd ⟨[v],[]⟩ [("script",v)])/\∀base:bt,K.In base->base.Ns bb mg->kG mg base->FnOk l.prog w K mg base sG 12 fa fd ["script"] (wW K):=by
 have e:=hfa.symm.trans (PySem.W.mg_of X G a36);cases e;have qr:=PySem.W.mg_none_of X G z_abs;have dn:=PySem.W.mg_none_of X G z_len;have b_any:=PySem.W.mg_none_of X G z_any;have qt:=PySem.W.mg_none_of X G z_min;have gm:=PySem.W.mg_none_of X G z_list;have kg:=PySem.W.mg_none_of X G C;have b_zip:=PySem.W.mg_none_of X G z_zip;have bu:=PySem.W.mg_none_of X G z_sorted;have qu:=PySem.W.mg_none_of X G z_set;have lu:=PySem.W.mg_none_of X G z_sum;have ib:=PySem.W.mg_none_of X G z_range;have b_max:=PySem.W.mg_none_of X G z_max;have jc:=PySem.W.mg_none_of X G m;have xh:=PySem.W.mg_none_of X G z_bool;have b_int:=PySem.W.mg_none_of X G z_int;have df:NJ K mg "NO_WAY" [0,0,0]:=tq (PySem.W.mg_of X G O) Q;refine⟨PySem.W.fnOf "law" "law" (C8 cT) (t0 cT) (c6 cT) .none kV36 dc36 pm36 an36 cd36 ct36,λs v=>.of_eq rfl,λbase _ _ hB=>?_⟩;have bg:w9 l.prog w K mg base 1 "way_between" 2 l4:=l8 (g0.def X G);have dg:w9 l.prog w K mg base 1 "cross_of" 2 u4:=A9 (g1.def X G);have bo:w9 l.prog w K mg base 1 "product_of" 2 j2:=v8 (g2.def X G);have T:=lX bo dg bg (g3.def X G);have a:w9 l.prog w K mg base 1 "common_divisor" 1 K3:=R3 qr (g4.def X G);have d:=T7 dg bg a bo (g5.def X G);have U:w9 l.prog w K mg base 1 "side_of" 2 aT:=mS (g6.def X G);have b:w9 l.prog w K mg base 1 "first_real_way" 1 A7:=J8 df (g7.def X G);have gu:=I0 bg b dg bo dn b_any (g8.def X G);have i:=aF gu (g9.def X G);have jh:=J5 U (g10.def X G);have ie:=L6 bg bo dg d df (g11.def X G);have n:=bQ jh ie gu qt (g12.def X G);have Y:=lD bo dg bg (g13.def X G);have o:=U3 Y dn (g14.def X G);have r_ring_of:=lJ o gm kg (g15.def X G);have j:w9 l.prog w K mg base 1 "pairs_round" 1 A6:=aE gm b_zip (g16.def X G);have p:=cD ie r_ring_of j dn bu (g17.def X G);have kh:=Y1 jh i n p bu qu hB nt (g18.def X G);have q:w9 l.prog w K mg base 8 "corners_in" 1 K9:=cR bu qu (g19.def X G);have r_body_of:=kP q kh (g20.def X G);have y:=eG T lu ib dn (g21.def X G);have ig:EH l.prog w K mg base 10 "rooms_seen" 2 fY:=Z4 kh y (g22.def X G);have jd:=ig.cal;have g:=X0 jd lu (g23.def X G);have gv:w9 l.prog w K mg base 1 "_law_cell_at" 2 G3:=D4 dn (g24.def X G);have ip:w9 l.prog w K mg base 1 "_law_way" 2 l4:=z6 (g25.def X G);have je:w9 l.prog w K mg base 1 "_law_cross" 2 u4:=J9 (g26.def X G);have bp:w9 l.prog w K mg base 1 "_law_product" 2 j2:=w4 (g27.def X G);have r:w9 l.prog w K mg base 1 "_law_great" 1 kH:=bT (g28.def X G);have z:=dI gv r ib (g29.def X G);have t:=cE gv (g30.def X G);have A:w9 l.prog w K mg base 1 "_law_spot" 2 jQ:=fA dn (g31.def X G);have u:=cQ bp qr (g32.def X G);have k:OV l.prog w K mg base 3 "_law_faces" 1 W5:=Z5 je ip bp u ib dn b_max (g33.def X G);have f:=T9 je ip bp qt (g34.def X G);have B:w9 l.prog w K mg base 1 "_law_told" 2 oI:=Z1 jc gm xh b_int (g35.def X G);exact VA (o_law r_body_of z t f A bp ip B jd g ig k bu gm lu<|RU (st:=cT) l36 e36 k36) truth
end
end K41
namespace PySem.W.Fast
def tw7782472033427365640:=0
def tw16484472125562749568:=0
def tw12535495323928778980:=0
def tw18254235862674893573:=0
def tw1679422945503393861:=0
def tw18432143908704721090:=0
def tw16786002347827827255:=0
def tw6482406776995669464:=0
def tw16041973992008624046:=0
def tw17276822565746368806:=0
def tw1550432960109720858:=0
def tw18409453736685672949:=0
def tw14461530374123736064:=0
def tw10342369852796212332:=0
def tw232449027287865825:=0
def tw13232767129881617754:=0
def tw7773424495737664375:=0
def tw300795147865371908:=0
def tw8138649505595965027:=0
def tw4742888965157215934:=0
def tw9144888849736573162:=0
def tw8032386744805309097:=0
def tw3075969387101824118:=0
def tw7171732965303254267:=0
def tw745220098851267525:=0
def tw8980689815091657745:=0
def tw13160382047786167934:=0
def tw2779763245230726462:=0
def tw12943494432037587180:=0
def tw8820639326693722105:=0
def tw14446635952746020265:=0
def tw11782280258665110798:=0
def tw10120604270759883855:=0
def tw16084776665575404508:=0
def tw10693744324129850869:=0
def tw6059698562313794416:=0
def tw16490350273351227983:=0
def tw17326912212535544523:=0
def tw2811060660613449909:=0
def tw8344141477498776010:=0
def tw6438888186942164990:=0
def tw10685908428806432291:=0
def tw7924290981271120711:=0
def tw8386663800981366356:=0
def tw12992593172940551143:=0
def tw3067243719001180404:=0
def tw11381763158163391224:=0
def tw1102942245097501292:=0
def tw9730209739578799535:=0
def tw3971693486524896345:=0
def tw9511056884642040550:=0
def tw12704731769896882924:=0
def tw3719403011892504383:=0
def tw7278773322356743708:=0
def tw4328416451297954909:=0
def tw2177571098199698522:=0
def tw8772854109445565897:=0
def tw975031285679330182:=0
def tw12993954110572296170:=0
def tw14879940595145045667:=0
def tw5593820463636421119:=0
def tw1441762671161148210:=0
def tw9156820591971210875:=0
def tw16168900871572663972:=0
def tw9752542366398167223:=0
def tw9603455243968204964:=0
def tw3158082844144631843:=0
def tw4227818520826470013:=0
def tw6807849694588627836:=0
def tw10025782624096874449:=0
def tw12415182147738933025:=0
def tw12508218515223873130:=0
def tw6824586166360902037:=0
def tw7984936670955810325:=0
def tw18010037737103191831:=0
def tw2514153237279689461:=0
def tw5947687926492369132:=0
def tw7121569614375584563:=0
def tw17723419081721315779:=0
def tw7744682886396841512:=0
def tw7391305051389120932:=0
def tw3493686159691020576:=0
def tw4830530429848696245:=0
def tw16561299564771252137:=0
def tw4313625367276312120:=0
def tw2785106699227795299:=0
def tw17853729196004564435:=0
def tw16805840069412727498:=0
def tw13571284769644809913:=0
def tw12473467677442612455:=0
def tw4931700175589109484:=0
def tw16593911918236107771:=0
def tw3423890360535857860:=0
def tw17893710984385325478:=0
def tw13888482201826058773:=0
def tw7335396476238553801:=0
def tw14150255032010842691:=0
def tw8752220679659016693:=0
def tw1604363893931961333:=0
def tw2603963924598460988:=0
def tw12430750964872393460:=0
def tw5194249343958122550:=0
def tw9276128758577906612:=0
def tw5755272318375843940:=0
def tw10616000418385435968:=0
def tw12310154499295065832:=0
def tw3694558656016669012:=0
def tw8351078787583615910:=0
def tw17225370461805215011:=0
def tw14284698451738354616:=0
def tw17527506561819270305:=0
def tw6018651023589109005:=0
def tw15964267638101620069:=0
def tw4770508661799143676:=0
def tw12809409601279142880:=0
def tw10654541121014921559:=0
def tw5505019022016947562:=0
def tw6294799447554354160:=0
def tw2276280641372565805:=0
def tw2934291419540493833:=0
def tw6960267301195062473:=0
def tw7114134042868335366:=0
def tw9428634117144294779:=0
def tw9576165584817394537:=0
def tw745810431220698455:=0
def tw16580608117194665464:=0
def tw4910521088043263815:=0
def tw2516721652115147586:=0
def tw13283021914056864351:=0
def tw14696065321612576869:=0
def tw7448079340115936067:=0
def tw8961339350611616416:=0
def tw10087667849657614036:=0
def tw10365370738010411275:=0
def tw10839605898590793469:=0
def tw3842226786415053855:=0
def tw7321213317582871120:=0
def tw8017906741436875836:=0
def tw9085608227782207132:=0
def tw12541997769964184331:=0
def tw11404603650534672138:=0
def tw7588603550602984698:=0
def tw14692527746470519190:=0
def tw9858560156220950557:=0
def tw10282323970059121732:=0
def tw1391163033328098473:=0
def tw8326896419071183129:=0
def tw106134363058453677:=0
def tw12598174934962143408:=0
def tw13045600624976103455:=0
def tw149052098402600718:=0
def tw1537188175431422985:=0
def tw16098663932922556611:=0
def tw17206823468384977577:=0
def tw671768503357285455:=0
end PySem.W.Fast
open PySem PySem.W PyProof.Rows
set_option maxRecDepth 100000 in
theorem PySem.Challenge.cw_stakebodies_k41_rooms_by_faces_holds : PySem.Challenge.rw_stakebodies_k41_rooms_by_faces.Holds := by
 w_on;o_law;k_head;(case hw=>w_witness2)
 k_fill
 letI tabs9:DL.Tabs:=⟨[(176,K41.tbK)]⟩
 refine DL.XT (l:=PySem.Challenge.rw_stakebodies_k41_rooms_by_faces) (k:=12) rfl rfl ⟨rfl,by decide,by decide⟩ (λw h Y=>⟨PySem.W.km_in_of Y,PySem.W.km_tabs_of Y⟩) (DL.WO (c:=180) (by k_mem) (λw=>by kernel_rfl)) (aAI.mpr ⟨aAP,aDl⟩) (λw=>by kernel_rfl) ?F
 case F=>
  intro w mg fa h KX G hmg;refine' K41.all_mk KX G hmg ?_ ?_ ?_ ?_ ?_ ?_ ?_ ?_ ?_ ?_ ?_ ?_ ?_ ?_ ?_ ?_ ?_ ?_ ?_ ?_ ?_ ?_ ?_ ?_ ?_ ?_ ?_ ?_ ?_ ?_ ?_ ?_ ?_ ?_ ?_ ?_ ?a36 ?l36 ?e36 ?k36 ?z_abs ?z_len ?z_any ?z_min ?z_list ?z_reversed ?z_zip ?z_sorted ?z_set ?z_sum ?z_range ?z_max ?z_isinstance ?z_bool ?z_int ?ca_NO_WAY ?cl_NO_WAY (aAX.mpr rfl) K41.truth
  all_goals first|(refine' DL.ZV ?a ?l ?c ?k;(case a=>k_is);(case l=>k_is);(case c=>k_is);(case k=>k_is))|(refine' DL.WQ ?a ?l ?c ?k rfl ?n;(case a=>k_is);(case l=>k_is);(case c=>k_is);(case k=>k_is);(case n=>kernel_rfl))|k_is|skip
end
