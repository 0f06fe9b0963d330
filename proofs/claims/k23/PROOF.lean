import PyProof.Rows.All
import Wide.All
import OpenK.AllK
import Wide.FinOn
import Lean
import PyProof.EqAt
import PyProof.EqKinds
import PyProof.TupleCall
import PyProof.NeKinds
import KE.RegKIsAll
import PyProof.ExcClass3
import PySem.SetTable
import PySem.Value
import PyProof.Rows.SortShellK
import OpenK.KOwn
import KE.KNestM
import PyProof.Rows.StrWeight2
import PyProof.CollectIter
import PyProof.SetKind
import PyProof.Walks
import PyProof.ForAny
import PyProof.FactsAll.set_1
import PyProof.FactsAll.set_2
import PyProof.ZipIter
import KE.KRevIter
import PyProof.ListNew
import PyProof.ConsumeS
import KE.KIsAll
import PyProof.DictWalks
import KE.KDictList
import PyProof.WalksMore
import PySem.Challenge.RW_stakebodies_k23_whole_rings_edges_faces
set_option Elab.async false
set_option linter.all false
set_option backward.eqns.nonrecursive false
set_option maxRecDepth 100000
set_option maxHeartbeats 4000000
theorem kn{c:Prop}{h:Decidable c}(k:c){α:Sort _}{t e:α}:ite c t e=t:=if_pos k
theorem ku{c:Prop}{h:Decidable c}(k:¬c){α:Sort _}{t e:α}:ite c t e=e:=if_neg k
theorem la{α:Sort _}{β:Sort _}{a b:α}(f:α->β)(h:a=b):f a=f b:=congrArg f h
abbrev lb:=PySem.W.Frag
abbrev ll:PySem.Str:="__debug__"
abbrev lp:PySem.Str:="__classdict__"
open PySem renaming Value → ae, wpAny → a9, starEach → bb, Shared → be, Addr → cp, model → cq, Program → cu, mainGlobals → cv, Around → cy, World → cz, Heap → de, cLine → df, Expr → dm, backTo → dn, bootBuiltins → dq, argBest → dA, Stmt → dC, eval → d3, compareOp → d9, rawInt → eh, FuncData → ek, assignEach → et, cellsFrom → eQ, binaryOp → eR, NameKind → eY, swapsWith → ff, foldedSetIterable → fg, attributeBase → fh, pyNext → fo, SetTable → gk, codeAmong → gm, DictEntry → gn, holding → gv, codeAny → gy, updateSeq → gW, IsPair → hE, swapsWithSole → hH, swappedStores → hV, sysModules → h9, assign → i5, richCompare → i6, sliceBounds → jc, behindInMarks → jd, Keyword → ka, Scope → kb, pickOrder → kc, atKey → kd, wpAny_bind → aAa, wpAny_pure → aAb, wpAny_holding → aAL, wpAny_Call_Name_kw → aAW, wpAny_newObj_type → aBb, wpAny_call_entry → aBe, codeAny_builtin → aBs, wpAny_seqItems → aBu, plainId_quiet → aBz, wpAny_specialOf → aBB, wpAny_updateSeq → aBD, wpAny_truthy_bool → aBO, wpAny_callSpecial?_slot → aBP, wpAny_setField_rec → aCd, wpAny_forIn_list → aCh, wpAny_setState_of → aCm, builtinLookup_eq_fast → aCs, wpAny_mono → aCt, wpAny_letGo → aCI, wpAny_field → aCU, wpAny_tryCatch → aCV, wpAny_passesOwn → aCX, wpAny_isInstance → aDj, wpAny_typeNameOfWhole_keyiter → aDk, wpAny_nextOf_list_item → aDq, wpAny_callSpecialIfBoundUnlessNone?_slot → aDx, wpAny_loadPart' → aDD, typeLookup_type → aDF, wpAny_rule → aDG, wpAny_pyIter_list → aDH, codeAny_mono → aDS, wpAny_typeOf → aDT, wpAny_attempt → aDY, wpAny_pyIter_slot → aEh, wpAny_execs_cons → aEs, wpAny_standAt → aEy, wpAny_execs_nil → aED, pushCells_keeps → aEF, wpAny_setEntries_of → aEI, slot_dict_contains → aFf, isSubtype_type → aFk, wpAny_Assign_Name → aFr, wpAny_dictEntries → aFw, sizeLine_eq → aFB, wpAny_of_eq → aFD, noFill_tuple_add → aFG, beq_builtin_none → aFI, wpAny_askSetting → aFJ, concat_meets → aFY, wpAny_newTuple → aGm, wpAny_fieldsOf → aGq, wpAny_setField → aGr, isSubtype_stop → aGs
open PySem.Heap renaming get?_push_of_some → aAc, lt_size → aAf, get?_push_size → aAn, get?_update_other → aAx, get?_update_self → aAV, size_push → aBt, get?_none_of_le → aEx
open List renaming mem_cons → aAd, mem_cons_of_mem → aAe, length_map → aAi, getElem?_eq_getElem → aAj, mem_map → aAk, size_toArray → aAm, getD_eq_getElem?_getD → aAo, mem_of_getElem? → aAr, length_cons → aAt, map_cons → aAv, getElem?_eq_some_iff → aAy, pairwise_cons → aAA, getElem?_append_right → aAB, length_append → aAC, getElem?_map → aAF, nodup_cons → aAG, mem_append_right → aAH, not_mem_nil → aAJ, mem_singleton → aAN, reverse_cons → aAP, mem_filter → aAQ, mem_append → aAT, mem_cons_self → aAU, getElem?_append_left → aAZ, mem_flatMap → aBd, lookup_cons → aBj, filter_sublist → aBl, getLast?_cons_cons → aBn, mem_map_of_mem → aBo, dropLast_concat → aBp, mem_append_left → aBq, cons_append → aBr, range → aBv, getElem_of_mem → aBw, getElem?_replicate → aBy, all_eq_true → aBC, getElem?_zip_eq_some → aBF, getElem?_set_self → aBI, zip_cons_cons → aBJ, map_map → aBK, length_nil → aBL, lookup_cons_self → aBM, pairwise_map → aBN, append_nil → aBR, getElem?_eq_none_iff → aBS, length_take → aBU, getElem?_toArray → aBY, sum_cons → aCa, mem_filterMap → aCb, map_append → aCf, forall_mem_cons → aCg, nodup_iff_pairwise_ne → aCi, nodup_append → aCl, pairwise_iff_getElem → aCo, length_replicate → aCr, mem_reverse → aCw, getElem_mem → aCx, getElem?_set_ne → aCy, getElem?_cons_zero → aCz, getElem?_cons_succ → aCA, mem_range → aCC, filterMap_cons → aCG, length_reverse → aCJ, perm_ext_iff_of_nodup → aCM, set → aCP, set_cons_succ → aCQ, set_cons_zero → aCR, replicate → aCS, mem_of_getLast? → aCW, forIn_cons → aDa, any_eq_true → aDg, getElem_map → aDi, nodup_nil → aDl, length_pos_of_mem → aDn, take_of_length_le → aDp, filterMap_map → aDs, map → aDv, mem_iff_getElem? → aDA, append_assoc → aDI, mem_of_mem_drop → aDK, drop_eq_getElem_cons → aDN, length_drop → aDQ, pairwise_singleton → aDV, of_mem_zip → aDW, filter_eq_nil_iff → aEb, flatMap_cons → aEd, ext_getElem? → aEf, forIn_nil → aEi, pairwise_reverse → aEj, length_filter_le → aEk, dropLast_eq_take → aEq, getElem?_eq_none → aEr, zipIdx_cons → aEu, mem_of_mem_take → aEw, dropLast_concat_getLast → aEz, getElem?_range → aEE, zipIdx_nil → aEG, nil_append → aEH, length_pos_iff → aEL, exists_cons_of_ne_nil → aEO, head?_reverse → aEU, getLast?_cons → aEV, find?_eq_none → aEY, zip_nil_right → aFd, exists_mem_of_ne_nil → aFh, mem_of_find?_eq_some → aFi, length_erase_of_mem → aFn, take_sublist → aFp, zip_nil_left → aFv, sublist_append_left → aFx, filter_cons_of_pos → aFz, filter_cons_of_neg → aFA, eraseIdx_cons_succ → aFC, map_reverse → aFH, range_succ_eq_map → aFN, getElem_cons_succ → aFO, drop_eq_nil_of_le → aFQ, length_singleton → aFR, take_append_drop → aFS, foldl_cons → aFT, length_set → aFZ, map_nil → aGa, mem_erase_of_ne → aGe, length_dropLast → aGi, drop_zero → aGo, length → aGt, all_cons → aGA
open Nat renaming le_refl → aAg, ne_of_lt → aAl, le_trans → aAp, lt_of_lt_of_le → aAw, zero_le → aAX, lt_irrefl → aBg, lt_succ_of_lt → aBi, le_of_succ_le → aCF, ne_of_gt → aDc, lt_succ_self → aDh, lt_or_eq_of_le → aDt, lt_of_le_of_lt → aDu, le_of_lt → aDB, mod_lt → aEe, zero_add → aEm, le_of_eq → aEp, le_of_not_lt → aEt, le_antisymm → aEB, mul_le_mul → aFl, le_of_lt_succ → aFq, gcd_dvd_left → aFF, le_add_right → aFK, not_lt_zero → aFV, min_eq_left → aFW, succ_mul → aGL, lt_trans → aGO, add_zero → aGP, succ_pos → aGQ
open False renaming elim → aAh
open Bool renaming false_eq_true → aAq, and_eq_true → aAK, false_ne_true → aBc, not_true → aDd, eq_iff_iff → aDE, and_false → aGn
open Int renaming mul_nonpos_of_nonneg_of_nonpos → aAs, mul_eq_zero → aAu, mul_neg_of_pos_of_neg → aAz, mul_le_mul_of_nonneg_left → aAI, le_of_lt → aAO, mul_le_mul_of_nonneg_right → aAR, mul_nonneg → aBh, mul_pos → aBk, mul_pos_of_neg_of_neg → aBE, toNat_natCast → aBH, mul_zero → aBX, le_refl → aBZ, lt_or_gt_of_ne → aDr, neg_mul_neg → aDy, lt_or_le → aDz, eq_of_mul_eq_mul_left → aDL, mul_nonneg_of_nonpos_of_nonpos → aDU, mul_ediv_cancel' → aEv, toNat → aEJ, mul_lt_mul_of_pos_left → aEP, le_of_mul_le_mul_right → aEQ, fmod_eq_emod_of_nonneg → aET, natAbs_eq_zero → aEW, ofNat_dvd_left → aEX, le_of_mul_le_mul_left → aFg, neg_nonneg_of_nonpos → aFm, mul_assoc → aFy, gcd → aGI, mul_comm → aGK, zero_mul → aGM, add_zero → aGN
open Array renaming getElem?_eq_getElem → aAD, getElem?_toList → aAE, length_toList → aAM, getElem?_eq_some_iff → aCj, getElem?_eq_none → aCk, forIn_toList → aCv, replicate → aEC, perm_iff_toList_perm → aER, getD → aFo, toList → aFX, getElem_toList → aGl, toList_append → aGx
open PySem.Builtin.Tuple renaming tupleHashOf → aAS, tupleExact → aCY, tupleItemsOf → aDJ, tupleCompareSizes → aEg
open PySem.Around renaming under_plainId → aAY, frames_deeper → aGf
open PySem.PassesOwn renaming never → aBa
open PySem.Builtin.Int renaming intBits → aBf
open PyProof.Rows renaming callWith_type1 → aBm, wpS_bind → aBx, callWith_builtin1 → aBQ, wpS_pure → aCp, slot_tuple_getitem → aCE, wpS_forRange → aEn, listItems_at → aEo, envOfC → aEN, pairsOf_size → aEZ, assignInOrder_cons → aFa, KK_mirror_equal → aFU, mirror_perm → aGu, wpS_reverse → aGv
open Or renaming inr → aBA, inl → aCn
open PySem.Obj renaming mapSeq → aBG, putSet → aEA
open PySem.Builtin.SmallTypes renaming nextOf → aBT, ownedTupleIsFree → aBW, ownedTupleHandOut → aDP
open Ne renaming symm → aBV
open PySem.NameKind renaming cell → aCc
open PySem.Builtin.List renaming listExtendWith → aCe, listLengthHint → aCH, listItems → aCL, listTooLong → aCZ, listSameRef → aDb, listTouch → aFP
open ForInStep renaming yield → aCq
open PySem.Value renaming type → aCu, bool → aDm, ref → aDC, notImplemented → aGg, builtin → aGB, int → aGU
open PySem.Builtin.Range renaming rangeSize → aCB, small → aGw
open PySem.Str renaming ofString → aCD
open PySem.Builtin.Builtins renaming bindParams → aCK
open PySem.F renaming plain_min_loop → aCN, plain_max_loop → aCO, plain_extend_loop → aDf, slot_dict_keyiterator_next → aDw, slot_zip_next → aEa, entry_min_loop → aFL, entry_max_loop → aFM
open PySem.Builtin.Slice renaming slicePlaces → aCT, sliceAdjust → aDM, sliceApplied → aES
open Classical renaming propDecidable → aDe
open Option renaming map_eq_some_iff → aDo, isSome_iff_exists → aFt
open PySem.SetTable renaming below → aDO, bits → aDX, fits → aGC, insertAt → aGJ, tooFull → aGS
open PySem.Moved renaming trans → aDR
open PySem.SeqAt.EqAt renaming same → aDZ, int_int → aFc, of_refs → aFe, int_tuple → aGj, tuple_int → aGk, int_str → aGy, str_int → aGz
open PySem.Calls renaming callWith_builtin → aEc, spliced_cons → aFb, call_function_entry → aFj, spliced_nil → aFs, evalArgs_plain → aGh
open PySem.Heap.SameBut renaming update → aEK, refl → aGH
open List.cons renaming injEq → aEM
open PySem.AutoSeq1 renaming sub_tuple_tuple → aFu
open PySem.Builtin.Frozenset renaming slot0 → aFE
open PySem.Builtin.Dict renaming showsAll → aGb
open Prod renaming ext → aGc
open List.Pairwise renaming filter → aGd, nil → aGD
open List.Perm renaming refl → aGp
open Sum renaming inl → aGE, inr → aGF
open Option.some renaming injEq → aGG
open PySem.pickOrder renaming go → aGR
open Array.Perm renaming refl → aGT
abbrev A3:=PySem.Value->PySem.Shared->Prop
abbrev N3:=List (PySem.Addr×PySem.Obj)
abbrev cE:=PySem.Str->Option PySem.Value
abbrev wJ:=Bool->PySem.Shared->Prop
noncomputable section
namespace G
structure V where
 x:Int
 y:Int
 z:Int
deriving DecidableEq
instance:Add V:=⟨λu v=>⟨u.x+v.x,u.y+v.y,u.z+v.z⟩⟩
instance:Sub V:=⟨λu v=>⟨u.x-v.x,u.y-v.y,u.z-v.z⟩⟩
instance:Neg V:=⟨λu=>⟨-u.x,-u.y,-u.z⟩⟩
instance:HMul Int V V:=⟨λk u=>⟨k*u.x,k*u.y,k*u.z⟩⟩
instance:OfNat V 0:=⟨⟨0,0,0⟩⟩
@[simp]def NK (u v:V):(u+v).x=u.x+v.x:=rfl
@[simp]def LG (u v:V):(u+v).y=u.y+v.y:=rfl
@[simp]def ND (u v:V):(u+v).z=u.z+v.z:=rfl
@[simp]def EQ (u v:V):(u-v).x=u.x-v.x:=rfl
@[simp]def ER (u v:V):(u-v).y=u.y-v.y:=rfl
@[simp]def FE (u v:V):(u-v).z=u.z-v.z:=rfl
@[simp]def nq (u:V):(-u).x=-u.x:=rfl
@[simp]def sk (u:V):(-u).y=-u.y:=rfl
@[simp]def qw (u:V):(-u).z=-u.z:=rfl
@[simp]def nI (k:Int)(u:V):(k*u).x=k*u.x:=rfl
@[simp]def oI (k:Int)(u:V):(k*u).y=k*u.y:=rfl
@[simp]def qF (k:Int)(u:V):(k*u).z=k*u.z:=rfl
@[simp]def cG:(0:V).x=0:=rfl
@[simp]def cD:(0:V).y=0:=rfl
@[simp]def cC:(0:V).z=0:=rfl
def ext {u v:V}(a:u.x=v.x)(b:u.y=v.y)(d:u.z=v.z):u=v:=by cases u;cases v;simp_all
def pG {u v:V}:u=v↔u.x=v.x/\u.y=v.y/\u.z=v.z:=⟨λh=>by subst h;exact⟨rfl,rfl,rfl⟩,λ⟨a,b,c⟩=>ext a b c⟩
def b9 (u v:V):Int:=u.x*v.x+u.y*v.y+u.z*v.z
def cr (u v:V):V:=⟨u.y*v.z-u.z*v.y,u.z*v.x-u.x*v.z,u.x*v.y-u.y*v.x⟩
def f7 (a u v:V):Int:=b9 a (cr u v)
@[simp]def TQ (u v:V):(cr u v).x=u.y*v.z-u.z*v.y:=rfl
@[simp]def VM (u v:V):(cr u v).y=u.z*v.x-u.x*v.z:=rfl
@[simp]def UO (u v:V):(cr u v).z=u.x*v.y-u.y*v.x:=rfl
def BZ (a u v w:V):f7 a u v*w+f7 a v w*u+f7 a w u*v=f7 u v w*a:=by apply ext<;>simp[f7,b9]<;>grind
def QD (f a u v w:V):f7 a u v*b9 f w+f7 a v w*b9 f u+f7 a w u*b9 f v=f7 u v w*b9 f a:=by simp[f7,b9];grind
def j9 (a u v:V):f7 a v u=-f7 a u v:=by simp[f7,b9];grind
def C1 (a u:V):f7 a u u=0:=by simp[f7,b9];grind
def Z9 (a u v w:V):f7 a (u+v) w=f7 a u w+f7 a v w:=by simp[f7,b9];grind
def Z0 (a u v w:V):f7 a u (v+w)=f7 a u v+f7 a u w:=by simp[f7,b9];grind
def MY (a u v w:V):f7 a u (v-w)=f7 a u v-f7 a u w:=by simp[f7,b9];grind
def wQ (a:V)(k:Int)(u v:V):f7 a u (k*v)=k*f7 a u v:=by simp[f7,b9];grind
def cF (u v:V):b9 u v=b9 v u:=by simp[b9];grind
def v9 (f u v:V):b9 f (u+v)=b9 f u+b9 f v:=by simp[b9];grind
def d8 (f u v:V):b9 f (u-v)=b9 f u-b9 f v:=by simp[b9];grind
def i7 (f:V)(k:Int)(v:V):b9 f (k*v)=k*b9 f v:=by simp[b9];grind
def L6 (f:V)(k:Int)(v:V):b9 (k*f) v=k*b9 f v:=by simp[b9];grind
def C3 (f:V):b9 f 0=0:=by simp[b9]
def S5 (a u v:V):b9 (cr a u) v=f7 a u v:=by simp[f7,b9];grind
def v6 {u:V}(h:u≠0):0<b9 u u:=by
 have f:u.x≠0\/u.y≠0\/u.z≠0:=by
  by_cases a:u.x=0
  .by_cases b:u.y=0
   .by_cases c:u.z=0
    .exact absurd (ext a b c) h
    .exact .inr (.inr c)
   .exact .inr (.inl b)
  .exact .inl a
 have e:∀t:Int,0<=t*t:=λt=>by
  rcases Int.le_total 0 t with q|q
  .exact aBh q q
  .have:=aBh (aFm q) (aFm q);rwa [aDy]at this
 have d:∀t:Int,t≠0->0<t*t:=λt g=>by
  have:=e t;have:t*t≠0:=λz=>by rcases aAu.mp z with q|q<;>exact g q
  omega
 have a:=e u.x;have b:=e u.y;have c:=e u.z;unfold b9;rcases f with q|q|q
 .have:=d _ q;omega
 .have:=d _ q;omega
 .have:=d _ q;omega
def x8 (h:n≠0)(a:b9 n u=0)(b:b9 n v=0)(d:b9 n w=0):f7 u v w=0:=by
 have e:f7 u v w*b9 n n=0:=by have:=QD n n u v w;rw[a,b,d]at this;simp at this;omega
 rcases aAu.mp e with q|q
 .exact q
 .have:=v6 h;omega
def u7 (v:V):(0:Int)*v=0:=ext (by simp) (by simp) (by simp)
def oR (v:V):v+0=v:=ext (by simp) (by simp) (by simp)
def fH (v:V):0+v=v:=ext (by simp) (by simp) (by simp)
structure Cone (Pos:V->Prop):Prop where
 add:∀{u v},Pos u->Pos v->Pos (u+v)
 mul:∀{k:Int} {u},0<k->Pos u->Pos (k*u)
 irr:¬Pos 0
section
variable{Pos:V->Prop} (C:Cone Pos)
include C
theorem Cone.comb {p q:Int}{u w:V}(a:0<p)(e:0<=q)(b:Pos w)(d:Pos u):Pos (p*w+q*u):=by
 by_cases h:q=0
 .subst h;rw[u7,oR];exact C.mul a b
 .exact C.add (C.mul a b) (C.mul (by lia) d)
theorem Cone.sgn {k:Int}{v:V}(b:Pos v)(h:Pos (k*v)):0<k:=by
 by_cases d:0<k
 .exact d
 .exfalso;by_cases f:k=0
  .subst f;rw[u7]at h;exact C.irr h
  .have a:=C.add h (C.mul (k:=-k) (by lia) b);have e:k*v+-k*v=0:=ext (by simp;grind) (by simp;grind) (by simp;grind);rw[e]at a;exact C.irr a
theorem Cone.tr {a u v w:V}(b:Pos u)(d:Pos v)(f:Pos w)(g:f7 u v w=0)(i:0<f7 a u v)(j:0<=f7 a v w):0<f7 a u w:=by
 refine C.sgn d (k:=f7 a u w) ?_;have e:f7 a u w*v=f7 a u v*w+f7 a v w*u:=by have h:=BZ a u v w;rw[g,u7,j9 a u w]at h;have l:=la V.x h;have m:=la V.y h;have n:=la V.z h;simp at l m n;exact ext (by simp;grind) (by simp;grind) (by simp;grind)
 rw[e];exact C.comb i j f b
theorem Cone.tr' {a u v w:V}(b:Pos u)(d:Pos v)(f:Pos w)(g:f7 u v w=0)(i:0<=f7 a u v)(j:0<f7 a v w):0<f7 a u w:=by
 refine C.sgn d (k:=f7 a u w) ?_;have e:f7 a u w*v=f7 a v w*u+f7 a u v*w:=by have h:=BZ a u v w;rw[g,u7,j9 a u w]at h;have l:=la V.x h;have m:=la V.y h;have n:=la V.z h;simp at l m n;exact ext (by simp;grind) (by simp;grind) (by simp;grind)
 rw[e];exact C.comb j i b f
end
structure ConeM (a:V)(Pos:V->Prop):Prop extends Cone Pos where
 inv:∀{u} (k:Int),Pos u->Pos (u+k*a)
def ConeM.tr {a:V}{Pos:V->Prop}(C:ConeM a Pos){u v w:V}(b:Pos u)(d:Pos v)(f:Pos w)(g:0<f7 a u v)(i:0<=f7 a v w):0<f7 a u w:=by
 refine C.sgn d (k:=f7 a u w) ?_;have e:f7 a u w*v=(f7 a u v*w+f7 a v w*u)+(-f7 u v w)*a:=by have h:=BZ a u v w;rw[j9 a u w]at h;have j:=la V.x h;have l:=la V.y h;have m:=la V.z h;simp at j l m;exact ext (by simp;grind) (by simp;grind) (by simp;grind)
 rw[e];exact C.inv _ (C.comb g i f b)
def e9 (w:V):Prop:=0<w.x\/(w.x=0/\(0<w.y\/(w.y=0/\0<w.z)))
instance(w:V):Decidable (e9 w):=inferInstanceAs (Decidable<|_\/_)
def y7:Cone e9 where
 add:=λ{u v} e f=>by unfold e9 at*;simp;lia
 mul:=λ{k u} a h=>by
  unfold e9 at*
  simp;rcases h with h|⟨h,b|⟨b,d⟩⟩
  .exact .inl (aBk a h)
  .exact .inr ⟨by rw[h];simp,.inl (aBk a b)⟩
  .exact .inr ⟨by rw[h];simp,.inr ⟨by rw[b];simp,aBk a d⟩⟩
 irr:=by unfold e9;simp
def L7 (w:V):Prop:=e9 (-w)
def AS:-(0:V)=0:=rfl
def aD:Cone L7 where
 add:=λ{u v} a b=>by have e:-(u+v)=-u+-v:=ext (by simp;lia) (by simp;lia) (by simp;lia);unfold L7 at*;rw[e];exact y7.add a b
 mul:=λ{k u} d h=>by have e:-(k*u)=k*(-u):=ext (by simp;grind) (by simp;grind) (by simp;grind);unfold L7 at*;rw[e];exact y7.mul d h
 irr:=by unfold L7;rw[AS];exact y7.irr
def RP (w:V):e9 w\/w=0\/L7 w:=by
 unfold L7 e9;rw[pG];simp
 lia
def u0 (v:V):v-v=0:=ext (by simp) (by simp) (by simp)
def dZ (a u:V):f7 a u 0=0:=by simp[f7,b9]
def G9 (a u v:V):f7 a u (-v)=-f7 a u v:=by simp[f7,b9];grind
def Z7 (a u v:V):f7 a (-u) v=-f7 a u v:=by simp[f7,b9];grind
structure Row (n:V)(Pos:V->Prop)(T:V->Prop):Prop where
 cone:Cone Pos
 nz:n≠0
 pl:∀X Y,T X->T Y->b9 n (X-Y)=0
 tot:∀X Y,T X->T Y->X=Y\/Pos (X-Y)\/Pos (Y-X)
def Lft (n:V)(Pos:V->Prop)(a b X:V):Prop:=0<=f7 n (b-a) (X-a)/\(f7 n (b-a) (X-a)=0->(X=a\/Pos (X-a))/\(X=b\/Pos (b-X)))
def turn (n P Q R:V):Int:=f7 n (Q-P) (R-Q)
def V8 (n P:V):List V->List V
 |b::a::r=>if turn n a b P<=0 then V8 n P (a::r)else b::a::r
 |r=>r
def v7 (n:V)(ps:List V):List V:=ps.foldl (λc P=>P::V8 n P c) []
def D2:List V->List (V×V)
 |b::a::r=>(a,b)::D2 (a::r)
 |_=>[]
def rY (n:V):List V->Prop
 |b::a::d::r=>0<f7 n (a-d) (b-a)/\rY n (a::d::r)
 |_=>True
def rY.tail (h:rY n (b::r)):rY n r:=by
 match r,h with
 |[],_=>trivial
 |[_],_=>trivial
 |_::_::_,h=>exact h.2
def N5 (h:e∈D2 r):e∈D2 (b::r):=by
 match r,h with
 |a::r,h=>exact aAe _ h
section
variable{n:V} {Pos:V->Prop} {T:V->Prop} (F:Row n Pos T)
include F
structure ChOk (n:V)(Pos:V->Prop)(done:V->Prop)(c:List V):Prop where
 mem:∀X∈c,done X
 ed:∀e∈D2 c,Pos (e.2-e.1)/\∀X,done X->Lft n Pos e.1 e.2 X
 bend:rY n c
 last:∀X,done X->∀z,c.getLast?=some z->X=z\/Pos (X-z)
theorem Row.ac5 {done:V->Prop}(f:∀X,done X->T X)(m:Pos x)(o:b9 n x=0):∀(c:List V),(∀X∈c,done X)->(∀e∈D2 c,Pos (e.2-e.1))->rY n c->(∀b a r,c=b::a::r->0<f7 n (b-a) x)->∀e∈D2 c,0<f7 n (e.2-e.1) x
 |[],_,_,_,_,e,d=>by cases d
 |[_],_,_,_,_,e,d=>by cases d
 |[b,a],_,_,_,h,e,d=>by simp[D2]at d;subst d;exact h b a [] rfl
 |b::a::p::r,g,j,s,h,e,d=>by
  have i:=h b a _ rfl;rcases aAd.mp d with q|q
  .subst q;exact i
  .refine Row.ac5 f m o (a::p::r) (λX t=>g X (aAe _ t)) (λe d=>j e (N5 d)) s.tail ?_ e q;intro w y z k;injection k with k l;injection l with l A;subst k l;have u:=j (p,a) (N5 (by simp[D2]));have v:=j (a,b) (by simp[D2]);exact F.cone.tr u v m (x8 F.nz (F.pl _ _ (f _ (g _ (by simp))) (f _ (g _ (by simp)))) (F.pl _ _ (f _ (g _ (by simp))) (f _ (g _ (by simp)))) o) s.1 (aAO i)
theorem Row.weak (d:Pos u)(a:Pos v)(f:Pos w)(k:b9 n u=0)(l:b9 n v=0)(m:b9 n w=0)(o:0<=f7 n u v)(p:0<=f7 n v w):0<=f7 n u w:=by
 have b:=x8 F.nz k l m;by_cases q:0<f7 n u v
 .exact aAO (F.cone.tr d a f b q p)
 .by_cases r:0<f7 n v w
  .exact aAO (F.cone.tr' d a f b o r)
  .have s:f7 n u v=0:=by lia
   have t:f7 n v w=0:=by lia
   have h:=BZ n u v w;rw[s,t,b,u7,u7,u7,fH,fH]at h;by_cases z:f7 n w u=0
   .rw[j9];lia
   .exfalso;have e:v=0:=by have g:=la V.x h;have i:=la V.y h;have j:=la V.z h;simp at g i j;exact ext ((aAu.mp g).resolve_left z) ((aAu.mp i).resolve_left z) ((aAu.mp j).resolve_left z)
    rw[e]at a;exact F.cone.irr a
theorem Row.ad1 {done:V->Prop}(hd:∀X,done X->T X)(v:T P)(m:∀X,done X->Pos (P-X)):∀(c:List V),ChOk n Pos done c->c≠[]->
  (∀X q,c.head?=some q->done X->(X=q\/Pos (X-q))->0<=f7 n (P-q) (X-q))->
  ∃q r,V8 n P c=q::r/\ChOk n Pos done (q::r)/\(∀X,done X->(X=q\/Pos (X-q))->0<=f7 n (P-q) (X-q))/\∀a w,r=a::w->0<turn n a q P
 |[],_,h,_=>absurd rfl h
 |[b],ok,_,o=>⟨b,[],rfl,ok,λX d h=>o X b rfl d h,λa w e=>by cases e⟩
 |b::a::r,ok,_,o=>by
  by_cases A:turn n a b P<=0
  .have e:V8 n P (b::a::r)=V8 n P (a::r):=by rw[V8,kn A]
   rw[e];have i:=ok.mem b (by simp);have s:=ok.mem a (by simp);have O:=ok.ed (a,b) (by simp[D2]);refine Row.ad1 hd v m (a::r) ⟨λX d=>ok.mem X (aAe _ d),λe he=>ok.ed e (N5 he),ok.bend.tail,λX d z t=>ok.last X d z (by rw[aBn];exact t)⟩ (by simp) ?_;intro X q hq d B;have C:a=q:=Option.some.inj hq;subst C;have hu:Pos (b-a):=O.1;have hp:Pos (P-b):=m b i;have Q:Pos (P-a):=m a s;have U:b9 n (b-a)=0:=F.pl _ _ (hd _ i) (hd _ s);have pp:b9 n (P-b)=0:=F.pl _ _ v (hd _ i);have E:b9 n (P-a)=0:=F.pl _ _ v (hd _ s);unfold turn at A;have H:0<=f7 n (P-b) (b-a):=by rw[j9];lia
   rcases F.tot X b (hd X d) (hd b i)with z|z|z
   .
    subst z;have f:P-a=(P-X)+(X-a):=ext (by simp;lia) (by simp;lia) (by simp;lia);rw[f,Z9,C1];lia
   .
    have I:=o X b rfl d (.inr z);have px:b9 n (X-b)=0:=F.pl _ _ (hd _ d) (hd _ i);have j:Pos (P-X):=m X d;have J:f7 n (P-a) (X-a)*(P-b)=f7 n (P-b) (X-b)*(P-a)+f7 n (P-b) (b-a)*(P-X):=by
     have k:=BZ n (b-a) (X-b) (P-b);rw[x8 F.nz U px pp,u7]at k;have f:P-a=(b-a)+(P-b):=ext (by simp;lia) (by simp;lia) (by simp;lia);have e2:X-a=(b-a)+(X-b):=ext (by simp;lia) (by simp;lia) (by simp;lia);have e3:P-X=(P-b)-(X-b):=ext (by simp;lia) (by simp;lia) (by simp;lia);rw[f,e2,e3];generalize b-a=u at*
     generalize X-b=x at*
     generalize P-b=p at*
     rw[Z9,Z0,Z0,C1];have I:=la V.x k;have Y:=la V.y k;have t:=la V.z k;rw[j9 n p x]at k I Y t;simp at I Y t;have s1:=j9 n p x;have s2:=j9 n p u;have s3:=j9 n u x;apply ext<;>simp<;>grind
    by_cases zz:0<=f7 n (P-a) (X-a)
    .exact zz
    .exfalso;have L:Pos ((-f7 n (P-a) (X-a))*(P-b)):=F.cone.mul (by lia) hp;have N:Pos (-f7 n (P-a) (X-a)*(P-b)+(f7 n (P-b) (X-b)*(P-a)+f7 n (P-b) (b-a)*(P-X))):=by
      by_cases y1:f7 n (P-b) (X-b)=0
      .rw[y1,u7,fH];by_cases y2:f7 n (P-b) (b-a)=0
       .rw[y2,u7,oR];exact L
       .exact F.cone.add L (F.cone.mul (by lia) j)
      .exact F.cone.add L (F.cone.comb (by lia) H Q j)
     rw[<-J]at N;have e0:-f7 n (P-a) (X-a)*(P-b)+f7 n (P-a) (X-a)*(P-b)=0:=by apply ext<;>simp<;>grind
     rw[e0]at N;exact F.cone.irr N
   .
    rcases B with g|g
    .subst g;rw[u0,dZ];exact aBZ _
    .have hl:=(O.2 X d).1;have l:0<=f7 n (P-a) (b-a):=by have f:P-a=(P-b)+(b-a):=ext (by simp;lia) (by simp;lia) (by simp;lia);rw[f,Z9,C1];lia
     exact F.weak Q hu g E U (F.pl _ _ (hd _ d)<|hd _ s) l hl
  .have e:V8 n P (b::a::r)=b::a::r:=by rw[V8,ku A]
   refine⟨b,a::r,e,ok,λX d h=>o X b rfl d h,λa' w e'=>?_⟩;injection e' with f _;subst f
   lia
theorem Row.push {done:V->Prop}(hd:∀X,done X->T X)(C:T P)(s:∀X,done X->Pos (P-X))(ok:ChOk n Pos done c)(I:c≠[])(J:∀X q,c.head?=some q->done X->X=q\/Pos (q-X)):
  ChOk n Pos (λX=>done X\/X=P) (P::V8 n P c):=by
 obtain⟨q,r,e,f,u,j⟩:=F.ad1 hd C s c ok I (λX q u d h=>by
  rcases h with h|h
  .subst h;rw[u0,dZ];exact aBZ _
  .exfalso;rcases J X q u d with z|z
   .subst z;rw[u0]at h;exact F.cone.irr h
   .have:=F.cone.add h z;have v:X-q+(q-X)=0:=ext (by simp;lia) (by simp;lia) (by simp;lia);rw[v]at this;exact F.cone.irr this)
 rw[e];have l:=f.mem q (by simp);have i:Pos (P-q):=s q l;have m:b9 n (P-q)=0:=F.pl _ _ C (hd _ l);refine⟨λX d=>?_,λg w=>?_,?_,λX d z t=>?_⟩
 .rcases aAd.mp d with h|h
  .exact .inr h
  .exact .inl (f.mem X h)
 .rcases aAd.mp w with h|h
  .subst h;refine⟨i,λX d=>?_⟩;rcases d with d|d
   .rcases F.tot X q (hd _ d) (hd _ l)with z|z|z
    .subst z;exact⟨by rw[u0,dZ];exact aBZ _,λ_=>⟨.inl rfl,.inr i⟩⟩
    .exact⟨u X d (.inr z),λ_=>⟨.inr z,.inr (s X d)⟩⟩
    .
     have:0<f7 n (P-q) (X-q):=by
      match r,j,f with
      |[],_,f=>
       rcases f.last X d q rfl with y|y
       .subst y;rw[u0]at z;exact absurd z F.cone.irr
       .exfalso;have:=F.cone.add y z;have v:X-q+(q-X)=0:=ext (by simp;lia) (by simp;lia) (by simp;lia);rw[v]at this;exact F.cone.irr this
      |a::o,j,f=>
       have x:=j a o rfl;unfold turn at x;have L:=f.mem a (by simp);have E:=f.ed (a,q) (by simp[D2]);have H:=(E.2 X d).1;have p:X-a=(q-a)-(q-X):=ext (by simp;lia) (by simp;lia) (by simp;lia);dsimp only at H;rw[p,MY,C1]at H;have N:0<=f7 n (q-X) (q-a):=by rw[j9];lia
       have:=F.cone.tr' (a:=n) z E.1 i (x8 F.nz (F.pl _ _ (hd _ l)<|hd _ d) (F.pl _ _ (hd _ l)<|hd _ L) m) N x;have A:X-q=-(q-X):=ext (by simp;lia) (by simp;lia) (by simp;lia);rw[A,G9,j9];lia
     exact⟨aAO this,λz=>by dsimp only at z;lia⟩
   .subst d;exact⟨by rw[C1];exact aBZ _,λ_=>⟨.inr i,.inl rfl⟩⟩
  .
   have k:=f.ed g h;refine⟨k.1,λX d=>?_⟩;rcases d with d|d
   .exact k.2 X d
   .subst d;have x:=F.ac5 hd i m (q::r) f.mem (λe w=>(f.ed e w).1) f.bend (λb a o O=>by injection O with p A;subst p;exact j a o A) g h
    have Q:=(k.2 q l).1;have:0<f7 n (g.2-g.1) (X-g.1):=by have p:X-g.1=(q-g.1)+(X-q):=ext (by simp;lia) (by simp;lia) (by simp;lia);rw[p,Z0];lia
    exact⟨aAO this,λz=>by lia⟩
 .match r,j,f with
  |[],_,_=>trivial
  |a::o,j,f=>exact⟨j a o rfl,f.bend⟩
 .rcases d with d|d
  .exact f.last X d z (by rw[aBn]at t;exact t)
  .subst d;have B:(q::r).getLast?=some z:=by rw[aBn]at t;exact t
   exact .inr (s z<|f.mem z<|aCW B)
end
section
variable{n:V} {Pos:V->Prop} {T:V->Prop} (F:Row n Pos T)
include F
theorem ChOk.congr {done a:V->Prop}(ok:ChOk n Pos done c)(h:∀X,done X↔a X):ChOk n Pos a c:=
 ⟨λX b=>(h X).mp (ok.mem X b),λe d=>⟨(ok.ed e d).1,λX b=>(ok.ed e d).2 X ((h X).mpr b)⟩,ok.bend,λX b=>ok.last X ((h X).mpr b)⟩
theorem Row.fold:∀(rest:List V) (done:V->Prop) (c:List V),ChOk n Pos done c->c≠[]->(∀X q,c.head?=some q->done X->X=q\/Pos (q-X))->(∀X,done X->T X)->(∀X∈rest,T X)->
  (∀X Y,done X->Y∈rest->Pos (Y-X))->rest.Pairwise (λa b=>Pos (b-a))->
  ChOk n Pos (λX=>done X\/X∈rest) (rest.foldl (λc P=>P::V8 n P c) c)/\rest.foldl (λc P=>P::V8 n P c) c≠[]/\(∀X q,(rest.foldl (λc P=>P::V8 n P c) c).head?=some q->(done X\/X∈rest)->X=q\/Pos (q-X))
 |[],done,c,ok,h,i,j,k,g,m=>⟨ChOk.congr F ok λX=>by simp,h,λX q f d=>by
   rcases d with d|d
   .exact i X q f d
   .cases d⟩
 |P::rest,done,c,ok,h,i,j,k,g,m=>by
  have o:=k P (by simp);have s:=F.push j o (λX d=>g X P d (by simp)) ok h i;have p:=aAA.mp m;obtain⟨t,u,v⟩:=Row.fold rest (λX=>done X\/X=P) (P::V8 n P c) s (by simp) (λX q f d=>by
    have l:P=q:=Option.some.inj f;subst l;rcases d with d|d
    .exact .inr (g X P d (by simp))
    .exact .inl d) (λX d=>by
    rcases d with d|d
    .exact j X d
    .subst d;exact o) (λX d=>k X (aAe _ d)) (λX Y d r=>by
    rcases d with d|d
    .exact g X Y d (aAe _ r)
    .subst d;exact p.1 Y r) p.2
  have e:∀X,((done X\/X=P)\/X∈rest)↔(done X\/X∈P::rest):=λX=>by simp[or_assoc]
  exact⟨ChOk.congr F t e,u,λX q f d=>v X q f ((e X).mpr d)⟩
theorem Row.ac6 (k:ps≠[])(h:∀X∈ps,T X)(l:ps.Pairwise (λa b=>Pos (b-a))):
  ChOk n Pos (λX=>X∈ps) (v7 n ps)/\v7 n ps≠[]/\(∀X q,(v7 n ps).head?=some q->X∈ps->X=q\/Pos (q-X)):=by
 match ps,k with
 |p::rest,_=>
  have i:=aAA.mp l;have ok:ChOk n Pos (λX=>X=p) [p]:=⟨λX d=>by simpa using d,λe m=>by simp[D2]at m,trivial,λX d z j=>by simp at j;subst j;exact .inl d⟩
  obtain⟨o,r,s⟩:=F.fold rest (λX=>X=p) [p] ok (by simp) (λX q f d=>by have g:p=q:=Option.some.inj f;subst g;exact .inl d) (λX d=>by subst d;exact h _ (by simp)) (λX d=>h X (aAe _ d)) (λX Y d t=>by subst d;exact i.1 Y t) i.2
  have e:∀X,(X=p\/X∈rest)↔X∈p::rest:=λX=>by simp
  refine⟨ChOk.congr F o e,r,λX q f d=>s X q f ((e X).mpr d)⟩
end
def j8 (n:V)(a:List V):List V:=(v7 n a).reverse.dropLast++(v7 n a.reverse).reverse.dropLast
def t4:List V->List (V×V)
 |a::b::r=>(a,b)::t4 (b::r)
 |_=>[]
theorem kQ:∀(l:List V) (a b:V),t4 (l++[a]++[b])=t4 (l++[a])++[(a,b)]
 |[],a,b=>rfl
 |[x],a,b=>rfl
 |x::y::l,a,b=>by have:=kQ (y::l) a b;simp only[aBr,t4]at this⊢;rw[this]
theorem fJ:∀c:List V,t4 c.reverse=(D2 c).reverse
 |[]=>rfl
 |[_]=>rfl
 |b::a::r=>by
  have d:=fJ (a::r);rw[aAP,aAP]at*
  rw[kQ,d,D2,aAP]
theorem kG:∀(l:List V) (a:V) (m:List V),t4 (l++a::m)=t4 (l++[a])++t4 (a::m)
 |[],a,m=>by cases m<;>rfl
 |[x],a,m=>rfl
 |x::y::l,a,m=>by have:=kG (y::l) a m;simp only[aBr,t4]at this⊢;rw[this]
def J2 (l:List V):List (V×V):=l.zip (l.tail++l.take 1)
theorem oK:∀(l:List V) (z:V),l.zip (l.tail++[z])=t4 (l++[z])
 |[],z=>rfl
 |[a],z=>rfl
 |a::b::r,z=>by have:=oK (b::r) z;simp only[List.tail_cons,aBr,t4,aBJ]at this⊢;rw[this]
def V3:J2 (a::l)=t4 (a::l++[a]):=oK (a::l) a
def PM (i:v7 n a=M::c)(j:v7 n a.reverse=m::d)(g:(M::c).getLast?=some m)(k:(m::d).getLast?=some M)(l:c≠[]):
  J2 (j8 n a)=(D2 (v7 n a)).reverse++(D2 (v7 n a.reverse)).reverse:=by
 rw[<-fJ,<-fJ];unfold j8;rw[i,j,aAP,aAP,aBp,aBp];have b:∃e,c.reverse=m::e:=by
  have:c.getLast?=some m:=by
   match c,l with
   |x::c,_=>rw[aBn]at g;exact g
  rw[<-aEU]at this;match o:c.reverse,this with
  |x::r,this=>exact⟨r,by rw[show x=m from Option.some.inj this]⟩
 obtain⟨e,b⟩:=b;have f:∃h,d.reverse++[m]=M::h:=by
  have:(m::d).reverse.head?=some M:=by rw[aEU];exact k
  rw[aAP]at this;match o:d.reverse++[m],this with
  |x::r,this=>exact⟨r,by rw[show x=M from Option.some.inj this]⟩
 obtain⟨h,f⟩:=f;have p:c.reverse++d.reverse=m::(e++d.reverse):=by rw[b];rfl
 rw[p,V3];have q:m::(e++d.reverse)++[m]=c.reverse++(d.reverse++[m]):=by rw[b];simp
 rw[q,f,kG]
def q8 (a b:V):-(a-b)=b-a:=ext (by simp;lia) (by simp;lia) (by simp;lia)
def p6:L7 (a-b)↔e9 (b-a):=by unfold L7;rw[q8]
def G1 (h:e9 (a-a)):False:=by rw[u0]at h;exact y7.irr h
def o5 (h:e9 (a-b))(h':e9 (b-a)):False:=by have:=y7.add h h';have d:a-b+(b-a)=0:=ext (by simp;lia) (by simp;lia) (by simp;lia);rw[d]at this;exact y7.irr this
def C9 (a b:V):a=b\/e9 (a-b)\/e9 (b-a):=by
 rcases RP (a-b)with h|h|h
 .exact .inr (.inl h)
 .refine .inl (ext ?_ ?_ ?_)
  .have:=la V.x h;simp at this;lia
  .have:=la V.y h;simp at this;lia
  .have:=la V.z h;simp at this;lia
 .exact .inr (.inr (p6.mp h))
def Btw (P Q X:V):Prop:=(e9 (Q-P)->(X=P\/e9 (X-P))/\(X=Q\/e9 (Q-X)))/\(e9 (P-Q)->(X=P\/e9 (P-X))/\(X=Q\/e9 (X-Q)))
structure EdgeOf (n:V)(T:V->Prop)(P Q:V):Prop where
 p:T P
 q:T Q
 ne:P≠Q
 left:∀X,T X->0<=f7 n (Q-P) (X-P)
 btw:∀X,T X->f7 n (Q-P) (X-P)=0->Btw P Q X
section
variable{n:V} {T:V->Prop}
def EdgeOf.next (h:EdgeOf n T P Q)(h':EdgeOf n T P R):Q=R:=by
 have l:=h.left R h'.q;have i:=h'.left Q h.q;rw[j9]at i;have j:f7 n (Q-P) (R-P)=0:=by lia
 have k:f7 n (R-P) (Q-P)=0:=by rw[j9];lia
 have f:=h.btw R h'.q j;have g:=h'.btw Q h.q k;rcases C9 Q P with e|e|e
 .exact absurd e.symm h.ne
 .have b:=f.1 e;have d:e9 (R-P):=b.1.resolve_left (aBV h'.ne);rcases b.2 with q|q
  .exact q.symm
  .rcases(g.1 d).2 with a|a
   .exact a
   .exact(o5 q a).elim
 .have b:=f.2 e;have d:e9 (P-R):=b.1.resolve_left (aBV h'.ne);rcases b.2 with q|q
  .exact q.symm
  .rcases(g.2 d).2 with a|a
   .exact a
   .exact(o5 q a).elim
def qA (n P Q X:V):f7 n (Q-P) (X-P)=f7 n (Q-P) (X-Q):=by have e:X-P=(X-Q)+(Q-P):=ext (by simp;lia) (by simp;lia) (by simp;lia);rw[e,Z0,C1];lia
def EdgeOf.prev (h:EdgeOf n T P R)(h':EdgeOf n T Q R):P=Q:=by
 have k:=h.left Q h'.p;have l:=h'.left P h.p;have m:f7 n (R-Q) (P-Q)=-f7 n (R-P) (Q-P):=by simp[f7,b9];grind
 have i:f7 n (R-P) (Q-P)=0:=by lia
 have j:f7 n (R-Q) (P-Q)=0:=by lia
 have f:=h.btw Q h'.p i;have g:=h'.btw P h.p j;rcases C9 R P with e|e|e
 .exact absurd e.symm h.ne
 .have b:=f.1 e;have d:e9 (R-Q):=b.2.resolve_left h'.ne;rcases b.1 with q|q
  .exact q.symm
  .rcases(g.1 d).1 with a|a
   .exact a
   .exact(o5 q a).elim
 .have b:=f.2 e;have d:e9 (Q-R):=b.2.resolve_left h'.ne;rcases b.1 with q|q
  .exact q.symm
  .rcases(g.2 d).1 with a|a
   .exact a
   .exact(o5 q a).elim
end
theorem oF {Pos:V->Prop}(X:V):∀(c:List V),(∀Y∈c,X=Y\/Pos (X-Y)\/Pos (Y-X))->(∀q,c.head?=some q->X=q\/Pos (q-X))->(∀z,c.getLast?=some z->X=z\/Pos (X-z))->c≠[]->
  (∀u,Pos u->Pos (-u)->False)->X∈c\/∃a b,(a,b)∈D2 c/\Pos (X-a)/\Pos (b-X)
 |[],_,_,_,h,_=>absurd rfl h
 |[q],_,d,f,_,g=>by
  rcases d q rfl with e|e
  .exact .inl (by simp[e])
  .rcases f q rfl with i|i
   .exact .inl (by simp[i])
   .exact(g _ e (by rw[q8];exact i)).elim
 |b::a::r,j,d,f,_,g=>by
  rcases d b rfl with e|e
  .exact .inl (by simp[e])
  .rcases j a (by simp)with y|y|y
   .exact .inl (by simp[y])
   .exact .inr ⟨a,b,by simp[D2],y,e⟩
   .rcases oF X (a::r) (λY k=>j Y (aAe _ k)) (λq l=>by have:a=q:=Option.some.inj l;subst this;exact .inr y) (λz m=>f z (by rw[aBn];exact m)) (by simp) g with h|⟨n,o,h,p⟩
    .exact .inl (aAe _ h)
    .exact .inr ⟨n,o,N5 h,p⟩
def Row.ad4 {Pos:V->Prop}{T:V->Prop}(F:Row n Pos T)(g:T a)(h:T b)(d:T P)(i:T Q)(j:Pos (P-a))(k:Pos (b-P))(l:Pos (Q-P))(m:0<=f7 n (b-a) (P-a))(f:0<f7 n (Q-P) (a-P))(o:0<=f7 n (Q-P) (b-P)):False:=by
 have p:f7 n (Q-P) (a-P)=f7 n (P-a) (Q-P):=by have e:a-P=-(P-a):=(q8 _ _).symm;rw[e,G9,j9];lia
 rw[p]at f;have:=F.cone.tr j l k (x8 F.nz (F.pl _ _ d g) (F.pl _ _ i d)<|F.pl _ _ h d) f o;have q:b-a=(b-P)+(P-a):=ext (by simp;lia) (by simp;lia) (by simp;lia);rw[q,Z9,C1,j9]at m
 lia
structure Sheet (n:V)(ts:List V):Prop where
 nz:n≠0
 pl:∀X∈ts,∀Y∈ts,b9 n (X-Y)=0
 ord:ts.Pairwise (λa b=>e9 (b-a))
 two:∃X∈ts,∃Y∈ts,X≠Y
section
variable{n:V} {ts:List V} (S:Sheet n ts)
include S
theorem Sheet.row:Row n e9 (λX=>X∈ts):=⟨y7,S.nz,λX Y a b=>S.pl X a Y b,λX Y _ _=>C9 X Y⟩
theorem Sheet.ae8:Row n L7 (λX=>X∈ts):=⟨aD,S.nz,λX Y a b=>S.pl X a Y b,λX Y _ _=>by
 rcases C9 X Y with h|h|h
 .exact .inl h
 .exact .inr (.inr (p6.mpr h))
 .exact .inr (.inl (p6.mpr h))⟩
theorem Sheet.ne:ts≠[]:=by obtain⟨X,a,_⟩:=S.two;intro e;rw[e]at a;cases a
theorem Sheet.ab1:ChOk n e9 (λX=>X∈ts) (v7 n ts)/\v7 n ts≠[]/\(∀X q,(v7 n ts).head?=some q->X∈ts->X=q\/e9 (q-X)):=
 S.row.ac6 S.ne (λ_ h=>h) S.ord
theorem Sheet.ab2:ChOk n L7 (λX=>X∈ts) (v7 n ts.reverse)/\v7 n ts.reverse≠[]/\(∀X q,(v7 n ts.reverse).head?=some q->X∈ts->X=q\/L7 (q-X)):=by
 have h:=S.ae8.ac6 (ps:=ts.reverse) (by simpa using S.ne) (λX h=>by simpa using h) (by rw[aEj];exact S.ord.imp λh=>p6.mpr h)
 obtain⟨a,b,d⟩:=h;exact⟨ChOk.congr S.ae8 a λX=>by simp,b,λX q e f=>d X q e (by simpa using f)⟩
theorem Sheet.ad5 (h:(a,b)∈D2 (v7 n ts))(i:a∈ts)(j:b∈ts):EdgeOf n (λX=>X∈ts) a b/\e9 (b-a):=by obtain⟨d,f⟩:=S.ab1.1.ed _ h;dsimp only at d f;refine⟨⟨i,j,λe=>by subst e;exact G1 d,λX g=>(f X g).1,λX g z=>⟨λ_=>(f X g).2 z,λy=>(o5 d y).elim⟩⟩,d⟩
theorem Sheet.ae2 (h:(a,b)∈D2 (v7 n ts.reverse))(j:a∈ts)(k:b∈ts):EdgeOf n (λX=>X∈ts) a b/\e9 (a-b):=by obtain⟨i,f⟩:=S.ab2.1.ed _ h;dsimp only at i f;have d:=p6.mp i;refine⟨⟨j,k,λe=>by subst e;exact G1 d,λX g=>(f X g).1,λX g z=>⟨λy=>(o5 d y).elim,λ_=>?_⟩⟩,d⟩;obtain⟨l,m⟩:=(f X g).2 z;exact⟨l.imp id p6.mp,m.imp id p6.mp⟩
theorem K5 (h:(a,b)∈D2 c):a∈c/\b∈c:=by
 induction c with
 |nil=>cases h
 |cons x c d=>
  match c,h,d with
  |[],h,_=>cases h
  |y::r,h,d=>
   rcases aAd.mp h with e|e
   .cases e;simp
   .have:=d e;exact⟨aAe _ this.1,aAe _ this.2⟩
theorem Sheet.ends:∃m M c d,m∈ts/\M∈ts/\e9 (M-m)/\(∀X∈ts,X=m\/e9 (X-m))/\(∀X∈ts,X=M\/e9 (M-X))/\v7 n ts=M::c/\v7 n ts.reverse=m::d/\(M::c).getLast?=some m/\(m::d).getLast?=some M/\c≠[]/\d≠[]:=by
 obtain⟨l,u,v⟩:=S.ab1;obtain⟨o,w,x⟩:=S.ab2;obtain⟨M,c,b⟩:=aEO u;obtain⟨m,d,f⟩:=aEO w;have p:M∈ts:=l.mem M (by rw[b];simp);have s:m∈ts:=o.mem m (by rw[f];simp);have q:∀X∈ts,X=M\/e9 (M-X):=λX g=>v X M (by rw[b];rfl) g;have h:∀X∈ts,X=m\/e9 (X-m):=λX g=>(x X m (by rw[f];rfl) g).imp id p6.mp;obtain⟨z,i⟩:∃z,(M::c).getLast?=some z:=by simp[aEV]
 obtain⟨y,j⟩:∃z,(m::d).getLast?=some z:=by simp[aEV]
 have A:z=m:=by
  have B:z∈ts:=l.mem z (by rw[b];exact aCW i);rcases l.last m s z (by rw[b];exact i)with e|e
  .exact e.symm
  .rcases h z B with a|a
   .exact a
   .exact(o5 e a).elim
 have C:y=M:=by
  have E:y∈ts:=o.mem y (by rw[f];exact aCW j);rcases o.last M p y (by rw[f];exact j)with e|e
  .exact e.symm
  .rcases q y E with a|a
   .exact a
   .exact(o5 (p6.mp e) a).elim
 subst A C;have r:e9 (y-z):=by
  obtain⟨X,g,Y,H,ne⟩:=S.two;rcases h y p with e|e
  .exfalso;subst e;have k:∀W∈ts,W=y:=λW t=>by
    rcases h W t with e|e
    .exact e
    .rcases q W t with a|a
     .exact a
     .exact(o5 e a).elim
   exact ne ((k X g).trans (k Y H).symm)
  .exact e
 refine⟨z,y,c,d,s,p,r,h,q,b,f,i,j,λe=>?_,λe=>?_⟩
 .subst e;have:y=z:=by simpa using i
  subst this;exact G1 r
 .subst e;have:z=y:=by simpa using j
  subst this;exact G1 r
theorem Sheet.pair (h:(P,Q)∈J2 (j8 n ts)):EdgeOf n (λX=>X∈ts) P Q:=by
 obtain⟨m,M,c,d,i,j,k,l,o,a,b,e,f,g,p⟩:=S.ends;rw[PM a b e f g,aAT,aCw,aCw]at h;rcases h with h|h
 .have:=K5 S h;exact(S.ad5 h (S.ab1.1.mem _ this.1)<|S.ab1.1.mem _ this.2).1
 .have:=K5 S h;exact(S.ae2 h (S.ab2.1.mem _ this.1)<|S.ab2.1.mem _ this.2).1
theorem P7 (h:P∈l):∃Q,(P,Q)∈J2 l:=by
 obtain⟨i,b,e⟩:=aBw h;have d:l.length=(l.tail++l.take 1).length:=by
  match l,b with
  |a::l,_=>simp
 refine⟨(l.tail++l.take 1)[i]'(by lia),?_⟩;unfold J2;refine List.mem_of_getElem (i:=i) (h:=by rw[List.length_zip];lia) ?_;rw[List.getElem_zip,e]
theorem Sheet.ab0 (h:EdgeOf n (λX=>X∈ts) P Q):P∈j8 n ts:=by
 obtain⟨m,M,c,d,T,U,mM,C,E,A,B,h3,h4,hc,hd⟩:=S.ends;obtain⟨o,H,I⟩:=S.ab1;obtain⟨i,J,L⟩:=S.ab2;unfold j8;rw[aAT,A,B,aAP,aAP,aBp,aBp,aCw,aCw];rcases C9 Q P with e|e|e
 .exact absurd e.symm h.ne
 .
  left;rcases oF (Pos:=e9) P (v7 n ts) (λY _=>C9 P Y) (λq s=>I P q s h.p) (λz t=>o.last P h.p z t) H (λu a b=>by have:=y7.add a b;have v:u+-u=0:=ext (by simp;lia) (by simp;lia) (by simp;lia);rw[v]at this;exact y7.irr this)with r|⟨a,b,r,g,w⟩
  .rw[A]at r;rcases aAd.mp r with q|q
   .subst q;rcases E Q h.q with y|y
    .exact absurd y.symm h.ne
    .exact(o5 e y).elim
   .exact q
  .exfalso;have j:=K5 S r;have f:=o.mem _ j.1;have k:=o.mem _ j.2;have N:=h.left a f;have x:f7 n (Q-P) (a-P)≠0:=λz=>by
    rcases((h.btw a f z).1 e).1 with y|y
    .subst y;exact G1 g
    .exact o5 g y
   exact S.row.ad4 f k h.p h.q g w e ((o.ed _ r).2 P h.p).1 (by lia) (h.left b k)
 .right;rcases oF (Pos:=L7) P (v7 n ts.reverse) (λY _=>S.ae8.tot P Y h.p (by rename_i O;exact i.mem Y O)) (λq s=>L P q s h.p) (λz t=>i.last P h.p z t) J (λu a b=>by have:=aD.add a b;have v:u+-u=0:=ext (by simp;lia) (by simp;lia) (by simp;lia);rw[v]at this;exact aD.irr this)with r|⟨a,b,r,g,w⟩
  .rw[B]at r;rcases aAd.mp r with q|q
   .subst q;rcases C Q h.q with y|y
    .exact absurd y.symm h.ne
    .exact(o5 e y).elim
   .exact q
  .exfalso;have j:=K5 S r;have f:=i.mem _ j.1;have k:=i.mem _ j.2;have N:=h.left a f;have l:=p6.mp g;have x:f7 n (Q-P) (a-P)≠0:=λz=>by
    rcases((h.btw a f z).2 e).1 with y|y
    .subst y;exact G1 l
    .exact o5 l y
   exact S.ae8.ad4 f k h.p h.q g w (p6.mpr e) ((i.ed _ r).2 P h.p).1 (by lia) (h.left b k)
theorem Sheet.aa1:(P,Q)∈J2 (j8 n ts)↔EdgeOf n (λX=>X∈ts) P Q:=by
 refine⟨S.pair,λh=>?_⟩;obtain⟨R,a⟩:=P7 S (S.ab0 h);have:=(S.pair a).next h
 subst this;exact a
end
theorem M6 {Pos:V->Prop}(C:Cone Pos):∀(c:List V),(∀e∈D2 c,Pos (e.2-e.1))->c.Pairwise (λb a=>Pos (b-a))
 |[],_=>aGD
 |[x],_=>aDV _ _
 |b::a::r,h=>by
  have d:=M6 C (a::r) (λe g=>h e (N5 g));have f:=h (a,b) (by simp[D2]);refine aAA.mpr ⟨λy i=>?_,d⟩;rcases aAd.mp i with e|e
  .subst e;exact f
  .have:=(aAA.mp d).1 y e;have s:=C.add f this;have j:b-a+(a-y)=b-y:=ext (by simp;lia) (by simp;lia) (by simp;lia);dsimp only at s
   rwa [j]at s
theorem jP:∀{h:V} {c:List V} {X:V},X∈c->∃b,(X,b)∈D2 (h::c)
 |h,[],X,d=>by cases d
 |h,a::r,X,d=>by
  rcases aAd.mp d with e|e
  .subst e;exact⟨h,by simp[D2]⟩
  .obtain⟨b,f⟩:=jP (h:=a) e;exact⟨b,N5 f⟩
section
variable{n:V} {ts:List V} (S:Sheet n ts)
include S
theorem Sheet.aa3 (h:X∈j8 n ts):X∈ts:=by obtain⟨Q,a⟩:=P7 S h;exact(S.pair a).p
theorem Sheet.aa4:(j8 n ts).Nodup:=by
 obtain⟨m,M,c,d,E,H,I,J,L,f,g,N,O,Q,T⟩:=S.ends;obtain⟨i,U,Y⟩:=S.ab1;obtain⟨j,n2,t2⟩:=S.ab2;unfold j8;rw[f,g,aAP,aAP,aBp,aBp];have p:=M6 y7 (v7 n ts) λe k=>(i.ed e k).1;have q:=M6 aD (v7 n ts.reverse) λe k=>(j.ed e k).1;rw[f]at p;rw[g]at q;have v:=(aAA.mp p).2;have w:=(aAA.mp q).2;rw[aCl];refine⟨?_,?_,?_⟩
 .rw[aCi,aEj];exact v.imp λ{a b} h e=>by subst e;exact G1 h
 .rw[aCi,aEj];exact w.imp λ{a b} h e=>by subst e;exact G1 (p6.mp h)
 .intro x r y s e;subst e;rw[aCw]at r s;obtain⟨b,l⟩:=jP (h:=M) r;obtain⟨b',o⟩:=jP (h:=m) s;rw[<-f]at l;rw[<-g]at o;have t:=K5 S l;have u:=K5 S o;obtain⟨z,A⟩:=S.ad5 l (i.mem _ t.1) (i.mem _ t.2);obtain⟨B,C⟩:=S.ae2 o (j.mem _ u.1) (j.mem _ u.2);have:=z.next B;subst this;exact o5 A C
theorem Sheet.aa9:∃m r,j8 n ts=m::r/\m∈ts/\∀X∈ts,X=m\/e9 (X-m):=by
 obtain⟨m,M,c,d,f,k,l,g,o,h,i,e,p,j,q⟩:=S.ends;have a:∃b,c.reverse=m::b:=by
  have:c.getLast?=some m:=by
   match c,j with
   |x::c,_=>rw[aBn]at e;exact e
  rw[<-aEU]at this;match s:c.reverse,this with
  |x::r,this=>exact⟨r,by rw[show x=m from Option.some.inj this]⟩
 obtain⟨b,a⟩:=a;refine⟨m,b++d.reverse,?_,f,g⟩;unfold j8;rw[h,i,aAP,aAP,aBp,aBp,a];rfl
theorem nV (h:Q∈l):∃P,(P,Q)∈J2 l:=by
 match l,h with
 |a::r,h=>
  have b:Q∈r++[a]:=by simpa[or_comm]using h
  obtain⟨i,d,e⟩:=aBw b;have f:i<(a::r).length:=by simpa using d
  refine⟨(a::r)[i],?_⟩;show _∈(a::r).zip (r++[a]);refine List.mem_of_getElem (i:=i) (h:=by rw[List.length_zip];simp;omega) ?_;rw[List.getElem_zip,e]
theorem W6 (h:(P,Q)∈J2 l):P∈l/\Q∈l:=by
 have b:=aDW h;refine⟨b.1,?_⟩;match l,b.2 with
 |a::r,z=>simpa[or_comm]using z
theorem Sheet.strict (h:EdgeOf n (λX=>X∈ts) P Q)(A:X∈j8 n ts)(t:X≠P)(u:X≠Q):0<f7 n (Q-P) (X-P):=by
 have d:=S.aa3 A;have H:=h.left X d;by_cases z:f7 n (Q-P) (X-P)=0
 .exfalso;have b:=h.btw X d z;obtain⟨Y,C⟩:=P7 S A;have g:=S.pair C;have v:=g.left P h.p;have m:=g.left Q h.q;rcases C9 Q P with e|e|e
  .exact h.ne e.symm
  .have o:=b.1 e;have f:=o.1.resolve_left t;have i:=o.2.resolve_left u;have E:f7 n (X-P) (Q-X)=0:=by have a:Q-P=(Q-X)+(X-P):=ext (by simp;lia) (by simp;lia) (by simp;lia);rw[a,Z9,C1,j9]at z;lia
   have r:0<=f7 n (X-P) (Y-X):=by have a:P-X=-(X-P):=(q8 _ _).symm;rw[a,G9]at v;rw[j9];lia
   rcases C9 Y X with y|y|y
   .exact g.ne y.symm
   .have I:=S.row.weak f y i (S.pl _ d _ h.p) (S.pl _ g.q _ d) (S.pl _ h.q _ d) r m;by_cases j:0<f7 n (X-P) (Y-X)
    .have:=y7.tr f y i (x8 S.nz (S.pl _ d _ h.p) (S.pl _ g.q _ d)<|S.pl _ h.q _ d) j m
     lia
    .have l:f7 n (Y-X) (P-X)=0:=by have a:P-X=-(X-P):=(q8 _ _).symm;rw[a,G9,j9];lia
     rcases((g.btw P h.p l).1 y).1 with k|k
     .exact t k.symm
     .exact o5 k f
   .have s:e9 (X-Y):=y;have B:0<=f7 n (X-Y) (X-P):=by have a:Y-X=-(X-Y):=(q8 _ _).symm;rw[a,G9,j9]at r;lia
    have w:0<=f7 n (Q-X) (X-Y):=by have a:Y-X=-(X-Y):=(q8 _ _).symm;rw[a,Z7,j9]at m;lia
    by_cases j:0<f7 n (Q-X) (X-Y)
    .have:=y7.tr i s f (x8 S.nz (S.pl _ h.q _ d) (S.pl _ d _ g.q)<|S.pl _ d _ h.p) j B;rw[j9]at this;lia
    .have l:f7 n (Y-X) (Q-X)=0:=by have a:Y-X=-(X-Y):=(q8 _ _).symm;rw[a,Z7,j9];lia
     rcases((g.btw Q h.q l).2 s).1 with k|k
     .exact u k.symm
     .exact o5 k i
  .have o:=b.2 e;have f:=o.1.resolve_left t;have i:=o.2.resolve_left u;have E:f7 n (P-X) (X-Q)=0:=by have a:Q-P=-((P-X)+(X-Q)):=ext (by simp;lia) (by simp;lia) (by simp;lia);have x:X-P=-(P-X):=(q8 _ _).symm;rw[a,x,Z7,G9,Z9,C1,j9]at z;lia
   rcases C9 Y X with y|y|y
   .exact g.ne y.symm
   .
    have w:0<=f7 n (X-Q) (Y-X):=by have a:Q-X=-(X-Q):=(q8 _ _).symm;rw[a,G9,j9]at m;lia
    by_cases j:0<f7 n (X-Q) (Y-X)
    .have:=y7.tr i y f (x8 S.nz (S.pl _ d _ h.q) (S.pl _ g.q _ d)<|S.pl _ h.p _ d) j v;rw[j9]at this;lia
    .have l:f7 n (Y-X) (Q-X)=0:=by have a:Q-X=-(X-Q):=(q8 _ _).symm;rw[a,G9,j9];lia
     rcases((g.btw Q h.q l).1 y).1 with k|k
     .exact u k.symm
     .exact o5 k i
   .have s:e9 (X-Y):=y;have B:0<=f7 n (P-X) (X-Y):=by have a:Y-X=-(X-Y):=(q8 _ _).symm;rw[a,Z7,j9]at v;lia
    have w:0<=f7 n (X-Y) (X-Q):=by have a:Y-X=-(X-Y):=(q8 _ _).symm;have x:Q-X=-(X-Q):=(q8 _ _).symm;rw[a,x,Z7,G9]at m;lia
    by_cases j:0<f7 n (P-X) (X-Y)
    .have:=y7.tr f s i (x8 S.nz (S.pl _ h.p _ d) (S.pl _ d _ g.q)<|S.pl _ d _ h.q) j w
     lia
    .have l:f7 n (Y-X) (P-X)=0:=by have a:Y-X=-(X-Y):=(q8 _ _).symm;rw[a,Z7,j9];lia
     rcases((g.btw P h.p l).2 s).1 with k|k
     .exact t k.symm
     .exact o5 k f
 .lia
end
def gC {a:V}(h:a≠0):a.x≠0\/a.y≠0\/a.z≠0:=by
 by_cases p:a.x=0
 .by_cases q:a.y=0
  .by_cases r:a.z=0
   .exact absurd (ext p q r) h
   .exact .inr (.inr r)
  .exact .inr (.inl q)
 .exact .inl p
def z6 {a w:V}(d:a≠0)(h:cr a w=0):∃k m:Int,0<k/\k*w=m*a:=by
 have f:=la V.x h;have g:=la V.y h;have i:=la V.z h;simp at f g i;have b:∀k m:Int,k≠0->k*w=m*a->∃k m:Int,0<k/\k*w=m*a:=λk m o e=>by
  by_cases p:0<k
  .exact⟨k,m,p,e⟩
  .refine⟨-k,-m,by lia,?_⟩;have j:=la V.x e;have l:=la V.y e;have n:=la V.z e;simp at j l n;apply ext<;>simp<;>grind
 rcases gC d with p|p|p
 .exact b a.x w.x p (by apply ext<;>simp<;>grind)
 .exact b a.y w.y p (by apply ext<;>simp<;>grind)
 .exact b a.z w.z p (by apply ext<;>simp<;>grind)
def ConeM.ad0 {Pos:V->Prop}(C:ConeM a Pos)(d:a≠0)(f:Pos w):cr a w≠0:=λh=>by
 obtain⟨k,m,g,e⟩:=z6 d h;have b:=C.inv (-m) (C.mul g f);rw[e]at b;have i:m*a+-m*a=0:=by apply ext<;>simp<;>grind
 rw[i]at b;exact C.irr b
def E6 (a A:V):List V->V->V->V×V
 |[],d,b=>(d,b)
 |P::e,d,b=>if d=0\/0<b9 d (P-A)then E6 a A e (cr a (P-A)) P else E6 a A e d b
def SA (a A:V)(Pos:V->Prop)(seen:V->Prop)(d b:V):Prop:=
 (d=0/\∀P,seen P->cr a (P-A)=0)\/(seen b/\Pos (b-A)/\d=cr a (b-A)/\∀P,seen P->f7 a (b-A) (P-A)<=0)
def gU (h:cr a w=0)(u:V):f7 a u w=0:=by
 have e:f7 a u w=-b9 (cr a w) u:=by simp[f7,b9];grind
 rw[e,h];simp[b9]
theorem tN {Pos:V->Prop}(C:ConeM a Pos)(p:a≠0):∀(j:List V) (seen:V->Prop) (f d:V),SA a A Pos seen f d->(∀P,seen P->Pos (P-A)\/cr a (P-A)=0)->(∀P∈j,Pos (P-A)\/cr a (P-A)=0)->
  SA a A Pos (λP=>seen P\/P∈j) (E6 a A j f d).1 (E6 a A j f d).2
 |[],seen,f,d,h,_,_=>by
  show SA a A Pos _ f d;rcases h with⟨i,g⟩|⟨i,g,k,l⟩
  .exact .inl ⟨i,λP b=>g P (by simpa using b)⟩
  .exact .inr ⟨.inl i,g,k,λP b=>l P (by simpa using b)⟩
 |Q::j,seen,f,d,h,s,t=>by
  have m:=t Q (by simp);have n:SA a A Pos (λP=>seen P\/P=Q) (if f=0\/0<b9 f (Q-A)then(cr a<|Q-A)else f) (if f=0\/0<b9 f (Q-A)then Q else d):=by
   rcases h with⟨i,g⟩|⟨i,g,k,l⟩
   .rw[kn (.inl i),kn (.inl i)];by_cases z:cr a (Q-A)=0
    .exact .inl ⟨z,λP b=>by
      rcases b with b|b
      .exact g P b
      .subst b;exact z⟩
    .refine .inr ⟨.inr rfl,m.resolve_right z,rfl,λP b=>?_⟩;rcases b with b|b
     .rw[gU (g P b)];exact aBZ _
     .subst b;rw[C1];exact aBZ _
   .have u:f≠0:=by rw[k];exact C.ad0 p g
    have o:b9 f (Q-A)=f7 a (d-A) (Q-A):=by rw[k,S5]
    by_cases z:0<b9 f (Q-A)
    .rw[kn (.inr z),kn (.inr z)];have v:Pos (Q-A):=by
      rcases m with q|q
      .exact q
      .rw[o,gU q]at z;lia
     refine .inr ⟨.inr rfl,v,rfl,λP b=>?_⟩;rcases b with b|b
     .by_cases w:f7 a (Q-A) (P-A)<=0
      .exact w
      .exfalso;have x:Pos (P-A):=by
        rcases s P b with q|q
        .exact q
        .rw[gU q]at w;lia
       have:=C.tr g v x (by rw[<-o];exact z) (by lia);have:=l P b
       lia
     .subst b;rw[C1];exact aBZ _
    .rw[ku (by rintro(q|q);exact u q;exact z q),ku (by rintro(q|q);exact u q;exact z q)];refine .inr ⟨.inl i,g,k,λP b=>?_⟩;rcases b with b|b
     .exact l P b
     .subst b;rw[<-o];lia
  have r:=tN C p j (λP=>seen P\/P=Q) _ _ n (λP b=>by
   rcases b with b|b
   .exact s P b
   .subst b;exact m) (λP b=>t P (aAe _ b))
  have e:E6 a A (Q::j) f d=E6 a A j (if f=0\/0<b9 f (Q-A)then(cr a<|Q-A)else f) (if f=0\/0<b9 f (Q-A)then Q else d):=by rw[E6];split<;>rfl
  rw[e];have y:(λP=>(seen P\/P=Q)\/P∈j)=(λP=>seen P\/P∈Q::j):=by funext P;simp[or_assoc]
  rw[<-y];exact r
def OY {Pos:V->Prop}(C:ConeM a Pos)(e:a≠0)(g:∀P∈j,Pos (P-A)\/cr a (P-A)=0)(i:∃P∈j,Pos (P-A)):
  (E6 a A j 0 A).2∈j/\Pos ((E6 a A j 0 A).2-A)/\∀P∈j,f7 a ((E6 a A j 0 A).2-A) (P-A)<=0:=by
 have h:=tN C e j (λ_=>False) 0 A (.inl ⟨rfl,λ_ h=>h.elim⟩) (λ_ h=>h.elim) g;rcases h with⟨f,b⟩|⟨f,b,m,k⟩
 .obtain⟨P,d,l⟩:=i;exact absurd (b P<|.inr d) (C.ad0 e l)
 .exact⟨by simpa using f,b,λP d=>k P (.inr d)⟩
def x6 (v:V):Nat:=Nat.gcd (Nat.gcd v.x.natAbs v.y.natAbs) v.z.natAbs
def kF (v:V)(g:Int):V:=⟨v.x/g,v.y/g,v.z/g⟩
def cU (n:V):Prop:=x6 n=1
def pS (k:Int)(v:V):x6 (k*v)=k.natAbs*x6 v:=by unfold x6;simp[Int.natAbs_mul,Nat.gcd_mul_left]
def IH (h:x6 v=0):v=0:=by unfold x6 at h;have a:=Nat.gcd_eq_zero_iff.mp h;have b:=Nat.gcd_eq_zero_iff.mp a.1;exact ext (aEW.mp b.1) (aEW.mp b.2) (aEW.mp a.2)
def MB (v:V):(x6 v:Int)∣v.x/\(x6 v:Int)∣v.y/\(x6 v:Int)∣v.z:=by
 unfold x6;refine⟨?_,?_,?_⟩
 .exact aEX.mpr (Nat.dvd_trans (aFF _ _)<|aFF _ _)
 .exact aEX.mpr (Nat.dvd_trans (aFF _ _)<|Nat.gcd_dvd_right _ _)
 .exact aEX.mpr (Nat.gcd_dvd_right _ _)
def jB (h:c≠0):0<(x6 c:Int)/\c=(x6 c:Int)*kF c (x6 c)/\cU (kF c (x6 c)):=by
 have i:x6 c≠0:=λz=>h (IH z);have a:0<(x6 c:Int):=by lia
 obtain⟨b,d,f⟩:=MB c;have e:c=(x6 c:Int)*kF c (x6 c):=by
  apply ext
  .show _=_*(c.x/_);rw[aEv b]
  .show _=_*(c.y/_);rw[aEv d]
  .show _=_*(c.z/_);rw[aEv f]
 refine⟨a,e,?_⟩;have:=la x6 e;rw[pS]at this;simp only[Int.natAbs_natCast]at this;unfold cU;have g:x6 c*1=x6 c*x6 (kF c<|x6 c):=by lia
 exact(Nat.eq_of_mul_eq_mul_left (by lia) g).symm
def cU.ne (h:cU n):n≠0:=λe=>by subst e;unfold cU at h;exact absurd h (by decide)
def uL {n m:V}{k l:Int}(g:cU n)(h:cU m)(i:0<k)(j:0<l)(e:k*n=l*m):n=m:=by
 have:=la x6 e;rw[pS,pS,g,h]at this;have a:k=l:=by lia
 subst a;have b:=la V.x e;have d:=la V.y e;have f:=la V.z e;simp at b d f;exact ext (aDL (by lia) b) (aDL (by lia) d) (aDL (by lia) f)
def j4 (P Q R:V):V×Int:=let n:=kF (cr (Q-P)<|R-P) (x6<|cr (Q-P)<|R-P);(n,b9 n P)
structure IsFace (j:List V)(n:V)(d:Int):Prop where
 prim:cU n
 sup:∀X∈j,b9 n X<=d
 three:∃A∈j,∃B∈j,∃C∈j,b9 n A=d/\b9 n B=d/\b9 n C=d/\cr (B-A) (C-A)≠0
def C4 (a:b9 n u=0)(b:b9 n v=0):cr n (cr u v)=0:=by simp[b9]at a b;apply ext<;>simp<;>grind
def fY (f:c≠0)(b:cr n c=0)(d:cr m c=0):cr n m=0:=by
 have h:cr c n=0:=by have:=la V.x b;have:=la V.y b;have:=la V.z b;simp at*;apply ext<;>simp<;>grind
 have i:cr c m=0:=by have:=la V.x d;have:=la V.y d;have:=la V.z d;simp at*;apply ext<;>simp<;>grind
 obtain⟨k,p,r,j⟩:=z6 f h;obtain⟨l,q,s,o⟩:=z6 f i;have e:(k*l)*cr n m=0:=by
  have:(k*l)*cr n m=cr (k*n) (l*m):=by apply ext<;>simp<;>grind
  rw[this,j,o];apply ext<;>simp<;>grind
 have a:k*l≠0:=λz=>by rcases aAu.mp z with q|q<;>lia
 have b:=la V.x e;have d:=la V.y e;have g:=la V.z e;simp only[nI,oI,qF,cG,cD,cC]at b d g;exact ext ((aAu.mp b).resolve_left a) ((aAu.mp d).resolve_left a) ((aAu.mp g).resolve_left a)
def gS {j:List V}{n m:V}{d e:Int}(g:cU n)(a:cU m)(H:∀X∈j,b9 n X<=d)(h:∀X∈j,b9 m X<=e){A B C Z:V}(I:b9 n A=d)(J:b9 n B=d)(L:b9 n C=d)(i:b9 m A=e)(o:b9 m B=e)(r:b9 m C=e)
  (s:cr (B-A) (C-A)≠0) (t:Z∈j) (hz:b9 n Z<d):n=m/\d=e:=by
 have u:cr n (cr (B-A)<|C-A)=0:=C4 (by rw[d8];lia) (by rw[d8];lia);have w:cr m (cr (B-A)<|C-A)=0:=C4 (by rw[d8];lia) (by rw[d8];lia);have p:=fY s w u;obtain⟨k,l,b,f⟩:=z6 a.ne p;have x:0<l:=by
  have q:=la (λv=>b9 v (Z-A)) f;rw[L6,L6]at q;have y:b9 n (Z-A)<0:=by rw[d8];lia
  have N:b9 m (Z-A)<=0:=by rw[d8];have:=h Z t;lia
  have O:k*b9 n (Z-A)<0:=aAz b y;by_cases z:0<l
  .exact z
  .exfalso;have:0<=l*b9 m (Z-A):=by
    have:=aBh (show 0<=-l by lia) (show 0<=-b9 m (Z-A)by lia)
    rwa [aDy]at this
   lia
 have E:=uL g a b x f;subst E;exact⟨rfl,by lia⟩
def b7 (A B:V)(j:List V):V×Int:=j4 A B (E6 (B-A) A j 0 A).2
def o8 (n:V)(d:Int)(j:List V):List V:=j.filter λX=>decide (b9 n X=d)
def c6:X∈o8 n d j↔X∈j/\b9 n X=d:=by simp[o8]
def oG (h:cr (Q-P) (R-P)≠0):∃g:Int,0<g/\cr (Q-P) (R-P)=g*(j4 P Q R).1/\cU (j4 P Q R).1/\(j4 P Q R).2=b9 (j4 P Q R).1 P:=by obtain⟨a,b,d⟩:=jB h;exact⟨_,a,b,d,rfl⟩
def U3 {Pos:V->Prop}(C:ConeM (B-A) Pos)(d:B-A≠0)(o:∀P∈j,Pos (P-A)\/cr (B-A) (P-A)=0)(p:∃P∈j,Pos (P-A)):
  ∃(a:V) (g:Int),a∈j/\Pos (a-A)/\0<g/\cr (B-A) (a-A)=g*(b7 A B j).1/\cU (b7 A B j).1/\(b7 A B j).2=b9 (b7 A B j).1 A/\
   (∀P∈j,b9 (b7 A B j).1 P<=(b7 A B j).2)/\b9 (b7 A B j).1 B=(b7 A B j).2/\b9 (b7 A B j).1 a=(b7 A B j).2/\
   (∀P∈j,b9 (b7 A B j).1 P=(b7 A B j).2->f7 (B-A) (a-A) (P-A)=0):=by
 obtain⟨q,f,r⟩:=OY C d o p;have s:=C.ad0 d f;obtain⟨g,i,k,t,l⟩:=oG s;have b:∀w:V,g*b9 (b7 A B j).1 w=f7 (B-A) ((E6 (B-A) A j 0 A).2-A) w:=λw=>by have:b9 (cr (B-A)<|(E6 (B-A) A j 0 A).2-A) w=f7 (B-A) ((E6 (B-A) A j 0 A).2-A) w:=S5 _ _ _;rw[<-this,k,L6];rfl
 have v:(b7 A B j).2=b9 (b7 A B j).1 A:=l;have m:∀w:V,f7 (B-A) ((E6 (B-A) A j 0 A).2-A) w=0->b9 (b7 A B j).1 w=0:=λw u=>by have:=b w;rw[u]at this;exact(aAu.mp this).resolve_left (by lia)
 refine⟨_,g,q,f,i,k,t,l,λP n=>?_,?_,?_,λP n e=>?_⟩
 .have h:=r P n;rw[<-b]at h;have:b9 (b7 A B j).1 (P-A)<=0:=by
   by_cases z:b9 (b7 A B j).1 (P-A)<=0
   .exact z
   .have:=aBk i (show 0<b9 (b7 A B j).1 (P-A)by lia)
    lia
  rw[d8]at this
  lia
 .have:=m (B-A) (by simp[f7,b9];grind);rw[d8]at this;lia
 .have:=m ((E6 (B-A) A j 0 A).2-A) (C1 _ _);rw[d8]at this;lia
 .rw[<-b,d8];have:b9 (b7 A B j).1 P-b9 (b7 A B j).1 A=0:=by lia
  rw[this];simp
def wX {Pos:V->Prop}(C:ConeM a Pos)(d:a≠0)(e:Pos o)(f:Pos w)(h:f7 a o w=0):0<b9 (cr a o) (cr a w):=by
 by_cases z:0<b9 (cr a o) (cr a w)
 .exact z
 .exfalso;have g:=C.ad0 d e;have i:=v6 g;have j:Pos (b9 (cr a o) (cr a o)*w+(-b9 (cr a o) (cr a w))*o):=C.comb i (by lia) f e;refine C.ad0 d j ?_;have b:cr (cr a o) (cr a w)=f7 a o w*a:=by simp[f7,b9];apply ext<;>simp<;>grind
  rw[h,u7]at b;have k:cr a (b9 (cr a o) (cr a o)*w+(-b9 (cr a o) (cr a w))*o)=b9 (cr a o) (cr a o)*cr a w+(-b9 (cr a o) (cr a w))*cr a o:=by apply ext<;>simp<;>grind
  rw[k];have l:∀p q:V,b9 p p*q+(-b9 p q)*p=cr p (cr q p):=λp q=>by simp[b9];apply ext<;>simp<;>grind
  rw[l];have m:cr (cr a w) (cr a o)=0:=by have n:=la V.x b;have r:=la V.y b;have s:=la V.z b;simp only[TQ,VM,UO,cG,cD,cC]at n r s;apply ext<;>simp only[TQ,VM,UO,cG,cD,cC]<;>grind
  rw[m];apply ext<;>simp
def Btw.symm (h:Btw P Q X):Btw Q P X:=⟨λa=>⟨(h.2 a).2,(h.2 a).1⟩,λa=>⟨(h.1 a).2,(h.1 a).1⟩⟩
def sG (i:n≠0)(d:b9 n (a-b)=0):ConeM (a-b) (λw=>b9 n w<0\/(b9 n w=0/\0<f7 n (b-a) w))where
 add:=λ{u v} j l=>by
  rw[v9,Z0]
  lia
 mul:=λ{k u} f h=>by
  rw[i7,wQ];rcases h with h|⟨h,g⟩
  .exact .inl (aAz f h)
  .exact .inr ⟨by rw[h];simp,aBk f g⟩
 irr:=by rw[C3,dZ];lia
 inv:=λ{u} k h=>by
  have e:f7 n (b-a) (a-b)=0:=by have:a-b=-(b-a):=(q8 _ _).symm;rw[this,G9,C1];rfl
  rw[v9,Z0,i7,wQ,d,e];simpa using h
def U6 (a:n≠0)(g:b9 n u=0)(i:b9 n w=0)(h:f7 n u w=0):cr u w=0:=by
 have j:cr n (cr u w)=0:=C4 g i;obtain⟨k,m,p,e⟩:=z6 a j;have q:=la (b9 n) e;rw[i7,i7]at q;have:b9 n (cr u w)=0:=h;rw[this]at q;have l:m=0:=by
  have:=v6 a;have o:m*b9 n n=0:=by lia
  rcases aAu.mp o with z|z
  .exact z
  .lia
 rw[l,u7]at e;have b:=la V.x e;have d:=la V.y e;have f:=la V.z e;simp only[nI,oI,qF,cG,cD,cC]at b d f;exact ext ((aAu.mp b).resolve_left (by lia)) ((aAu.mp d).resolve_left (by lia)) ((aAu.mp f).resolve_left (by lia))
def xR (h:cr u w=0):cr (-u) w=0:=by have a:=la V.x h;have b:=la V.y h;have d:=la V.z h;simp only[TQ,VM,UO,cG,cD,cC]at a b d;apply ext<;>simp<;>grind
def rK (E:n≠0)(T:∀X∈j,b9 n X<=d)(hz:∃Z∈j,b9 n Z<d)(h:EdgeOf n (λX=>X∈o8 n d j) a b):
  IsFace j (b7 b a j).1 (b7 b a j).2/\EdgeOf (b7 b a j).1 (λX=>X∈o8 (b7 b a j).1 (b7 b a j).2 j) b a:=by
 obtain⟨H,da⟩:=c6.mp h.p;obtain⟨pb,db⟩:=c6.mp h.q;have o:b9 n (a-b)=0:=by rw[d8];lia
 have t:b9 n (b-a)=0:=by rw[d8];lia
 have C:=sG (n:=n) E o;have r:a-b≠0:=λe=>h.ne (by have U:=la V.x e;have Y:=la V.y e;have q3:=la V.z e;simp at U Y q3;exact ext (by lia) (by lia) (by lia))
 have u:∀P∈j,(b9 n (P-b)<0\/(b9 n (P-b)=0/\0<f7 n (b-a) (P-b)))\/cr (a-b) (P-b)=0:=λP I=>by
  have h1:=T P I;by_cases z:b9 n P<d
  .exact .inl (.inl (by rw[d8];lia))
  .have e:b9 n P=d:=by lia
   have tP:P∈o8 n d j:=c6.mpr ⟨I,e⟩;have l:=h.left P tP;rw[qA]at l;have J:b9 n (P-b)=0:=by rw[d8];lia
   by_cases y:0<f7 n (b-a) (P-b)
   .exact .inl (.inr ⟨J,y⟩)
   .have y0:f7 n (b-a) (P-b)=0:=by lia
    have:=xR (U6 E t J y0);rw[q8]at this;exact .inr this
 obtain⟨Z,hZ,hz⟩:=hz;obtain⟨f,g,o1,v,g0,L,gp,N,w,O,sO,Q⟩:=U3 C r u ⟨Z,hZ,.inl (by rw[d8];lia)⟩;refine⟨⟨gp,w,b,pb,a,H,f,o1,N.symm,O,sO,C.ad0 r v⟩,⟨c6.mpr ⟨pb,N.symm⟩,c6.mpr ⟨H,O⟩,λe=>h.ne e.symm,λX A=>?_,λX A e=>?_⟩⟩
 .obtain⟨i,B⟩:=c6.mp A;have z:=Q X i B;have s:g*f7 (b7 b a j).1 (a-b) (X-b)=b9 (cr (a-b)<|f-b) (cr (a-b)<|X-b):=by rw[L];unfold f7;rw[L6]
  have:0<=b9 (cr (a-b)<|f-b) (cr (a-b)<|X-b):=by
   rcases u X i with q|q
   .exact aAO (wX C r v q z)
   .rw[q,C3];exact aBZ _
  rw[<-s]at this;by_cases zz:0<=f7 (b7 b a j).1 (a-b) (X-b)
  .exact zz
  .have:=aAz g0 (show f7 (b7 b a j).1 (a-b) (X-b)<0 by lia)
   lia
 .obtain⟨i,B⟩:=c6.mp A;have z:=Q X i B;have s:g*f7 (b7 b a j).1 (a-b) (X-b)=b9 (cr (a-b)<|f-b) (cr (a-b)<|X-b):=by rw[L];unfold f7;rw[L6]
  rw[e]at s;rcases u X i with q|q
  .have:=wX C r v q z;rw[<-s]at this;simp at this
  .
   have dX:b9 n X=d:=by obtain⟨k,m,hk,e⟩:=z6 r q;have q:=la (b9 n) e;rw[i7,i7,o]at q;have:b9 n (X-b)=0:=(aAu.mp (show k*b9 n (X-b)=0 by lia)).resolve_left (by lia);rw[d8]at this;lia
   refine(h.btw X (c6.mpr ⟨i,dX⟩) ?_).symm;rw[qA];have:cr (b-a) (X-b)=0:=by
    have:=xR q
    rwa [q8]at this
   unfold f7;rw[this,C3]
def A6:List V->Option V
 |[]=>none
 |w::a=>if w≠0 then some w else A6 a
def t8 (h:A6 ws=some w):w∈ws/\w≠0:=by
 induction ws with
 |nil=>cases h
 |cons v ws a=>
  unfold A6 at h;split at h
  .rename_i b;cases h;exact⟨by simp,b⟩
  .have:=a h;exact⟨aAe _ this.1,this.2⟩
def M8 (h:A6 ws=none):∀w∈ws,w=0:=by
 induction ws with
 |nil=>intro w a;cases a
 |cons v ws b=>
  unfold A6 at h;split at h
  .cases h
  .rename_i d;intro w a;rcases aAd.mp a with e|e
   .subst e;exact Decidable.not_not.mp d
   .exact b h w e
def T0:List V->Nat
 |[]=>0
 |p::d=>
  let a:=(p::d).map (· -p)
  match A6 a with
  |none=>0
  |some b=>match A6 (a.map<|cr b)with
   |none=>1
   |some e=>if a.any (λw=>decide (b9 e w≠0))then 3 else 2
def j5 (j:List V):Prop:=∃A∈j,∃B∈j,∃C∈j,∃D∈j,f7 (B-A) (C-A) (D-A)≠0
def IP (h:T0 j=3):j5 j:=by
 match j,h with
 |p::w,h=>
  unfold T0 at h;dsimp only at h;split at h
  .cases h
  .rename_i b f;split at h
   .cases h
   .rename_i g i;split at h
    .rename_i e;obtain⟨k,x⟩:=t8 f;obtain⟨d,y⟩:=t8 i;obtain⟨z,d,l⟩:=aAk.mp d;rw[aDg]at e;obtain⟨m,n,o⟩:=e;obtain⟨B,q,r⟩:=aAk.mp k;obtain⟨C,s,t⟩:=aAk.mp d;obtain⟨D,u,v⟩:=aAk.mp n;refine⟨p,by simp,B,q,C,s,D,u,?_⟩;rw[r,t,v];have a:b9 g m≠0:=by simpa using o
     rw[<-l,S5]at a;exact a
    .cases h
def NW (h:T0 j≠3):¬j5 j:=by
 rintro⟨A,k,B,l,C,m,D,o,v⟩;match j,h,k,l,m,o with
 |p::f,h,k,l,m,o=>
  unfold T0 at h;dsimp only at h;have r:∀X∈p::f,X-p∈(p::f).map (· -p):=λX b=>aAk.mpr ⟨X,b,rfl⟩;have d:∀n:V,n≠0->(∀X∈p::f,b9 n (X-p)=0)->False:=λn w s=>by
   have q:∀X∈p::f,b9 n (X-A)=0:=λX b=>by have g:=s X b;have i:=s A k;rw[d8]at*;lia
   exact v (x8 w (q B l) (q C m)<|q D o)
  split at h
  .rename_i g;have z:=M8 g;refine d ⟨1,0,0⟩ (λe=>by have:=la V.x e;simp at this) λX b=>?_;rw[z _ (r X b)];exact C3 _
  .rename_i a g;obtain⟨L,y⟩:=t8 g;split at h
   .rename_i i;have z:=M8 i;have E:∀X∈p::f,cr a (X-p)=0:=λX b=>z _ (aAk.mpr ⟨_,r X b,rfl⟩);obtain⟨u,H,N⟩:∃u:V,cr a u≠0/\True:=by
     rcases gC y with q|q|q
     .exact⟨⟨0,1,0⟩,λe=>q (by have:=la V.z e;simpa using this),trivial⟩
     .exact⟨⟨1,0,0⟩,λe=>q (by have:=la V.z e;simpa using this),trivial⟩
     .exact⟨⟨0,1,0⟩,λe=>q (by have:=la V.x e;simpa using this),trivial⟩
    refine d (cr a u) H λX b=>?_;rw[S5,gU (E X b)]
   .rename_i t i;obtain⟨O,I⟩:=t8 i;split at h
    .exact h rfl
    .rename_i J;refine d t I λX b=>?_;by_cases z:b9 t (X-p)=0
     .exact z
     .exact absurd (aDg.mpr ⟨X-p,r X b,by simpa using z⟩) J
def LH (h:T0 j<2):∀X∈j,∀Y∈j,∀Z∈j,cr (Y-X) (Z-X)=0:=by
 match j,h with
 |[],_=>intro X b;cases b
 |p::d,h=>
  unfold T0 at h;dsimp only at h;have m:∀X∈p::d,X-p∈(p::d).map (· -p):=λX b=>aAk.mpr ⟨X,b,rfl⟩;intro X b Y n Z q;split at h
  .rename_i i;have z:=M8 i;have e:∀W∈p::d,W=p:=λW l=>by have:=z _ (m W l);have f:=la V.x this;have g:=la V.y this;have r:=la V.z this;simp at f g r;exact ext (by lia) (by lia) (by lia)
   rw[e X b,e Y n,u0];apply ext<;>simp
  .rename_i a i;obtain⟨H,s⟩:=t8 i;split at h
   .rename_i t;have z:=M8 t;have o:∀X∈p::d,cr a (X-p)=0:=λX b=>z _ (aAk.mpr ⟨_,m X b,rfl⟩);have k:∀U∈p::d,∀W∈p::d,cr (U-W) a=0:=λU u W l=>by have f:=o U u;have g:=o W l;have v:=la V.x f;have w:=la V.y f;have A:=la V.z f;have B:=la V.x g;have C:=la V.y g;have E:=la V.z g;simp at v w A B C E;apply ext<;>simp<;>grind
    exact fY s (k Y n X b) (k Z q X b)
   .split at h<;>lia
def IR (h:2<=T0 j):∃X∈j,∃Y∈j,∃Z∈j,cr (Y-X) (Z-X)≠0:=by
 match j,h with
 |[],h=>exact absurd h (by simp[T0])
 |p::o,h=>
  unfold T0 at h;dsimp only at h;split at h
  .lia
  .rename_i a d;obtain⟨e,q⟩:=t8 d;split at h
   .lia
   .rename_i r f;obtain⟨b,g⟩:=t8 f;obtain⟨s,b,i⟩:=aAk.mp b;obtain⟨B,k,l⟩:=aAk.mp e;obtain⟨C,m,n⟩:=aAk.mp b;exact⟨p,by simp,B,k,C,m,by rw[l,n,i];exact g⟩
def j5.off (h:j5 j)(f:n≠0):∃Z∈j,b9 n Z≠d:=by
 obtain⟨A,g,B,i,C,k,D,l,m⟩:=h;by_cases a:b9 n A=d
 .by_cases b:b9 n B=d
  .by_cases c:b9 n C=d
   .by_cases e:b9 n D=d
    .exact absurd (x8 f (by rw[d8];lia) (by rw[d8];lia) (by rw[d8];lia)) m
    .exact⟨D,l,e⟩
   .exact⟨C,k,c⟩
  .exact⟨B,i,b⟩
 .exact⟨A,g,a⟩
def j5.below (h:j5 j)(b:n≠0)(f:∀X∈j,b9 n X<=d):∃Z∈j,b9 n Z<d:=by obtain⟨Z,a,e⟩:=h.off (d:=d) b;exact⟨Z,a,by have:=f Z a;lia⟩
def kk:V:=⟨0,0,1⟩
def f6 (m:V)(j:List V):V×V:=
 let u:=b7 m (m+kk) j
 let a:=o8 u.1 u.2 j
 if T0 a=2 then(m,m+kk)else(a.getD 0 0,a.getD 1 0)
def DW:ConeM kk (λw=>0<w.x\/(w.x=0/\0<w.y))where
 add:=λ{u v} d e=>by simp;lia
 mul:=λ{k u} a h=>by
  simp;rcases h with h|⟨h,b⟩
  .exact .inl (aBk a h)
  .exact .inr ⟨by rw[h];simp,aBk a b⟩
 irr:=by simp
 inv:=λ{u} k h=>by simpa[kk]using h
def CH (h:b9 n a=0):ConeM a (λw=>b9 n w<0)where
 add:=λ{u v} e f=>by rw[v9];lia
 mul:=λ{k u} b h=>by rw[i7];exact aAz b h
 irr:=by rw[C3];lia
 inv:=λ{u} k d=>by rw[v9,i7,h];simpa using d
def K7 (m k:V):m+k-m=k:=ext (by simp;lia) (by simp;lia) (by simp;lia)
def V7 (Q:j5 j)(ho:j.Pairwise (λa b=>e9 (b-a)))(hm:m∈j)(hl:∀X∈j,X=m\/e9 (X-m)):
  IsFace j (b7 (f6 m j).1 (f6 m j).2 j).1 (b7 (f6 m j).1 (f6 m j).2 j).2:=by
 have C:ConeM (m+kk-m) (λw=>0<w.x\/(w.x=0/\0<w.y)):=by rw[K7];exact DW
 have ai:m+kk-m≠0:=by rw[K7];intro e;have:=la V.z e;simp[kk]at this
 have T:∀P∈j,(0<(P-m).x\/((P-m).x=0/\0<(P-m).y))\/cr (m+kk-m) (P-m)=0:=λP E=>by
  rw[K7];rcases hl P E with e|e
  .right;subst e;rw[u0];apply ext<;>simp
  .unfold e9 at e;rcases e with e|⟨U,e|⟨e2,e3⟩⟩
   .exact .inl (.inl e)
   .exact .inl (.inr ⟨U,e⟩)
   .right;apply ext
    .simp[kk];simp at e2;lia
    .simp[kk];simp at U;lia
    .simp[kk]
 have hx:∃P∈j,0<(P-m).x\/((P-m).x=0/\0<(P-m).y):=by
  by_cases z:∃P∈j,0<(P-m).x\/((P-m).x=0/\0<(P-m).y)
  .exact z
  .exfalso;obtain⟨Z,f,e⟩:=Q.off (n:=⟨1,0,0⟩) (d:=m.x) (λe=>by have:=la V.x e;simp at this);have w:=(T Z f).resolve_left λq=>z ⟨Z,f,q⟩;rw[K7]at w;have:=la V.y w;simp[kk]at this;simp[b9]at e
   lia
 obtain⟨l,g,o1,o2,g0,ge,J,gd,h,sB,sO,sP⟩:=U3 C ai T hx;have i:m∈o8 (b7 m (m+kk) j).1 (b7 m (m+kk) j).2 j:=c6.mpr ⟨hm,gd.symm⟩;have o:l∈o8 (b7 m (m+kk) j).1 (b7 m (m+kk) j).2 j:=c6.mpr ⟨o1,sO⟩;have L:m≠l:=λe=>by subst e;rw[u0]at o2;simp at o2
 by_cases h2:T0 (o8 (b7 m (m+kk) j).1 (b7 m (m+kk) j).2 j)=2
 .have e:f6 m j=(m,m+kk):=by unfold f6;simp only[h2,if_true]
  rw[e];obtain⟨X,H,Y,I,Z,f,hc⟩:=IR (j:=o8 (b7 m (m+kk) j).1 (b7 m (m+kk) j).2 j) (by lia);have H:=c6.mp H;have I:=c6.mp I;have f:=c6.mp f;exact⟨J,h,X,H.1,Y,I.1,Z,f.1,H.2,I.2,f.2,hc⟩
 .
  have h1:T0 (o8 (b7 m (m+kk) j).1 (b7 m (m+kk) j).2 j)≠3:=λz=>by obtain⟨A,hA,B,hB,C,hC,D,hD,hd⟩:=IP z;have hA:=c6.mp hA;have hB:=c6.mp hB;have hC:=c6.mp hC;have hD:=c6.mp hD;exact hd (x8 J.ne (by rw[d8];lia) (by rw[d8];lia) (by rw[d8];lia))
  have ao:T0 (o8 (b7 m (m+kk) j).1 (b7 m (m+kk) j).2 j)<2:=by
   have:T0 (o8 (b7 m (m+kk) j).1 (b7 m (m+kk) j).2 j)<=3:=by
    generalize o8 (b7 m (m+kk) j).1 (b7 m (m+kk) j).2 j=t;unfold T0;split
    .lia
    .dsimp only;split
     .lia
     .split
      .lia
      .split<;>lia
   lia
  have p:=LH ao;have e:f6 m j=((o8 (b7 m (m+kk) j).1 (b7 m (m+kk) j).2 j).getD 0 0,(o8 (b7 m (m+kk) j).1 (b7 m (m+kk) j).2 j).getD 1 0):=by unfold f6;simp only[h2,if_false]
  rw[e];have ord:(o8 (b7 m (m+kk) j).1 (b7 m (m+kk) j).2 j).Pairwise (λa b=>e9 (b-a)):=aGd _ ho;have k:∀X,X∈o8 (b7 m (m+kk) j).1 (b7 m (m+kk) j).2 j↔X∈j/\b9 (b7 m (m+kk) j).1 X=(b7 m (m+kk) j).2:=λX=>c6;generalize o8 (b7 m (m+kk) j).1 (b7 m (m+kk) j).2 j=t at*
  match t,i,o with
  |[],i,_=>cases i
  |[x],i,o=>simp at i o;exact absurd (i.trans o.symm) L
  |x::y::r,i,o=>
   dsimp only[List.getD_cons_zero,List.getD_cons_succ];have s:e9 (y-x):=(aAA.mp ord).1 y (by simp);have ox:=(k x).mp (by simp);have oy:=(k y).mp (by simp);have xp:y-x≠0:=λz=>by rw[z]at s;exact y7.irr s
   have na:b9 (b7 m (m+kk) j).1 (y-x)=0:=by rw[d8];lia
   have C2:=CH na;obtain⟨Z,f,hz⟩:=Q.below J.ne h;obtain⟨u,g2,p1,p2,p0,pe,pp,pd,v,N,O,sP2⟩:=U3 C2 xp (j:=j) (λP E=>by
    have:=h P E;by_cases q:b9 (b7 m (m+kk) j).1 P<(b7 m (m+kk) j).2
    .exact .inl (by rw[d8];lia)
    .exact .inr (p x (by simp) y (by simp) P ((k P).mpr ⟨E,by lia⟩))) ⟨Z,f,by rw[d8];lia⟩
   exact⟨pp,v,x,ox.1,y,oy.1,u,p1,pd.symm,N,O,C2.ad0 xp p2⟩
def T2 {a b:V}(h:a-b=0):a=b:=by have d:=la V.x h;have e:=la V.y h;have f:=la V.z h;simp at d e f;exact ext (by lia) (by lia) (by lia)
def IsFace.aa2 (f:j.Pairwise (λa b=>e9 (b-a)))(h:IsFace j n d):Sheet n (o8 n d j)where
 nz:=h.prim.ne
 pl:=λX g Y i=>by have:=(c6.mp g).2;have:=(c6.mp i).2;rw[d8];lia
 ord:=aGd _ f
 two:=by obtain⟨A,k,B,l,C,m,a,b,c,e⟩:=h.three;refine⟨A,c6.mpr ⟨k,a⟩,B,c6.mpr ⟨l,b⟩,λz=>e ?_⟩;subst z;rw[u0];apply ext<;>simp
def IsFace.ac9 {j:List V}{n:V}{d:Int}(h:IsFace j n d){a b:V}(f:EdgeOf n (λX=>X∈o8 n d j) a b):∃X∈o8 n d j,0<f7 n (b-a) (X-a):=by
 by_cases z:∃X∈o8 n d j,0<f7 n (b-a) (X-a)
 .exact z
 .exfalso;have w:=h.prim.ne;obtain⟨pa,da⟩:=c6.mp f.p;obtain⟨pb,db⟩:=c6.mp f.q;have g:b9 n (b-a)=0:=by rw[d8];lia
  have E:b-a≠0:=λe=>f.ne (T2 e).symm;have k:∀X∈j,b9 n X=d->cr (b-a) (X-a)=0:=λX i m=>by have s:=c6.mpr ⟨i,m⟩;have l:=f.left X s;have l':¬0<f7 n (b-a) (X-a):=λq=>z ⟨X,s,q⟩;exact U6 w g (by rw[d8];lia) (by lia)
  obtain⟨A,t,B,H,C,I,u,J,L,e⟩:=h.three;have v:∀X∈j,b9 n X=d->∀Y∈j,b9 n Y=d->cr (X-Y) (b-a)=0:=λX i m Y N O=>by have o:=k X i m;have r:=k Y N O;have Q:=la V.x o;have T:=la V.y o;have U:=la V.z o;have b1:=la V.x r;have b2:=la V.y r;have b3:=la V.z r;simp at Q T U b1 b2 b3;apply ext<;>simp<;>grind
  exact e (fY E (v B H J A t u)<|v C I L A t u)
def PC (o:j5 j)(f:IsFace j n d)(g:IsFace j m e)(i:EdgeOf n (λX=>X∈o8 n d j) a b)(h:EdgeOf m (λX=>X∈o8 m e j) b a)(k:X∈o8 n d j)(l:0<f7 n (b-a) (X-a)):b9 m X<e:=by
 obtain⟨r,s⟩:=c6.mp k;have B:=g.sup X r;by_cases z:b9 m X=e
 .exfalso;obtain⟨C,t⟩:=c6.mp i.p;obtain⟨pb,u⟩:=c6.mp i.q;obtain⟨_,v⟩:=c6.mp h.q;obtain⟨_,w⟩:=c6.mp h.p;obtain⟨Z,x,y⟩:=o.below f.prim.ne f.sup;have A:cr (b-a) (X-a)≠0:=λq=>by unfold f7 at l;rw[q,C3]at l;lia
  obtain⟨rfl,rfl⟩:=gS f.prim g.prim f.sup g.sup t u s v w z A x y;have:=h.left X k;have E:f7 n (a-b) (X-b)=-f7 n (b-a) (X-a):=by simp[f7,b9];grind
  lia
 .lia
def zI:List V->V
 |[]=>0
 |X::l=>X+zI l
theorem pR (n:V):∀l:List V,b9 n (zI l)=(l.map (b9 n)).sum
 |[]=>C3 n
 |X::l=>by simp only[zI,aAv,aCa];rw[v9,pR n l]
theorem BM {α:Type}(f g:α->Int):∀l:List α,(∀x∈l,f x<=g x)->(l.map f).sum<=(l.map g).sum
 |[],_=>aBZ _
 |x::l,h=>by
  simp only[aAv,aCa];have:=h x (by simp);have:=BM f g l (λy a=>h y (aAe _ a))
  lia
theorem AR {α:Type}(f g:α->Int):∀l:List α,(∀x∈l,f x<=g x)->(∃x∈l,f x<g x)->(l.map f).sum<(l.map g).sum
 |[],_,⟨x,b,_⟩=>by cases b
 |x::l,h,⟨y,a,d⟩=>by
  simp only[aAv,aCa];have i:=h x (by simp);have j:=BM f g l (λy a=>h y (aAe _ a));rcases aAd.mp a with e|e
  .subst e;lia
  .have:=AR f g l (λy a=>h y (aAe _ a)) ⟨y,e,d⟩
   lia
theorem aF {α:Type}(c:Int):∀l:List α,(l.map λ_=>c).sum=(l.length:Int)*c
 |[]=>by simp
 |x::l=>by simp only[aAv,aCa,aAt];rw[aF c l];push_cast;grind
def B6 (j:List V)(X:V):V:=(j.length:Int)*X-zI j
def S1 (j:List V)(n:V)(d:Int):Int:=(j.length:Int)*d-b9 n (zI j)
def uG (j:List V)(n X:V):b9 n (B6 j X)=(j.length:Int)*b9 n X-b9 n (zI j):=by unfold B6;rw[d8,i7]
def dQ (a:j5 j)(b:n≠0)(h:∀X∈j,b9 n X<=d):0<S1 j n d:=by
 unfold S1;rw[pR,<-aF];have:=AR (b9 n) (λ_=>d) j h (a.below b h)
 lia
def len_pos (a:j5 j):0<(j.length:Int):=by
 obtain⟨A,b,_⟩:=a;have:0<j.length:=aDn b
 lia
def Y8 (h:b9 n X=d):b9 n (B6 j X)=S1 j n d:=by rw[uG,h];rfl
def nH (h:b9 n X<=d):b9 n (B6 j X)<=S1 j n d:=by
 rw[uG];unfold S1;have:=aAI h (show(0:Int)<=j.length by lia)
 lia
def MP (a:0<(j.length:Int))(h:b9 n X<d):b9 n (B6 j X)<S1 j n d:=by
 rw[uG];unfold S1;have:=aEP h a
 lia
def QZ (j:List V)(a b X:V):f7 (B6 j a) (B6 j b) (B6 j X)=(j.length:Int)*(j.length:Int)*b9 (B6 j a) (cr (b-a) (X-a)):=by unfold B6;generalize(j.length:Int)=N;generalize zI j=s;simp[f7,b9];grind
def zH (h:cr w c=0)(x y:V):b9 w y*b9 c x=b9 w x*b9 c y:=by
 have e:b9 w y*b9 c x-b9 w x*b9 c y=b9 (cr w c) (cr y x):=by simp[b9];grind
 rw[h]at e;have:b9 0 (cr y x)=0:=by simp[b9]
 lia
def DV (e:j5 j)(f:IsFace j n d)(k:b9 n a=d)(r:b9 n b=d)(s:b9 n X=d)(h:0<f7 n (b-a) (X-a)):0<f7 (B6 j a) (B6 j b) (B6 j X):=by
 rw[QZ];have g:=len_pos e;refine aBk (aBk g g) ?_;have i:=f.prim.ne;have p:cr n (cr (b-a)<|X-a)=0:=C4 (by rw[d8];lia) (by rw[d8];lia);have q:=zH p n (B6 j a);have l:0<b9 n (B6 j a):=by rw[Y8 k];exact dQ e i f.sup
 have m:0<b9 (cr (b-a)<|X-a) n:=by rw[cF];exact h
 have t:=aBk l m;have o:=v6 i;rw[cF (B6 j a)];by_cases z:0<b9 (cr (b-a)<|X-a) (B6 j a)
 .exact z
 .exfalso;have:b9 n n*b9 (cr (b-a)<|X-a) (B6 j a)<=0:=by have:=aAI (show b9 (cr (b-a)<|X-a) (B6 j a)<=0 by lia) (aAO o);simpa using this
  lia
def VC (f:j5 j)(g:IsFace j n d)(k:IsFace j m e)(h:EdgeOf n (λX=>X∈o8 n d j) a b)(l:EdgeOf m (λX=>X∈o8 m e j) b a)(Q:b9 m B*S1 j n d<=b9 n B*S1 j m e):0<=f7 (B6 j a) (B6 j b) B:=by
 obtain⟨X,o,t⟩:=g.ac9 h;have x:=PC f g k h l o t;obtain⟨T,u⟩:=c6.mp o;obtain⟨U,v⟩:=c6.mp h.p;obtain⟨pb,w⟩:=c6.mp h.q;obtain⟨_,A⟩:=c6.mp l.q;obtain⟨_,C⟩:=c6.mp l.p;have c0:=dQ f g.prim.ne g.sup;have Y:=dQ f k.prim.ne k.sup;have E:=DV f g v w u t;by_cases z:0<=f7 (B6 j a) (B6 j b) B
 .exact z
 .exfalso;have i:∀y,b9 (S1 j n d*m-S1 j m e*n) y=S1 j n d*b9 m y-S1 j m e*b9 n y:=λy=>by rw[cF,d8,i7,i7,cF y m,cF y n]
  have H:b9 (S1 j n d*m-S1 j m e*n) (B6 j a)=0:=by rw[i,Y8 v,Y8 A];grind
  have I:b9 (S1 j n d*m-S1 j m e*n) (B6 j b)=0:=by rw[i,Y8 w,Y8 C];grind
  have J:b9 (S1 j n d*m-S1 j m e*n) (B6 j X)<0:=by
   rw[i,Y8 u];have L:=MP (len_pos f) x;have:=aEP L c0;have e1:S1 j m e*S1 j n d=S1 j n d*S1 j m e:=aGK _ _
   lia
  have p:=zH (C4 H I) (B6 j X) B;have N:b9 (cr (B6 j a)<|B6 j b) (B6 j X)=f7 (B6 j a) (B6 j b) (B6 j X):=S5 _ _ _;have O:b9 (cr (B6 j a)<|B6 j b) B=f7 (B6 j a) (B6 j b) B:=S5 _ _ _;rw[N,O]at p;have r:0<b9 (S1 j n d*m-S1 j m e*n) (B6 j X)*f7 (B6 j a) (B6 j b) B:=aBE J (by lia);rw[<-p]at r;have s:0<b9 (S1 j n d*m-S1 j m e*n) B:=by
   by_cases q:0<b9 (S1 j n d*m-S1 j m e*n) B
   .exact q
   .have:=aAR (show b9 (S1 j n d*m-S1 j m e*n) B<=0 by lia) (aAO E);simp at this;lia
  rw[i]at s;have e4:b9 m B*S1 j n d=S1 j n d*b9 m B:=aGK _ _;have e5:b9 n B*S1 j m e=S1 j m e*b9 n B:=aGK _ _
  lia
def CB {a b c d e f:Int}(g:0<b)(h:0<d)(i:0<f)(j:a*d<=c*b)(k:c*f<=e*d):a*f<=e*b:=by
 have m:=aAR j (aAO i);have n:=aAR k (aAO g);have l:(a*f)*d<=(e*b)*d:=by grind
 exact aEQ l h
theorem FN {α:Type}(p q:α->Int):∀(l:List α),l≠[]->(∀x∈l,0<q x)->∃x∈l,∀y∈l,p y*q x<=p x*q y
 |[],h,_=>absurd rfl h
 |[x],_,_=>⟨x,by simp,λy d=>by simp at d;subst d;exact aBZ _⟩
 |x::y::l,_,b=>by
  obtain⟨z,f,h⟩:=FN p q (y::l) (by simp) (λw a=>b w (aAe _ a));by_cases c:p x*q z<=p z*q x
  .refine⟨z,aAe _ f,λw a=>?_⟩;rcases aAd.mp a with e|e
   .subst e;exact c
   .exact h w e
  .refine⟨x,by simp,λw a=>?_⟩;rcases aAd.mp a with e|e
   .subst e;exact aBZ _
   .exact CB (b w a) (b z<|aAe _ f) (b x (by simp)) (h w e) (by lia)
theorem mj (h:V->Int):∀(x:V) (l:List V),0<=h x->(∀z,(x::l).getLast?=some z->h z<=0)->l≠[]->∃u v,(u,v)∈t4 (x::l)/\0<=h u/\h v<=0
 |x,[],_,_,b=>absurd rfl b
 |x,y::r,d,a,_=>by
  by_cases c:h y<=0
  .exact⟨x,y,by simp[t4],d,c⟩
  .match r,a with
   |[],a=>exact absurd (a y rfl) c
   |z::r,a=>obtain⟨u,v,m,p⟩:=mj h y (z::r) (by lia) (λw e=>a w (by rw[aBn];exact e)) (by simp);exact⟨u,v,by simp only[t4]at m⊢;exact aAe _ m,p⟩
theorem kX:∀(l:List V) (x z w:V),(x::l).getLast?=some z->(z,w)∈t4 (x::l++[w])
 |[],x,z,w,h=>by simp at h;subst h;simp[t4]
 |y::l,x,z,w,h=>by rw[aBn]at h;have:=kX l y z w h;simp only[aBr,t4]at this⊢;exact aAe _ this
theorem fL:∀(l:List V) (x w:V),∀e∈t4 (x::l),e∈t4 (x::l++[w])
 |[],x,w,e,h=>by simp[t4]at h
 |y::l,x,w,e,h=>by
  simp only[aBr,t4]at h⊢;rcases aAd.mp h with q|q
  .subst q;simp
  .exact aAe _ (fL l y w e q)
def O5 (g:j.Pairwise (λa b=>e9 (b-a)))(f:IsFace j n d):∃r s t l,j8 n (o8 n d j)=r::s::t::l:=by
 have S:=f.aa2 g;obtain⟨r,l,e,_⟩:=S.aa9;match l,e with
 |[],e=>
  have h:(r,r)∈J2 (j8 n<|o8 n d j):=by rw[e];simp[J2]
  exact absurd rfl (S.pair h).ne
 |[s],e=>
  have i:(r,s)∈J2 (j8 n<|o8 n d j):=by rw[e];simp[J2]
  have k:(s,r)∈J2 (j8 n<|o8 n d j):=by rw[e];simp[J2]
  have m:=S.pair i;have o:=S.pair k;obtain⟨X,p,q⟩:=f.ac9 m;have:=o.left X p;have u:f7 n (r-s) (X-s)=-f7 n (s-r) (X-r):=by simp[f7,b9];grind
  lia
 |s::t::l,e=>exact⟨r,s,t,l,e⟩
def rW (N:j5 j)(ho:j.Pairwise (λa b=>e9 (b-a)))(fs:List (V×Int))(ai:fs≠[])(hf:∀f∈fs,IsFace j f.1 f.2)(hc:∀f∈fs,∀a b,EdgeOf f.1 (λX=>X∈o8 f.1 f.2 j) a b->∃g∈fs,EdgeOf g.1 (λX=>X∈o8 g.1 g.2 j) b a)(E:IsFace j n d):(n,d)∈fs:=by
 obtain⟨B,hBd⟩:∃B,B=zI ((o8 n d j).map (B6 j)):=⟨_,rfl⟩;have dB:∀m,b9 m B=((o8 n d j).map λX=>b9 m (B6 j X)).sum:=λm=>by rw[hBd,pR,aBK];rfl
 have cn:=dQ N E.prim.ne E.sup;have ub:∀m e,(∀X∈j,b9 m X<=e)->b9 m B<=((o8 n d j).length:Int)*S1 j m e:=λm e hm=>by rw[dB,<-aF];exact BM _ _ _ λX i=>nH (hm X (c6.mp i).1)
 have eB:b9 n B=((o8 n d j).length:Int)*S1 j n d:=by rw[dB,<-aF];congr 1;exact List.map_congr_left λX i=>Y8 (c6.mp i).2
 obtain⟨⟨m,e⟩,hm,htop⟩:=FN (λf:V×Int=>b9 f.1 B) (λf=>S1 j f.1 f.2) fs ai λf h=>dQ N (hf f h).prim.ne (hf f h).sup;have k:=hf _ hm;have O:∀a b,EdgeOf m (λX=>X∈o8 m e j) a b->0<=f7 (B6 j a) (B6 j b) B:=λa b hab=>by obtain⟨g,hg,yr⟩:=hc _ hm a b hab;exact VC N k (hf g hg) hab yr (htop g hg)
 have S:=k.aa2 ho;obtain⟨r,s,t,l,er⟩:=O5 ho k;have nd:=S.aa4;have pr:=λ{P Q}=>S.aa1 (P:=P) (Q:=Q);rw[er]at pr nd;have rm:r∈j8 m (o8 m e j):=by rw[er];simp
 have on:∀X∈r::s::t::l,b9 m X=e:=λX i=>by rw[<-er]at i;exact(c6.mp<|S.aa3 i).2
 obtain⟨z,hz⟩:∃z,(s::t::l).getLast?=some z:=by simp[aEV]
 have c1:(r,s)∈J2 (r::s::t::l):=by rw[V3];simp[t4]
 have c2:(z,r)∈J2 (r::s::t::l):=by rw[V3];exact kX _ _ _ _ (by rw[aBn];exact hz)
 have w1:=O _ _ (pr.mp c1);have w2:=O _ _ (pr.mp c2);obtain⟨u,v,T,hu,hv⟩:=mj (λX=>f7 (B6 j r) (B6 j X) B) s (t::l) w1 (λy hy=>by
  have:y=z:=Option.some.inj (hy.symm.trans hz);subst this;have e1:f7 (B6 j r) (B6 j y) B=-f7 (B6 j y) (B6 j r) B:=by simp[f7,b9];grind
  lia) (by simp)
 have c3:(u,v)∈J2 (r::s::t::l):=by rw[V3];have:=fL (t::l) s r _ T;simp only[aBr,t4]at this⊢;exact aAe _ this
 have g3:=pr.mp c3;have U:u∈s::t::l/\v∈s::t::l:=by
  have:=T;have hh:∀(l:List V) (p q:V),(p,q)∈t4 l->p∈l/\q∈l:=λl=>by
   induction l with
   |nil=>intro p q h;simp[t4]at h
   |cons x l ih=>
    intro p q h;match l,h,ih with
    |[],h,_=>simp[t4]at h
    |y::l,h,ih=>
     simp only[t4]at h;rcases aAd.mp h with c|c
     .cases c;simp
     .have:=ih p q c;exact⟨aAe _ this.1,aAe _ this.2⟩
  exact hh _ _ _ T
 have nr:=(aAG.mp nd).1;have ru:r≠u:=λq=>by subst q;exact nr U.1
 have rv:r≠v:=λq=>by subst q;exact nr U.2
 have st:=S.strict g3 rm ru rv;have du:=on u (aAe _ U.1);have dv:=on v (aAe _ U.2);have dr:=on r (by simp);have D0:=DV N k du dv dr st;have w3:=O _ _ g3;have o:=BZ B (B6 j r) (B6 j u) (B6 j v);have a1:f7 B (B6 j u) (B6 j v)=f7 (B6 j u) (B6 j v) B:=by simp[f7,b9];grind
 have a2:f7 B (B6 j v) (B6 j r)=-f7 (B6 j r) (B6 j v) B:=by simp[f7,b9];grind
 have a3:f7 B (B6 j r) (B6 j u)=f7 (B6 j r) (B6 j u) B:=by simp[f7,b9];grind
 have a4:f7 (B6 j r) (B6 j u) (B6 j v)=f7 (B6 j u) (B6 j v) (B6 j r):=by simp[f7,b9];grind
 rw[a1,a2,a3,a4]at o;obtain⟨H,hal⟩:∃H,H=f7 (B6 j u) (B6 j v) B:=⟨_,rfl⟩;obtain⟨I,yu⟩:∃I,I=-f7 (B6 j r) (B6 j v) B:=⟨_,rfl⟩;obtain⟨J,hga⟩:∃J,J=f7 (B6 j r) (B6 j u) B:=⟨_,rfl⟩;obtain⟨w,hDe⟩:∃w,w=f7 (B6 j u) (B6 j v) (B6 j r):=⟨_,rfl⟩;rw[<-hal,<-yu,<-hga,<-hDe]at o;have al0:0<=H:=by lia
 have be0:0<=I:=by lia
 have ga0:0<=J:=by lia
 have De0:0<w:=by lia
 have cd:∀f:V,w*b9 f B=J*b9 f (B6 j v)+H*b9 f (B6 j r)+I*b9 f (B6 j u):=λf=>by
  have:=la (b9 f) o;rw[v9,v9,i7,i7,i7,i7]at this
  lia
 have q1:=cd m;rw[Y8 dr,Y8 du,Y8 dv]at q1;have q2:=cd n;have cm:=dQ N k.prim.ne k.sup;have pt:∀X∈r::s::t::l,X∈j:=λX i=>by rw[<-er]at i;exact(c6.mp<|S.aa3 i).1
 have r1:=nH (j:=j) (E.sup r (pt r (by simp)));have r2:=nH (j:=j) (E.sup u<|pt u<|aAe _ U.1);have r3:=nH (j:=j) (E.sup v<|pt v<|aAe _ U.2);have s1:=aAI r1 al0;have s2:=aAI r2 be0;have s3:=aAI r3 ga0;obtain⟨L,hL⟩:∃L:Int,L=((o8 n d j).length:Int):=⟨_,rfl⟩;have ub1:=ub m e k.sup;rw[<-hL]at eB ub1;have k1:w*L<=H+I+J:=by
  have:(w*L)*S1 j n d<=(H+I+J)*S1 j n d:=by
   rw[eB]at q2;have e1:w*L*S1 j n d=w*(L*S1 j n d):=aFy _ _ _;have e2:(H+I+J)*S1 j n d=H*S1 j n d+I*S1 j n d+J*S1 j n d:=by grind
   lia
  exact aEQ this cn
 have k2:w*b9 m B=(H+I+J)*S1 j m e:=by rw[q1];grind
 have k3:(w*L)*S1 j m e<=w*b9 m B:=by rw[k2];exact aAR k1 (aAO cm)
 have k4:L*S1 j m e<=b9 m B:=by rw[aFy]at k3;exact aFg k3 De0
 have all:∀X∈o8 n d j,b9 m X=e:=λX i=>by
  have le:b9 m X<=e:=k.sup X (c6.mp i).1;by_cases z:b9 m X=e
  .exact z
  .exfalso;have:=AR (λX=>b9 m (B6 j X)) (λ_=>S1 j m e) (o8 n d j) (λY hY=>nH (k.sup Y (c6.mp hY).1)) ⟨X,i,MP (len_pos N) (by lia)⟩;rw[<-dB,aF,<-hL]at this
   lia
 obtain⟨A,hA,B',hB',C,hC,ea,eb,ec,hcr⟩:=E.three;obtain⟨Z,hZ,hz⟩:=N.below E.prim.ne E.sup;obtain⟨rfl,rfl⟩:=gS E.prim k.prim E.sup k.sup ea eb ec (all A<|c6.mpr ⟨hA,ea⟩) (all B'<|c6.mpr ⟨hB',eb⟩) (all C<|c6.mpr ⟨hC,ec⟩) hcr hZ hz;exact hm
def d4 (j:List V)(f:V×Int):List V:=j8 f.1 (o8 f.1 f.2 j)
structure LInv (j:List V)(p0:V×V)(fs:List (V×Int))(walked:V×V->Prop)(waiting:List (V×V)):Prop where
 face:∀f∈fs,IsFace j f.1 f.2
 nd:fs.Nodup
 wk:∀e,walked e↔∃f∈fs,e∈J2 (d4 j f)
 cl:∀f∈fs,∀a b,(a,b)∈J2 (d4 j f)->(∃g∈fs,(b,a)∈J2 (d4 j g))\/(b,a)∈waiting
 wt:∀p∈waiting,(∃f∈fs,(p.2,p.1)∈J2 (d4 j f))\/(fs=[]/\p=p0)
 ne:fs=[]->waiting=[p0]
structure Good (j:List V)(m:V):Prop where
 solid:j5 j
 ord:j.Pairwise (λa b=>e9 (b-a))
 mem:m∈j
 least:∀X∈j,X=m\/e9 (X-m)
section
variable{j:List V} {m:V} (G:Good j m) {fs:List (V×Int)} {walked:V×V->Prop} {waiting rest:List (V×V)} {p:V×V}
include G
theorem DH:LInv j (f6 m j) [] (λ_=>False) [f6 m j]where
 face:=λf h=>by cases h
 nd:=aDl
 wk:=λe=>⟨λh=>h.elim,λ⟨f,h,_⟩=>by cases h⟩
 cl:=λf h=>by cases h
 wt:=λq h=>.inr ⟨rfl,by simpa using h⟩
 ne:=λ_=>rfl
theorem MW (h:LInv j (f6 m j) fs walked waiting)(k:waiting=rest++[p])(l:walked p):LInv j (f6 m j) fs walked rest:=by
 have i:∀q,q∈waiting↔q=p\/q∈rest:=λq=>by rw[k];simp[or_comm]
 obtain⟨n,d,o⟩:=(h.wk p).mp l;have r:fs≠[]:=λe=>by subst e;cases d
 refine⟨h.face,h.nd,h.wk,λf s a b g=>?_,λq t=>h.wt q ((i q).mpr (.inr t)),λe=>absurd e r⟩;rcases h.cl f s a b g with q|q
 .exact .inl q
 .rcases(i (b,a)).mp q with z|z
  .subst z;exact .inl ⟨n,d,o⟩
  .exact .inr z
theorem wY (h:LInv j (f6 m j) fs walked waiting)(e:p∈waiting)(g:¬walked p):IsFace j (b7 p.1 p.2 j).1 (b7 p.1 p.2 j).2/\b7 p.1 p.2 j∉fs/\(fs≠[]->p∈J2 (d4 j (b7 p.1 p.2 j))):=by
 rcases h.wt p e with⟨f,i,k⟩|⟨l,n⟩
 .have a:=h.face f i;have S:=a.aa2 G.ord;have o:=S.aa1.mp k;obtain⟨b,q⟩:=rK a.prim.ne a.sup (G.solid.below a.prim.ne a.sup) o;have r:=b.aa2 G.ord;have d:p∈J2 (d4 j<|b7 p.1 p.2 j):=r.aa1.mpr q;exact⟨b,λz=>g ((h.wk p).mpr ⟨_,z,d⟩),λ_=>d⟩
 .subst l n;exact⟨V7 G.solid G.ord G.mem G.least,by simp,λz=>absurd rfl z⟩
theorem MQ (h:LInv j (f6 m j) fs walked waiting)(o:waiting=rest++[p])(s:¬walked p){walked':V×V->Prop}(t:∀e,walked' e↔walked e\/e∈J2 (d4 j (b7 p.1 p.2 j)))(l:∀q,q∈waiting'↔q∈rest\/(q.2,q.1)∈J2 (d4 j (b7 p.1 p.2 j))):
  LInv j (f6 m j) (fs++[b7 p.1 p.2 j]) walked' waiting':=by
 have n:∀q,q∈waiting↔q=p\/q∈rest:=λq=>by rw[o];simp[or_comm]
 obtain⟨u,v,w⟩:=wY G h ((n p).mpr (.inl rfl)) s;refine⟨λf d=>?_,?_,λe=>?_,λf d a b k=>?_,λq x=>?_,λe=>by simp at e⟩
 .rcases aAT.mp d with z|z
  .exact h.face f z
  .have:f=b7 p.1 p.2 j:=by simpa using z
   subst this;exact u
 .rw[aCl];exact⟨h.nd,by simp,λa A b B=>λe=>by
   have:b=b7 p.1 p.2 j:=by simpa using B
   subst e this;exact v A⟩
 .rw[t,h.wk];constructor
  .rintro(⟨f,d,i⟩|i)
   .exact⟨f,aBq _ d,i⟩
   .exact⟨_,aAH _ (by simp),i⟩
  .rintro⟨f,d,i⟩;rcases aAT.mp d with z|z
   .exact .inl ⟨f,z,i⟩
   .have:f=b7 p.1 p.2 j:=by simpa using z
    subst this;exact .inr i
 .rcases aAT.mp d with z|z
  .rcases h.cl f z a b k with⟨g,C,e⟩|q
   .exact .inl ⟨g,aBq _ C,e⟩
   .rcases(n (b,a)).mp q with y|y
    .have E:fs≠[]:=λe=>by subst e;cases z
     exact .inl ⟨b7 p.1 p.2 j,aAH _ (by simp),by rw[y];exact w E⟩
    .exact .inr ((l _).mpr (.inl y))
  .have:f=b7 p.1 p.2 j:=by simpa using z
   subst this;exact .inr ((l _).mpr (.inr k))
 .rcases(l q).mp x with z|z
  .rcases h.wt q ((n q).mpr (.inr z))with⟨f,d,e⟩|⟨H,I⟩
   .exact .inl ⟨f,aBq _ d,e⟩
   .have:=h.ne H;exfalso;rw[o]at this;have r:=la aGt this;simp at r;subst r;cases z
  .exact .inl ⟨_,aAH _ (by simp),z⟩
theorem PY (h:LInv j (f6 m j) fs walked []):fs≠[]/\∀n d,(n,d)∈fs↔IsFace j n d:=by
 have l:fs≠[]:=λe=>by have:=h.ne e;cases this
 refine⟨l,λn d=>⟨λi=>h.face _ i,λi=>?_⟩⟩;refine rW G.solid G.ord fs l h.face (λf i a b k=>?_) i;have S:=(h.face f i).aa2 G.ord;rcases h.cl f i a b (S.aa1.mpr k)with⟨g,o,e⟩|q
 .exact⟨g,o,((h.face g o).aa2 G.ord).aa1.mp e⟩
 .cases q
end
def iV (h:IsFace j n d):∃A∈j,∃B∈j,∃C∈j,cr (B-A) (C-A)≠0/\j4 A B C=(n,d):=by
 obtain⟨A,s,B,f,C,i,a,b,c,e⟩:=h.three;have m:∀B∈j,∀C∈j,b9 n B=d->b9 n C=d->cr (B-A) (C-A)≠0->0<b9 n (cr (B-A)<|C-A)->j4 A B C=(n,d):=λB f C i b c e o=>by
  obtain⟨g,E,H,I,J⟩:=oG e;have p:cr n (cr (B-A)<|C-A)=0:=C4 (by rw[d8];lia) (by rw[d8];lia);obtain⟨k,l,t,r⟩:=z6 h.prim.ne p;have L:0<l:=by
   have q:=la (b9 n) r;rw[i7,i7]at q;have:=aBk t o;have N:=v6 h.prim.ne;by_cases z:0<l
   .exact z
   .have:=aAR (show l<=0 by lia) (aAO N);simp at this;lia
  rw[H]at r;have O:(k*g)*(j4 A B C).1=l*n:=by rw[<-r];apply ext<;>simp<;>grind
  have u:=uL I h.prim (aBk t E) L O;refine aGc u ?_;rw[J,u];exact a
 by_cases z:0<b9 n (cr (B-A)<|C-A)
 .exact⟨A,s,B,f,C,i,e,m B f C i b c e z⟩
 .have v:cr (C-A) (B-A)=-cr (B-A) (C-A):=by apply ext<;>simp<;>grind
  have w:cr (C-A) (B-A)≠0:=λq=>e (by rw[v]at q;have Q:=la V.x q;have T:=la V.y q;have U:=la V.z q;simp only[nq,sk,qw,cG,cD,cC]at Q T U;exact ext (by simp only[cG];lia) (by simp only[cD];lia) (by simp only[cC];lia))
  have Y:b9 n (cr (B-A)<|C-A)≠0:=λq=>e (U6 h.prim.ne (by rw[d8];lia) (by rw[d8];lia) q);refine⟨A,s,C,i,B,f,w,m C i B f c b w ?_⟩;have:b9 n (cr (C-A)<|B-A)=-b9 n (cr (B-A)<|C-A):=by rw[v];simp[b9];grind
  lia
def cands (j:List V):List (V×Int):=j.flatMap λA=>j.flatMap λB=>j.map λC=>j4 A B C
def HK (j:List V):(cands j).length=j.length*(j.length*j.length):=by
 unfold cands;have h:∀(l:List V) (f:V->List (V×Int)) (k:Nat),(∀x,(f x).length=k)->(l.flatMap f).length=l.length*k:=λl f k a=>by
  induction l with
  |nil=>simp
  |cons x l b=>rw[aEd,aAC,b,a,aAt,aGL,Nat.add_comm]
 rw[h j _ (j.length*j.length) λA=>h j _ j.length λB=>by simp]
theorem p8 {α:Type}[DecidableEq α]:∀{l m:List α},l.Nodup->(∀x∈l,x∈m)->l.length<=m.length
 |[],_,_,_=>aAX _
 |x::l,m,h,a=>by
  have b:=a x (by simp);have d:=aAG.mp h;have:=p8 (l:=l) (m:=m.erase x) d.2 (λy f=>by
   have ne:y≠x:=λe=>by subst e;exact d.1 f
   exact(aGe ne).mpr (a y<|aAe _ f))
  rw[aFn b]at this;have:0<m.length:=aDn b;simp only[aAt]
  lia
def IM {j:List V}{fs:List (V×Int)}(a:fs.Nodup)(b:∀f∈fs,IsFace j f.1 f.2):fs.length<=j.length*(j.length*j.length):=by rw[<-HK];refine p8 a λf h=>?_;obtain⟨A,d,B,g,C,i,_,e⟩:=iV (b f h);unfold cands;rw[aBd];refine⟨A,d,?_⟩;rw[aBd];exact⟨B,g,aAk.mpr ⟨C,i,e⟩⟩
section
variable{j:List V} (hs:j5 j) (ho:j.Pairwise (λa b=>e9 (b-a)))
include hs ho
theorem X3 (e:IsFace j n d)(h:EdgeOf n (λX=>X∈o8 n d j) a b):
 IsFace j (b7 b a j).1 (b7 b a j).2/\EdgeOf (b7 b a j).1 (λX=>X∈o8 (b7 b a j).1 (b7 b a j).2 j) b a:=rK e.prim.ne e.sup (hs.below e.prim.ne e.sup) h
theorem aS (e:IsFace j n d)(f:EdgeOf n (λX=>X∈o8 n d j) a b)(g:EdgeOf n (λX=>X∈o8 n d j) b a):False:=by
 obtain⟨X,h,i⟩:=e.ac9 f;have:=g.left X h;have k:f7 n (a-b) (X-b)=-f7 n (b-a) (X-a):=by simp[f7,b9];grind
 lia
theorem S9 (a:IsFace j n d)(o:X∈d4 j (n,d)):∃g h:V×Int,IsFace j g.1 g.2/\IsFace j h.1 h.2/\(n,d)≠g/\(n,d)≠h/\g≠h/\b9 n X=d/\b9 g.1 X=g.2/\b9 h.1 X=h.2:=by
 have S:=a.aa2 ho;obtain⟨Y,t⟩:=P7 S o;obtain⟨W,r⟩:=nV S o;have b:=S.aa1.mp t;have i:=S.aa1.mp r;obtain⟨l,f⟩:=X3 hs ho a b;obtain⟨u,k⟩:=X3 hs ho a i;have m:W≠Y:=λe=>by subst e;exact aS hs ho a b i
 refine⟨_,_,l,u,λe=>?_,λe=>?_,λe=>?_,(c6.mp b.p).2,(c6.mp f.q).2,(c6.mp k.p).2⟩
 .rw[<-e]at f;exact aS hs ho a b f
 .rw[<-e]at k;exact aS hs ho a i k
 .
  have st:=S.strict b (W6 S r).1 (i.ne) m;have v:=(c6.mp i.p).2;have w:=(c6.mp b.p).2;have x:=(c6.mp b.q).2;have y:=(c6.mp f.p).2;have z:=(c6.mp f.q).2;have s:=(c6.mp k.q).2;rw[<-e]at s;have A:cr (Y-X) (W-X)≠0:=λq=>by unfold f7 at st;rw[q,C3]at st;lia
  obtain⟨Z,B,C⟩:=hs.below a.prim.ne a.sup;obtain⟨E,H⟩:=gS a.prim l.prim a.sup l.sup w x v z y s A B C;have:(n,d)=b7 Y X j:=aGc E H;rw[<-this]at f;exact aS hs ho a b f
theorem HB (s:IsFace j n d)(g:IsFace j m e)(h:EdgeOf n (λX=>X∈o8 n d j) a b)(ga:b9 m a=e)(gb:b9 m b=e):(m,e)=(n,d)\/(m,e)=b7 b a j:=by
 obtain⟨pa,da⟩:=c6.mp h.p;obtain⟨pb,db⟩:=c6.mp h.q;obtain⟨I,J⟩:=X3 hs ho s h;have hab:b9 n (a-b)=0:=by rw[d8];lia
 have C:=sG (n:=n) s.prim.ne hab;have ai:a-b≠0:=λq=>h.ne (T2 q);obtain⟨P,pP,eP,hP⟩:∃P∈j,b9 m P=e/\cr (a-b) (P-b)≠0:=by
  by_cases z:∃P∈j,b9 m P=e/\cr (a-b) (P-b)≠0
  .exact z
  .exfalso;obtain⟨A,hA,B,hB,D,hD,eA,eB,eD,hc⟩:=g.three;have k:∀X∈j,b9 m X=e->cr (a-b) (X-b)=0:=λX hX dX=>by
    by_cases q:cr (a-b) (X-b)=0
    .exact q
    .exact absurd ⟨X,hX,dX,q⟩ z
   have k2:∀X∈j,b9 m X=e->∀Y∈j,b9 m Y=e->cr (X-Y) (a-b)=0:=λX hX dX Y hY dY=>by have t:=k X hX dX;have f:=k Y hY dY;have a1:=la V.x t;have a2:=la V.y t;have a3:=la V.z t;have J:=la V.x f;have b2:=la V.y f;have b3:=la V.z f;simp at a1 a2 a3 J b2 b3;apply ext<;>simp<;>grind
   exact hc (fY ai (k2 B hB eB A hA eA)<|k2 D hD eD A hA eA)
 have mab:b9 m (a-b)=0:=by rw[d8];lia
 have mP:b9 m (P-b)=0:=by rw[d8];lia
 have par:cr m (cr (a-b)<|P-b)=0:=C4 mab mP;obtain⟨k,l,hk,L⟩:=z6 g.prim.ne par;have dl:∀w,k*f7 (a-b) (P-b) w=l*b9 m w:=λw=>by have:=la (λv=>b9 v w) L;simp only[L6,S5]at this;exact this
 have l0:l≠0:=λq=>hP (by rw[q,u7]at L;have t:=la V.x L;have f:=la V.y L;have q3:=la V.z L;simp only[nI,oI,qF,cG,cD,cC]at t f q3;exact ext ((aAu.mp t).resolve_left (by lia)) ((aAu.mp f).resolve_left (by lia)) ((aAu.mp q3).resolve_left (by lia)))
 have N:∀Q∈j,b9 m (Q-b)<=0:=λQ hQ=>by rw[d8];have:=g.sup Q hQ;lia
 obtain⟨Z,hZ,hz⟩:=hs.below s.prim.ne s.sup;by_cases hl:0<l
 .
  right;obtain⟨O,hO,eO⟩:∃O∈o8 (b7 b a j).1 (b7 b a j).2 j,0<f7 (b7 b a j).1 (a-b) (O-b):=I.ac9 J;obtain⟨pO,dO⟩:=c6.mp hO;obtain⟨_,e1b⟩:=c6.mp J.p;obtain⟨_,e1a⟩:=c6.mp J.q;have t1:f7 (a-b) (P-b) (O-b)<=0:=by
   have q:=dl (O-b);have:=aAI (N O pO) (aAO hl);rw[aBX]at this;by_cases z:f7 (a-b) (P-b) (O-b)<=0
   .exact z
   .have:=aBk hk (show 0<f7 (a-b) (P-b) (O-b)by lia);lia
  have i:cr (b7 b a j).1 (cr (a-b)<|O-b)=0:=C4 (by rw[d8];lia) (by rw[d8];lia);obtain⟨k',u,T,o⟩:=z6 I.prim.ne i;have r:∀w,k'*f7 (a-b) (O-b) w=u*b9 (b7 b a j).1 w:=λw=>by have:=la (λv=>b9 v w) o;simp only[L6,S5]at this;exact this
  have je:0<u:=by
   have q:=la (b9 (b7 b a j).1) o;rw[i7,i7]at q;have f:0<b9 (b7 b a j).1 (cr (a-b)<|O-b):=eO;have:=aBk T f;have hn:=v6 I.prim.ne;by_cases z:0<u
   .exact z
   .have:=aAR (show u<=0 by lia) (aAO hn);simp at this;lia
  have t2:f7 (a-b) (O-b) (P-b)<=0:=by
   have q:=r (P-b);have h0:b9 (b7 b a j).1 (P-b)<=0:=by rw[d8];have:=I.sup P pP;lia
   have:=aAI h0 (aAO je);rw[aBX]at this;by_cases z:f7 (a-b) (O-b) (P-b)<=0
   .exact z
   .have:=aBk T (show 0<f7 (a-b) (O-b) (P-b)by lia);lia
  have t3:f7 (a-b) (O-b) (P-b)=0:=by rw[j9]at t1;lia
  have U:=r (P-b);rw[t3,aBX]at U;have onP':b9 (b7 b a j).1 P=(b7 b a j).2:=by have:=(aAu.mp U.symm).resolve_left (by lia);rw[d8]at this;lia
  obtain⟨Z',E,H⟩:=hs.below g.prim.ne g.sup;obtain⟨t,f⟩:=gS g.prim I.prim g.sup I.sup gb ga eP e1b e1a onP' hP E H;exact aGc t f
 .
  left;have om:l<0:=by lia
  obtain⟨O,hO,eO⟩:=s.ac9 h;obtain⟨pO,dO⟩:=c6.mp hO;rw[qA]at eO;have t1:0<=f7 (a-b) (P-b) (O-b):=by
   have q:=dl (O-b);have h2:0<=l*b9 m (O-b):=by
    have:=aBh (show 0<=-l by lia) (show 0<=-b9 m (O-b)by have:=N O pO;lia)
    rwa [aDy]at this
   by_cases z:0<=f7 (a-b) (P-b) (O-b)
   .exact z
   .have:=aAz hk (show f7 (a-b) (P-b) (O-b)<0 by lia);lia
  have i:cr n (cr (b-a)<|O-b)=0:=C4 (by rw[d8];lia) (by rw[d8];lia);obtain⟨k',u,T,o⟩:=z6 s.prim.ne i;have r:∀w,k'*f7 (b-a) (O-b) w=u*b9 n w:=λw=>by have:=la (λv=>b9 v w) o;simp only[L6,S5]at this;exact this
  have je:0<u:=by
   have q:=la (b9 n) o;rw[i7,i7]at q;have f:0<b9 n (cr (b-a)<|O-b):=eO;have:=aBk T f;have hn:=v6 s.prim.ne;by_cases z:0<u
   .exact z
   .have:=aAR (show u<=0 by lia) (aAO hn);simp at this;lia
  have t2:f7 (b-a) (O-b) (P-b)<=0:=by
   have q:=r (P-b);have h0:b9 n (P-b)<=0:=by rw[d8];have:=s.sup P pP;lia
   have:=aAI h0 (aAO je);rw[aBX]at this;by_cases z:f7 (b-a) (O-b) (P-b)<=0
   .exact z
   .have:=aBk T (show 0<f7 (b-a) (O-b) (P-b)by lia);lia
  have e3:f7 (b-a) (O-b) (P-b)=f7 (a-b) (P-b) (O-b):=by simp[f7,b9];grind
  have t3:f7 (b-a) (O-b) (P-b)=0:=by lia
  have U:=r (P-b);rw[t3,aBX]at U;have onn:b9 n P=d:=by have:=(aAu.mp U.symm).resolve_left (by lia);rw[d8]at this;lia
  obtain⟨Z',E,H⟩:=hs.below g.prim.ne g.sup;obtain⟨t,f⟩:=gS g.prim s.prim g.sup s.sup gb ga eP db da onn hP E H;exact aGc t f
end
def yF (k:j5 j)(l:m∈j)(o:∀X∈j,X=m\/e9 (X-m)):
  cU (b7 m (m+kk) j).1/\m∈o8 (b7 m (m+kk) j).1 (b7 m (m+kk) j).2 j/\∃a∈o8 (b7 m (m+kk) j).1 (b7 m (m+kk) j).2 j,m≠a:=by
 have C:ConeM (m+kk-m) (λw=>0<w.x\/(w.x=0/\0<w.y)):=by rw[K7];exact DW
 have p:m+kk-m≠0:=by rw[K7];intro e;have:=la V.z e;simp[kk]at this
 have b:∀P∈j,(0<(P-m).x\/((P-m).x=0/\0<(P-m).y))\/cr (m+kk-m) (P-m)=0:=λP r=>by
  rw[K7];rcases o P r with e|e
  .right;subst e;rw[u0];apply ext<;>simp
  .unfold e9 at e;rcases e with e|⟨f,e|⟨s,H⟩⟩
   .exact .inl (.inl e)
   .exact .inl (.inr ⟨f,e⟩)
   .right;apply ext
    .simp[kk];simp at s;lia
    .simp[kk];simp at f;lia
    .simp[kk]
 have t:∃P∈j,0<(P-m).x\/((P-m).x=0/\0<(P-m).y):=by
  by_cases z:∃P∈j,0<(P-m).x\/((P-m).x=0/\0<(P-m).y)
  .exact z
  .exfalso;obtain⟨Z,h,e⟩:=k.off (n:=⟨1,0,0⟩) (d:=m.x) (λe=>by have:=la V.x e;simp at this);have w:=(b Z h).resolve_left λq=>z ⟨Z,h,q⟩;rw[K7]at w;have:=la V.y w;simp[kk]at this;simp[b9]at e
   lia
 obtain⟨a,g,u,i,I,J,v,A,B,L,E,N⟩:=U3 C p b t;refine⟨v,c6.mpr ⟨l,A.symm⟩,a,c6.mpr ⟨u,E⟩,λe=>?_⟩;subst e;rw[u0]at i;simp at i
section
variable{j:List V} (hs:j5 j) (ho:j.Pairwise (λa b=>e9 (b-a)))
include hs ho
theorem nK (d:IsFace j f.1 f.2)(e:IsFace j g.1 g.2)(l:(a,b)∈J2 (d4 j f))(m:(a,b)∈J2 (d4 j g)):f=g:=by
 have i:=(d.aa2 ho).aa1.mp l;have h:=(e.aa2 ho).aa1.mp m;obtain⟨n,k⟩:=X3 hs ho d i;rcases HB hs ho d e i (c6.mp h.p).2 (c6.mp h.q).2 with q|q
 .exact q.symm
 .exfalso;have:g=b7 b a j:=q;rw[<-this]at k;exact aS hs ho e h k
theorem IF (h:l.Nodup):(J2 l).Nodup:=by
 have:((J2 l).map (·.1)).Nodup:=by
  unfold J2;rw[List.map_fst_zip]
  .exact h
  .simp;lia
 exact(aBN.mp this).imp λ{a b} h e=>h (by rw[e])
theorem QU:(J2 l).length=l.length:=by unfold J2;simp;lia
def X1 (j:List V)(fs:List (V×Int)):List (V×V):=fs.flatMap λf=>J2 (d4 j f)
omit hs ho in
theorem nP (fs:List (V×Int)):(X1 j fs).length=(fs.map λf=>(d4 j f).length).sum:=by
 induction fs with
 |nil=>rfl
 |cons f fs a=>show(J2 (d4 j f)++X1 j fs).length=_;rw[aAC,a,aAv,aCa];congr 1;unfold J2;simp;lia
theorem V6:∀{fs:List (V×Int)},fs.Nodup->(∀f∈fs,IsFace j f.1 f.2)->(X1 j fs).Nodup
 |[],_,_=>aDl
 |f::fs,l,h=>by have i:=aAG.mp l;have k:=h f (.head _);show(J2 (d4 j f)++X1 j fs).Nodup;rw[aCl];refine⟨IF hs ho ((k.aa2 ho).aa4),V6 i.2 λg d=>h g (.tail _ d),λe m p n q=>?_⟩;subst q;obtain⟨g,d,o⟩:=aBd.mp n;exact i.1 (nK hs ho k (h g<|.tail _ d) (a:=e.1) (b:=e.2) m o▸d)
theorem rO {fs:List (V×Int)}(t:fs.Nodup)(m:∀f∈fs,IsFace j f.1 f.2):(fs.map λf=>(d4 j f).length).sum+j.length<=j.length*j.length:=by
 have i:j.Nodup:=ho.imp λ{a b} h e=>by subst e;exact G1 h
 have u:=V6 hs ho t m;have v:(X1 j fs++j.map λa=>(a,a)).Nodup:=by rw[aCl];refine⟨u,aBN.mpr (i.imp λ{a b} h e=>h (Prod.mk.inj e).1),λe d A w q=>?_⟩;subst q;obtain⟨g,n,k⟩:=aBd.mp d;obtain⟨a,_,rfl⟩:=aAk.mp w;exact(((m g n).aa2 ho).aa1.mp k).ne rfl
 have x:∀e∈X1 j fs++j.map (λa=>(a,a)),e∈j.flatMap λa=>j.map λb=>(a,b):=λe d=>by
  rcases aAT.mp d with d|d
  .obtain⟨g,n,k⟩:=aBd.mp d;have k:(e.1,e.2)∈J2 (d4 j g):=k;have o:=((m g n).aa2 ho).aa1.mp k;exact aBd.mpr ⟨e.1,(c6.mp o.p).1,aAk.mpr ⟨e.2,(c6.mp o.q).1,rfl⟩⟩
  .obtain⟨a,r,rfl⟩:=aAk.mp d;exact aBd.mpr ⟨a,r,aAk.mpr ⟨a,r,rfl⟩⟩
 have s:=p8 v x;have y:(j.flatMap λa=>j.map λb=>(a,b)).length=j.length*j.length:=by
  have:∀l:List V,(l.flatMap λa=>j.map λb=>(a,b)).length=l.length*j.length:=λl=>by
   induction l with
   |nil=>simp
   |cons a l z=>rw[aEd,aAC,z,aAi,aAt,aGL];lia
  exact this j
 rw[aAC,nP,aAi,y]at s;exact s
theorem kL {fs:List (V×Int)}(a:∀f∈fs,IsFace j f.1 f.2):3*fs.length<=(fs.map λf=>(d4 j f).length).sum:=by
 induction fs with
 |nil=>simp
 |cons f fs b=>
  have:=b λg d=>a g (.tail _ d);obtain⟨r,s,t,l,e⟩:=O5 ho (a f<|.head _);have h:(d4 j f).length=l.length+3:=by show(j8 f.1 (o8 f.1 f.2 j)).length=_;rw[e];simp
  rw[aAv,aCa,aAt,h]
  lia
end
theorem jG:∀(j:List V) (d b:V),(E6 a A j d b).2∈j\/(E6 a A j d b).2=b
 |[],d,b=>.inr rfl
 |P::e,d,b=>by
  unfold E6;split
  .rcases jG e (cr a (P-A)) P with h|h
   .exact .inl (.tail _ h)
   .exact .inl (by rw[h];exact .head _)
  .rcases jG e d b with h|h
   .exact .inl (.tail _ h)
   .exact .inr h
section
variable{j c:List V} (hs:j5 j) (ho:j.Pairwise (λa b=>e9 (b-a))) (bo:c.Pairwise (λa b=>e9 (b-a))) (hc:∀X,X∈c↔∃f:V×Int,IsFace j f.1 f.2/\X∈d4 j f)
include hs ho bo hc
theorem WK (h:X∈c):X∈j:=by obtain⟨f,a,b⟩:=(hc X).mp h;exact(c6.mp<|(a.aa2 ho).aa3 b).1
theorem iT (a:IsFace j n d)(h:X∈d4 j (n,d)):X∈o8 n d c:=by have b:=(c6.mp<|(a.aa2 ho).aa3 h).2;exact c6.mpr ⟨(hc X).mpr ⟨(n,d),a,h⟩,b⟩
theorem XX (h:X∈o8 n d c):X∈o8 n d j:=c6.mpr ⟨WK hs ho bo hc (c6.mp h).1,(c6.mp h).2⟩
theorem kA (a:IsFace j n d):IsFace c n d:=by
 have S:=a.aa2 ho;obtain⟨r,s,t,l,e⟩:=O5 ho a;have i:r∈j8 n (o8 n d j):=by rw[e];simp
 have m:s∈j8 n (o8 n d j):=by rw[e];simp
 have f:t∈j8 n (o8 n d j):=by rw[e];simp
 have b:=S.aa4;rw[e]at b;simp only[aAG,aAd,not_or]at b;have g:EdgeOf n (λX=>X∈o8 n d j) r s:=S.aa1.mp (by rw[e];simp[J2]);have st:=S.strict g f (λq=>b.1.2.1 q.symm) (λq=>b.2.1.1 q.symm);have k:=λ{X} (h:X∈j8 n (o8 n d j))=>iT hs ho bo hc a (X:=X) h;refine⟨a.prim,λX o=>a.sup X (WK hs ho bo hc o),r,(c6.mp<|k i).1,s,(c6.mp<|k m).1,t,(c6.mp<|k f).1,(c6.mp<|k i).2,(c6.mp<|k m).2,(c6.mp<|k f).2,λq=>?_⟩;unfold f7 at st;rw[q,C3]at st
 lia
theorem oT (e:IsFace j n d)(h:EdgeOf n (λX=>X∈o8 n d j) a b):EdgeOf n (λX=>X∈o8 n d c) a b:=by have S:=e.aa2 ho;have m:=W6 S (S.aa1.mpr h);exact⟨iT hs ho bo hc e m.1,iT hs ho bo hc e m.2,h.ne,λX f=>h.left X (XX hs ho bo hc f),λX f=>h.btw X (XX hs ho bo hc f)⟩
omit hs ho bo hc in
theorem nT {R:V->Prop}{E:List (V×V)}(g:∀a b,R a->(a,b)∈E->R b):∀(x:V) (l:List V),R x->(∀e∈t4 (x::l),e∈E)->∀X∈x::l,R X
 |x,[],f,_,X,d=>by rw[aAN.mp d];exact f
 |x,y::l,f,h,X,d=>by
  have i:=g x y f (h (x,y) (by simp[t4]));rcases aAd.mp d with rfl|d
  .exact f
  .exact nT g y l i (λe k=>h e (by simp only[t4,aAd];exact .inr k)) X d
theorem DF (i:IsFace j n d)(h:X∈j8 n (o8 n d c)):X∈j8 n (o8 n d j):=by
 have S:=i.aa2 ho;have o:=(kA hs ho bo hc i).aa2 bo;obtain⟨m,r,e,t,u⟩:=o.aa9;obtain⟨g,I,p,v,w⟩:=S.aa9;have x:m=g:=by
  have y:g∈o8 n d c:=iT hs ho bo hc i (show g∈j8 n (o8 n d j)by rw[p];simp);rcases u g y with q|q
  .exact q.symm
  .rcases w m (XX hs ho bo hc t)with k|k
   .exact k
   .exact absurd (y7.add q k) (by
     have:(g-m)+(m-g)=0:=by apply ext<;>simp<;>lia
     rw[this];exactλz=>by simp[e9]at z)
 have step:∀a b,a∈j8 n (o8 n d j)->(a,b)∈J2 (j8 n<|o8 n d c)->b∈j8 n (o8 n d j):=λa b A l=>by obtain⟨J,s⟩:=P7 S A;have B:=o.aa1.mp l;have C:=oT hs ho bo hc i (S.aa1.mp s);rw[B.next C];exact(W6 S s).2
 rw[e]at h;refine nT (E:=J2 (j8 n<|o8 n d c)) (R:=λX=>X∈j8 n (o8 n d j)) step m r (by rw[x,p];simp) (λf H=>?_) X h;rw[e,V3];exact fL r m m f H
theorem kT (f:IsFace j n d)(h:EdgeOf n (λX=>X∈o8 n d c) a b):EdgeOf n (λX=>X∈o8 n d j) a b:=by have S:=f.aa2 ho;have g:=(kA hs ho bo hc f).aa2 bo;have i:=DF hs ho bo hc f (g.ab0 h);obtain⟨l,k⟩:=P7 S i;have e:=S.aa1.mp k;rw[h.next (oT hs ho bo hc f e)];exact e
theorem FD (o:IsFace j n d):j5 c:=by
 have S:=o.aa2 ho;obtain⟨r,s,t,l,e⟩:=O5 ho o;have J:r∈j8 n (o8 n d j):=by rw[e];simp
 have A:t∈j8 n (o8 n d j):=by rw[e];simp
 have p:=S.aa4;rw[e]at p;simp only[aAG,aAd,not_or]at p;have i:EdgeOf n (λX=>X∈o8 n d j) r s:=S.aa1.mp (by rw[e];simp[J2]);have st:=S.strict i A (λq=>p.1.2.1 q.symm) (λq=>p.2.1.1 q.symm);obtain⟨x,L⟩:=X3 hs ho o i;generalize(b7 s r j).1=m at*
 generalize(b7 s r j).2=f at*
 have T:=x.aa2 ho;obtain⟨a,b,N,l2,y⟩:=O5 ho x;have g:=T.aa4;rw[y]at g;simp only[aAG,aAd,not_or]at g;obtain⟨Y,B,Q,U⟩:∃Y∈j8 m (o8 m f j),Y≠s/\Y≠r:=by
  have q1:a∈j8 m (o8 m f j):=by rw[y];simp
  have q2:b∈j8 m (o8 m f j):=by rw[y];simp
  have q3:N∈j8 m (o8 m f j):=by rw[y];simp
  by_cases C:a≠s/\a≠r
  .exact⟨a,q1,C⟩
  .by_cases E:b≠s/\b≠r
   .exact⟨b,q2,E⟩
   .refine⟨N,q3,λz=>?_,λz=>?_⟩
    .subst z;have H:a=r:=by
      by_cases h:a=r
      .exact h
      .exact absurd ⟨g.1.2.1,h⟩ C
     have I:b=r:=by
      by_cases h:b=r
      .exact h
      .exact absurd ⟨g.2.1.1,h⟩ E
     exact g.1.1 (H.trans I.symm)
    .subst z;have H:a=s:=by
      by_cases h:a=s
      .exact h
      .exact absurd ⟨h,g.1.2.1⟩ C
     have I:b=s:=by
      by_cases h:b=s
      .exact h
      .exact absurd ⟨h,g.2.1.1⟩ E
     exact g.1.1 (H.trans I.symm)
 have sY:=T.strict L B Q U;have lt:=PC hs x o L i (T.aa3 B) sY;have k:=λ{X} (h:X∈j8 n (o8 n d j))=>iT hs ho bo hc o (X:=X) h;have kY:=iT hs ho bo hc x B;have O:s∈j8 n (o8 n d j):=by rw[e];simp
 have dr:=(c6.mp<|k J).2;have dss:=(c6.mp<|k O).2;have dt:=(c6.mp<|k A).2;refine⟨r,(c6.mp<|k J).1,s,(c6.mp<|k O).1,t,(c6.mp<|k A).1,Y,(c6.mp kY).1,λz=>?_⟩;have p1:b9 n (s-r)=0:=by rw[d8];lia
 have p2:b9 n (t-r)=0:=by rw[d8];lia
 have pY:b9 n (Y-r)<0:=by rw[d8];lia
 have id:f7 (s-r) (t-r) (Y-r)*b9 n n=f7 n (s-r) (t-r)*b9 n (Y-r)+b9 n (s-r)*(b9 n (t-r)*0)+(b9 n (s-r)*f7 n (t-r) (Y-r)+b9 n (t-r)*f7 n (Y-r) (s-r)):=by generalize s-r=u;generalize t-r=v;generalize Y-r=w;have:=QD n n u v w;simp[f7,b9]at this⊢;grind
 rw[z,p1,p2]at id;have:f7 n (s-r) (t-r)*b9 n (Y-r)<0:=aAz st pY
 lia
theorem SJ (fs:List (V×Int))(l:fs≠[])(e:∀f,f∈fs↔IsFace j f.1 f.2):IsFace c n d↔IsFace j n d:=by
 refine⟨λh=>?_,kA hs ho bo hc⟩;obtain⟨p,g⟩:=aFh fs l;have q:=FD hs ho bo hc ((e p).mp g);have:=rW q bo fs l (λf i=>kA hs ho bo hc ((e f).mp i)) (λf i a b k=>?_) h
 .exact(e _).mp this
 .have m:=(e f).mp i;obtain⟨o,r⟩:=X3 hs ho m (kT hs ho bo hc m k);exact⟨b7 b a j,(e _).mpr o,oT hs ho bo hc o r⟩
theorem NQ (b:X∈c):∃f:V×Int,IsFace c f.1 f.2/\X∈d4 c f:=by obtain⟨⟨n,d⟩,a,h⟩:=(hc X).mp b;have S:=a.aa2 ho;obtain⟨Q,e⟩:=P7 S h;exact⟨(n,d),kA hs ho bo hc a,((kA hs ho bo hc a).aa2 bo).ab0 (oT hs ho bo hc a<|S.aa1.mp e)⟩
end
def dj {Pos:V->Prop}(C:Cone Pos){n m p v q u:V}(g:n≠0)(r:b9 n p=0)(d:b9 n v=0)(f:b9 n q=0)(s:b9 n u=0)(B:Pos p)(i:Pos v)(j:Pos q)(E:Pos u)(H:0<b9 m p)(mv:b9 m v<0)(k:0<b9 m q)(mu:b9 m u<0)(t:0<=f7 n v p)(w:0<=f7 n q u):False:=by
 have id:∀{a b c:V},b9 n a=0->b9 n b=0->b9 n c=0->f7 n a b*b9 m c+f7 n b c*b9 m a+f7 n c a*b9 m b=0:=λ{a b c} I J L=>by have:=QD m n a b c;rw[x8 g I J L,aGM]at this;exact this
 have N:=id d r f;have O:=id f s d;rcases aDz 0 (f7 n q v)with h|h
 .
  have l:=C.tr j i B (x8 g f d r) h t;have o:f7 n p q=-f7 n q p:=j9 n q p;rw[o]at N;have Q:0<=f7 n v p*b9 m q:=aBh t (aAO k);have T:0< -f7 n q p*b9 m v:=by have:=aBk l (show 0< -b9 m v by lia);grind
  have U:0<f7 n q v*b9 m p:=aBk h H
  lia
 .rcases aDz (f7 n q v) 0 with h'|h'
  .have e0:f7 n v q=-f7 n q v:=j9 n q v;have A:0<f7 n v q:=by lia
   have l:=C.tr i j E (x8 g d f s) A w;have o:f7 n u v=-f7 n v u:=j9 n v u;rw[o]at O;have Q:f7 n q u*b9 m v<=0:=by have:=aBh w (show 0<=-b9 m v by lia);grind
   have T:-f7 n v u*b9 m q<0:=by have:=aBk l k;grind
   have U:f7 n v q*b9 m u<0:=by have:=aBk A (show 0< -b9 m u by lia);grind
   lia
  .have z:f7 n q v=0:=by lia
   have c0:=U6 g f d z;have e:b9 m q*v+(-b9 m v)*q=0:=by have Y:=la V.x c0;have hy:=la V.y c0;have hz:=la V.z c0;simp at Y hy hz;apply ext<;>simp[b9]<;>grind
   have:=C.add (C.mul k i) (C.mul (show 0< -b9 m v by lia) j);rw[e]at this;exact C.irr this
section
variable{n:V} {ts:List V} (S:Sheet n ts)
include S
theorem Sheet.ac7 (h:X∈v7 n ts\/X∈v7 n ts.reverse):X∈j8 n ts:=by
 obtain⟨m,M,c,d,j,k,f,l,o,b,e,g,i,p,q⟩:=S.ends;unfold j8;rw[aAT,b,e,aAP,aAP,aBp,aBp,aCw,aCw];rw[b,e]at h;have a:m≠M:=λz=>by subst z;exact G1 f
 rcases h with h|h
 .rcases aAd.mp h with rfl|h
  .right;have:=aCW i;rcases aAd.mp this with z|z
   .exact absurd z.symm a
   .exact z
  .exact .inl h
 .rcases aAd.mp h with rfl|h
  .left;have:=aCW g;rcases aAd.mp this with z|z
   .exact absurd z a
   .exact z
  .exact .inr h
theorem Sheet.top (d:X∈ts)(h:∀Y∈ts,Y≠X->b9 m Y<b9 m X):X∈j8 n ts:=by
 obtain⟨s,n1,t1⟩:=S.ab1;obtain⟨t,n2,t2⟩:=S.ab2;have w:∀u,e9 u->e9 (-u)->False:=λu x y=>by have:=y7.add x y;have A:u+-u=0:=ext (by simp;lia) (by simp;lia) (by simp;lia);rw[A]at this;exact y7.irr this
 have B:∀u,L7 u->L7 (-u)->False:=λu x y=>by have:=aD.add x y;have A:u+-u=0:=ext (by simp;lia) (by simp;lia) (by simp;lia);rw[A]at this;exact aD.irr this
 rcases oF X (v7 n ts) (λY _=>C9 X Y) (λq C=>t1 X q C d) (λz E=>s.last X d z E) n1 w with H|⟨a,b,j,O,Q⟩
 .exact S.ac7 (.inl H)
 .rcases oF X (v7 n ts.reverse) (λY _=>by
    rcases C9 X Y with z|z|z
    .exact .inl z
    .exact .inr (.inr (p6.mpr z))
    .exact .inr (.inl (p6.mpr z))) (λq C=>t2 X q C d) (λz E=>t.last X d z E) n2 B with H|⟨k,r,f,I,il⟩
  .exact S.ac7 (.inr H)
  .exfalso;have T:=K5 S j;have U:=K5 S f;have J:=s.mem _ T.1;have L:=s.mem _ T.2;have g:=t.mem _ U.1;have i:=t.mem _ U.2;have E1:=(S.ad5 j J L).1.left X d;have E2:=(S.ae2 f g i).1.left X d;have l:=p6.mp I;have xr:=p6.mp il;have ne:∀{Y},e9 (X-Y)->Y≠X:=λN z=>by subst z;exact G1 N
   have o:∀{Y},e9 (Y-X)->Y≠X:=λN z=>by subst z;exact G1 N
   have va:=h a J (ne O);have vb:=h b L (o Q);have va':=h k g (o l);have vb':=h r i (ne xr);refine dj y7 (n:=n) (m:=m) (p:=X-a) (v:=b-X) (q:=X-r) (u:=k-X) S.nz (S.pl _ d _ J) (S.pl _ L _ d) (S.pl _ d _ i) (S.pl _ g _ d) O Q xr l (by rw[d8];lia) (by rw[d8];lia) (by rw[d8];lia) (by rw[d8];lia) ?_ ?_
   .have e:f7 n (b-a) (X-a)=f7 n (b-X) (X-a):=by simp[f7,b9];grind
    rw[<-e];exact E1
   .have e:f7 n (r-k) (X-k)=f7 n (X-r) (k-X):=by simp[f7,b9];grind
    rw[<-e];exact E2
end
section
variable{j:List V} (hs:j5 j)
include hs
theorem aG (a:IsFace j n d)(b:IsFace j m e)(i:b9 n X=d)(o:b9 m X=e)(h:cr m n=0):(n,d)=(m,e):=by
 obtain⟨k,l,f,g⟩:=z6 b.prim.ne h;obtain⟨Z,p,u⟩:=hs.below a.prim.ne a.sup;have r:0<l:=by
  have q:=la (λv=>b9 v (Z-X)) g;rw[L6,L6]at q;have s:b9 n (Z-X)<0:=by rw[d8];lia
  have w:b9 m (Z-X)<=0:=by rw[d8];have:=b.sup Z p;lia
  have x:k*b9 n (Z-X)<0:=aAz f s;by_cases z:0<l
  .exact z
  .exfalso;have:0<=l*b9 m (Z-X):=by
    have:=aBh (show 0<=-l by lia) (show 0<=-b9 m (Z-X)by lia)
    rwa [aDy]at this
   lia
 have t:=uL a.prim b.prim f r g;subst t;rw[<-i,<-o]
theorem BJ {a b c:Int}(o:IsFace j n d)(p:IsFace j m e)(r:IsFace j k f)(hX:b9 n X=d)(qp:b9 m X=e)(s:b9 k X=f)(hc:0<c)(t:0<a)(u:0<b)(h:c*k=a*n+b*m)(w:cr n m≠0):False:=by
 obtain⟨A,x,B,y,C,E,H,I,J,g⟩:=r.three;have i:∀Y∈j,b9 k Y=f->b9 n Y=d/\b9 m Y=e:=λY l hy=>by
  have h1:=o.sup Y l;have h2:=p.sup Y l;have q:=la (λv=>b9 v (Y-X)) h;have q:c*b9 k (Y-X)=a*b9 n (Y-X)+b*b9 m (Y-X):=by
   have L:b9 (c*k) (Y-X)=c*b9 k (Y-X):=L6 ..;have N:b9 (a*n+b*m) (Y-X)=a*b9 n (Y-X)+b*b9 m (Y-X):=by simp[b9];grind
   rw[<-L,<-N];exact q
  have O:b9 k (Y-X)=0:=by rw[d8];lia
  rw[O,aBX]at q;have Q:b9 n (Y-X)<=0:=by rw[d8];lia
  have T:b9 m (Y-X)<=0:=by rw[d8];lia
  have a0:a*b9 n (Y-X)<=0:=aAs (aAO t) Q;have b0:b*b9 m (Y-X)<=0:=aAs (aAO u) T;have U:a*b9 n (Y-X)=0:=by lia
  have z2:b*b9 m (Y-X)=0:=by lia
  have y1:b9 n (Y-X)=0:=by rcases aAu.mp U with z|z;lia;exact z
  have y2:b9 m (Y-X)=0:=by rcases aAu.mp z2 with z|z;lia;exact z
  rw[d8]at y1 y2;exact⟨by lia,by lia⟩
 obtain⟨a1,a2⟩:=i A x H;obtain⟨b1,b2⟩:=i B y I;obtain⟨c1,c2⟩:=i C E J;have p1:cr n (cr (B-A)<|C-A)=0:=C4 (by rw[d8];lia) (by rw[d8];lia);have p2:cr m (cr (B-A)<|C-A)=0:=C4 (by rw[d8];lia) (by rw[d8];lia);exact w (fY g p1 p2)
theorem dJ (p:IsFace j n d)(A:IsFace j m e)(i:IsFace j k f)(C:b9 n X=d)(E:b9 m X=e)(H:b9 k X=f)(za:(n,d)≠(m,e))(n13:(n,d)≠(k,f))(n23:(m,e)≠(k,f)):f7 n m k≠0:=λz=>by
 have I:cr n m≠0:=λq=>za (aG hs A p E C q).symm;have J:cr n k≠0:=λq=>n13 (aG hs i p H C q).symm;have L:cr m k≠0:=λq=>n23 (aG hs i A H E q).symm;have l:∀{u v:V},cr u v≠0->cr v u≠0:=λ{u v} h q=>h (by have N:=la V.x q;have g:=la V.y q;have B:=la V.z q;simp at N g B;apply ext<;>simp<;>grind)
 obtain⟨w,ew⟩:∃w,w=cr n m:=⟨_,rfl⟩;have r:=BZ w n m k;rw[z]at r;have O:0<f7 w n m:=by
  have:f7 w n m=b9 w w:=by rw[ew];rfl
  rw[this,ew];exact v6 I
 obtain⟨c,ec⟩:∃c,c=f7 w n m:=⟨_,rfl⟩;obtain⟨a,ea⟩:∃a,a=-f7 w m k:=⟨_,rfl⟩;obtain⟨b,eb⟩:∃b,b=-f7 w k n:=⟨_,rfl⟩;have T:c*k=a*n+b*m:=by rw[ec,ea,eb];have N:=la V.x r;have g:=la V.y r;have B:=la V.z r;simp at N g B;apply ext<;>simp<;>lia
 rw[<-ec]at O;have U:=la V.x T;have Y:=la V.y T;have vz:=la V.z T;simp at U Y vz;have o:∀{u v:V} {s t:Int},s≠0->s*u=t*v->cr u v=0:=λ{u v s t} iu h=>by
  have N:=la V.x h;have g:=la V.y h;have B:=la V.z h;simp at N g B;have go:∀y:Int,s*y=0->y=0:=λy g=>by rcases aAu.mp g with q|q;exact absurd q iu;exact q
  apply ext<;>simp<;>apply go<;>grind
 rcases aDz 0 a with ha|ha
 .rcases aDz 0 b with Q|Q
  .exact BJ hs p A i C E H O ha Q T I
  .rcases aDz b 0 with il|il
   .
    refine BJ hs i A p H E C ha O (show 0< -b by lia) (c:=a) (a:=c) (b:=-b) ?_ (l L);apply ext<;>simp<;>lia
   .have b0:b=0:=by lia
    refine J (o (u:=n) (v:=k) (s:=a) (t:=c) (by lia) ?_);rw[b0]at U Y vz;apply ext<;>simp<;>lia
 .rcases aDz a 0 with ha'|ha'
  .rcases aDz 0 b with Q|Q
   .refine BJ hs i p A H C E Q O (show 0< -a by lia) (c:=b) (a:=c) (b:=-a) ?_ (l J);apply ext<;>simp<;>lia
   .
    obtain⟨Z,hZ,B⟩:=hs.below i.prim.ne i.sup;have q:c*b9 k (Z-X)=a*b9 n (Z-X)+b*b9 m (Z-X):=by simp[b9];grind
    have k0:b9 k (Z-X)<0:=by rw[d8];lia
    have n0:b9 n (Z-X)<=0:=by rw[d8];have:=p.sup Z hZ;lia
    have m0:b9 m (Z-X)<=0:=by rw[d8];have:=A.sup Z hZ;lia
    have t1:c*b9 k (Z-X)<0:=aAz O k0;have t2:0<=a*b9 n (Z-X):=by
     have:=aBh (show 0<=-a by lia) (show 0<=-b9 n (Z-X)by lia)
     rwa [aDy]at this
    have t3:0<=b*b9 m (Z-X):=by
     have:=aBh (show 0<=-b by lia) (show 0<=-b9 m (Z-X)by lia)
     rwa [aDy]at this
    lia
  .have a0:a=0:=by lia
   by_cases b0:b=0
   .rw[a0,b0]at U Y vz;have k0:k=0:=by
     have go:∀y:Int,c*y=0->y=0:=λy g=>by rcases aAu.mp g with q|q;lia;exact q
     apply ext<;>simp<;>apply go<;>lia
    exact i.prim.ne k0
   .refine L (o (u:=m) (v:=k) (s:=b) (t:=c) b0 ?_);rw[a0]at U Y vz;apply ext<;>simp<;>lia
theorem oE (u:j.Pairwise (λa b=>e9 (b-a)))(v:X∈j)(g:IsFace j n d)(p:IsFace j m e)(r:IsFace j k f)(s:b9 n X=d)(w:b9 m X=e)(x:b9 k X=f)(z:(n,d)≠(m,e))(h:(n,d)≠(k,f))(i:(m,e)≠(k,f)):X∈d4 j (n,d):=by
 have l:=dJ hs g p r s w x z h i;refine(g.aa2 u).top (m:=n+m+k) (c6.mpr ⟨v,s⟩) λY A B=>?_;have o:=(c6.mp A).1;have L:=g.sup Y o;have N:=p.sup Y o;have O:=r.sup Y o;have t:∀Z,b9 (n+m+k) Z=b9 n Z+b9 m Z+b9 k Z:=λZ=>by simp[b9];grind
 rw[t,t];rcases aDz (b9 n Y+b9 m Y+b9 k Y) (b9 n X+b9 m X+b9 k X)with q|q
 .exact q
 .exfalso;have C:b9 n (Y-X)=0:=by rw[d8];lia
  have E:b9 m (Y-X)=0:=by rw[d8];lia
  have H:b9 k (Y-X)=0:=by rw[d8];lia
  refine B (T2 ?_);generalize Y-X=y at*
  have I:∀y:Int,f7 n m k*y=0->y=0:=λy J=>by rcases aAu.mp J with q|q;exact absurd q l;exact q
  simp[b9]at C E H;apply ext<;>simp<;>apply I<;>simp[f7,b9]<;>grind
end
def Up (j:List V)(A B C:V):Prop:=(∀X∈j,b9 (cr (B-A)<|C-A) (X-A)<=0)/\∃X∈j,b9 (cr (B-A)<|C-A) (X-A)<0
def Dn (j:List V)(A B C:V):Prop:=(∀X∈j,0<=b9 (cr (B-A)<|C-A) (X-A))/\∃X∈j,0<b9 (cr (B-A)<|C-A) (X-A)
abbrev T3:=V×V×V
def RH (r:T3)(v:V):V:=⟨b9 r.1 v,b9 r.2.1 v,b9 r.2.2 v⟩
def tr (r:T3):T3:=(⟨r.1.x,r.2.1.x,r.2.2.x⟩,⟨r.1.y,r.2.1.y,r.2.2.y⟩,⟨r.1.z,r.2.1.z,r.2.2.z⟩)
def yq (f:V->V)(r:T3):T3:=(f r.1,f r.2.1,f r.2.2)
def uV (r:T3):Int:=b9 r.1 (cr r.2.1 r.2.2)
def a1k:T3:=(⟨1,0,0⟩,⟨0,1,0⟩,⟨0,0,1⟩)
def a3j (r:T3):tr (tr r)=r:=rfl
def SQ (r c:T3):uV (yq (RH r) c)=uV r*uV c:=by obtain⟨⟨a,b,t⟩,⟨d,e,f⟩,⟨g,h,i⟩⟩:=r;obtain⟨⟨j,k,l⟩,⟨m,n,o⟩,⟨p,q,s⟩⟩:=c;simp[uV,yq,RH,b9];grind
def VN (r:T3)(u v:V):RH r (u-v)=RH r u-RH r v:=by apply ext<;>simp[RH,b9]<;>grind
abbrev Mv:=T3×V
def bR (m:Mv)(P:V):V:=RH m.1 P+m.2
def WQ:Mv:=(a1k,0)
def VU (r:T3):Prop:=uV r=1\/uV r=-1
def mX (m:Mv)(P Q:V):bR m P-bR m Q=RH m.1 (P-Q):=by rw[VN];apply ext<;>simp[bR]<;>lia
def NL (m:Mv)(A B C D:V):f7 (bR m B-bR m A) (bR m C-bR m A) (bR m D-bR m A)=uV m.1*f7 (B-A) (C-A) (D-A):=by rw[mX,mX,mX];exact SQ m.1 (B-A,C-A,D-A)
section
variable{j qts:List V} {m:Mv} {n:V} {d:Int}
end
section
end
section
variable{j qts:List V} {n:V} {d:Int}
end
structure Sl where
 a:Int
 b:Int
 c:Int
 w:V
 t:Bool
def Sl.put (s:Sl)(P:V):V:=
 let x:=P.x+s.a*P.y
 let y:=P.y+s.b*P.z
 let z:=P.z+s.c*x
 if s.t then⟨y+s.w.x,x+s.w.y,z+s.w.z⟩else⟨x+s.w.x,y+s.w.y,z+s.w.z⟩
def Sl.mv (s:Sl):Mv:=
 let d:V:=⟨1,s.a,0⟩
 let e:V:=⟨0,1,s.b⟩
 let f:V:=⟨s.c,s.c*s.a,1⟩
 (if s.t then(e,d,f)else(d,e,f),s.w)
def Sl.ae1 (s:Sl)(P:V):s.put P=bR s.mv P:=by obtain⟨a,b,c,w,t⟩:=s;cases t<;>apply ext<;>simp[Sl.put,Sl.mv,bR,RH,b9]<;>grind
def Sl.unit (s:Sl):VU s.mv.1:=by
 obtain⟨a,b,c,w,t⟩:=s;cases t
 .left;simp[Sl.mv,uV,b9,cr];try grind
 .right;simp[Sl.mv,uV,b9,cr];try grind
def MC {m:Mv}(h:VU m.1){j a:List V}(b:∀X∈j,bR m X∈a)(S:j5 j):j5 a:=by
 obtain⟨A,d,B,f,C,g,D,i,e⟩:=S;refine⟨_,b A d,_,b B f,_,b C g,_,b D i,?_⟩;rw[NL];intro z;rcases aAu.mp z with z|z
 .rcases h with h|h<;>lia
 .exact e z
def yU (P:V){j:List V}(h:P∈j):j5 (j++[⟨P.x+1,P.y,P.z⟩,⟨P.x,P.y+1,P.z⟩,⟨P.x,P.y,P.z+1⟩]):=by
 refine⟨P,by simp[h],⟨P.x+1,P.y,P.z⟩,by simp,⟨P.x,P.y+1,P.z⟩,by simp,⟨P.x,P.y,P.z+1⟩,by simp,?_⟩;have:f7 ((⟨P.x+1,P.y,P.z⟩:V)-P) (⟨P.x,P.y+1,P.z⟩-P) (⟨P.x,P.y,P.z+1⟩-P)=1:=by simp[f7,b9,cr];try grind
 rw[this];decide
def pW {P:V}{j:List V}(h:P∈j):j5 j↔∃u∈j,∃v∈j,cr (u-P) (v-P)≠0/\∃w∈j,b9 (cr (u-P) (v-P)) (w-P)≠0:=by
 have g:∀u v w:V,f7 w u v=b9 (cr u v) w:=λu v w=>by simp[f7,b9,cr];grind
 have i:∀u v w:V,f7 w u v=f7 u v w:=λu v w=>by simp[f7,b9,cr];grind
 constructor
 .rintro⟨A,a,B,b,C,d,D,f,e⟩;have id:f7 (B-A) (C-A) (D-A)=f7 (B-P) (C-P) (D-P)-f7 (A-P) (C-P) (D-P)+f7 (A-P) (B-P) (D-P)-f7 (A-P) (B-P) (C-P):=by simp[f7,b9,cr];grind
  have mk:∀{X Y Z:V},X∈j->Y∈j->Z∈j->f7 (X-P) (Y-P) (Z-P)≠0->∃u∈j,∃v∈j,cr (u-P) (v-P)≠0/\∃w∈j,b9 (cr (u-P)<|v-P) (w-P)≠0:=λ{X Y Z} k l m q=>by rw[<-i,g]at q;exact⟨X,k,Y,l,λz=>q (by rw[z];simp[b9]),Z,m,q⟩
  by_cases n:f7 (B-P) (C-P) (D-P)=0
  .by_cases o:f7 (A-P) (C-P) (D-P)=0
   .by_cases p:f7 (A-P) (B-P) (D-P)=0
    .exact mk a b d (by lia)
    .exact mk a b f p
   .exact mk a d f o
  .exact mk b d f n
 .rintro⟨u,r,v,s,_,w,t,q⟩;exact⟨P,h,u,r,v,s,w,t,by rw[<-i,g];exact q⟩
def Y6 {n m k y:V}(a:f7 n m k≠0)(d:b9 n y=0)(g:b9 m y=0)(h:b9 k y=0):y=0:=by
 have i:∀t:Int,f7 n m k*t=0->t=0:=λt j=>by
  rcases aAu.mp j with q|q
  .exact absurd q a
  .exact q
 have e:∀f:V->Int,(f=(·.x)\/f=(·.y)\/f=(·.z))->f7 n m k*f y=b9 n y*f (cr m k)+b9 m y*f (cr k n)+b9 k y*f (cr n m):=λf b=>by rcases b with rfl|rfl|rfl<;>simp[f7,b9,cr]<;>grind
 have z:∀f:V->Int,(f=(·.x)\/f=(·.y)\/f=(·.z))->f y=0:=λf b=>i _ (by rw[e f b,d,g,h];simp);exact ext (z _<|.inl rfl) (z _<|.inr (.inl rfl)) (z _<|.inr (.inr rfl))
def UM {a b p q d:Int}(f:0<a)(g:0<b)(i:p<=d)(j:q<=d)(e:(a+b)*d=a*p+b*q):p=d:=by
 have k:=aBh (aAO f) (show 0<=d-p by lia);have l:=aBh (aAO g) (show 0<=d-q by lia);have m:a*(d-p)+b*(d-q)=0:=by
  have:a*(d-p)+b*(d-q)=(a+b)*d-(a*p+b*q):=by grind
  lia
 have h:a*(d-p)=0:=by
  clear e;generalize a*(d-p)=u at*
  generalize b*(d-q)=v at*
  lia
 rcases aAu.mp h with q|q<;>lia
section
variable{j:List V} (hs:j5 j) (ho:j.Pairwise (λa b=>e9 (b-a)))
include hs ho
theorem oJ (f:IsFace j n d)(s:X∈d4 j (n,d))(t:P∈j)(u:Q∈j){a b:Int}(v:0<a)(w:0<b)(e:(a+b)*X=a*P+b*Q):P=X:=by
 obtain⟨A,B,i,k,x,y,z,l,o,p⟩:=S9 hs ho f s;have g:∀{m:V} {c:Int},IsFace j m c->b9 m X=c->b9 m (P-X)=0:=λ{m c} h r=>by have q:=la (b9 m) e;rw[i7,show b9 m (a*P+b*Q)=a*b9 m P+b*b9 m Q by simp[b9];grind,r]at q;rw[d8,r,UM v w (h.sup P t) (h.sup Q u) q];lia
 exact T2 (Y6 (dJ hs f i k l o p x y z) (g f l) (g i o)<|g k p)
end
section
variable{j:List V} (hs:j5 j) (ho:j.Pairwise (λa b=>e9 (b-a)))
include hs ho
theorem nU {a b n:V}{d:Int}(g:IsFace j n d)(h:EdgeOf n (λX=>X∈o8 n d j) a b):∃m e,IsFace j m e/\(n,d)≠(m,e)/\b9 m a=e/\b9 m b=e:=by obtain⟨i,f⟩:=X3 hs ho g h;refine⟨_,_,i,λe=>?_,(c6.mp f.q).2,(c6.mp f.p).2⟩;have:(n,d)=b7 b a j:=e;rw[<-this]at f;exact aS hs ho g h f
theorem TN {n m k X Y:V}{d e f:Int}(g:IsFace j n d)(h:IsFace j m e)(i:IsFace j k f)(r:b9 n X=d)(t:b9 m X=e)(u:b9 k X=f)(v:(n,d)≠(m,e))(l:(n,d)≠(k,f))(o:(m,e)≠(k,f))(p:Y∈j)(ne:Y≠X):b9 n Y<d\/b9 m Y<e\/b9 k Y<f:=by
 have q:=dJ hs g h i r t u v l o;have a:=g.sup Y p;have b:=h.sup Y p;have c:=i.sup Y p;by_cases z:b9 n Y<d\/b9 m Y<e\/b9 k Y<f
 .exact z
 .have s:∀{n:V} {d:Int},b9 n X=d->b9 n Y=d->b9 n (Y-X)=0:=λ{n d} g h=>by
   have:b9 n (Y-X)=b9 n Y-b9 n X:=by simp[b9];grind
   lia
  have:=Y6 q (s r (by lia)) (s t (by lia)) (s u (by lia));exact absurd (by have g:=la V.x this;have h:=la V.y this;have i:=la V.z this;simp at g h i;exact ext (by lia) (by lia) (by lia)) ne
end
section
variable{j qts:List V} {n:V} {d:Int} {m:Mv}
end
section
variable{p o:List V} (hs:j5 o) (ho:o.Pairwise (λa b=>e9 (b-a))) (sub:∀X∈p,X∈o) (ex:∀Y∈o,Y∈p\/∃a∈p,∃b∈p,(2:Int)*Y=a+b)
include hs ho sub ex
end
section
variable{j c:List V} (hs:j5 j) (ho:j.Pairwise (λa b=>e9 (b-a))) (bo:c.Pairwise (λa b=>e9 (b-a))) (hc:∀X,X∈c↔∃f:V×Int,IsFace j f.1 f.2/\X∈d4 j f)
include hs ho bo hc
end
def PL {n a b x:V}(d:n≠0)(e:b9 n a=0)(f:b9 n b=0)(nx:b9 n x=0):f7 n a b*x=f7 n x b*a+f7 n a x*b:=by
 have z:=x8 d e f nx;have g:=la (λt=>t*n.x) z;have h:=la (λt=>t*n.y) z;have i:=la (λt=>t*n.z) z;simp only[f7,b9,cr]at g h i;apply ext
 .simp[f7,b9];grind
 .simp[f7,b9];grind
 .simp[f7,b9];grind
def JA:∀ds:List V,∃w:V,∀v∈ds,e9 v->0<b9 w v:=by
 intro ds;obtain⟨N,g⟩:∃N:Int,0<N/\∀v∈ds,-N<v.x/\v.x<N/\-N<v.y/\v.y<N/\-N<v.z/\v.z<N:=by
  induction ds with
  |nil=>exact⟨1,by decide,λv d=>nomatch d⟩
  |cons u ds i=>
   obtain⟨N,f,h⟩:=i;refine⟨N+u.x.natAbs+u.y.natAbs+u.z.natAbs+1,by lia,λv d=>?_⟩;rcases aAd.mp d with rfl|d
   .lia
   .have:=h v d;lia
 obtain⟨f,h⟩:=g;refine⟨⟨2*N*(2*N),2*N,1⟩,λv d p=>?_⟩;obtain⟨j,k,l,m,n,o⟩:=h v d;simp only[b9,Int.one_mul];unfold e9 at p;rcases p with p|⟨p,q|⟨q,r⟩⟩
 .have a:2*N*(2*N)*1<=2*N*(2*N)*v.x:=aAI (by lia) (aBh (by lia) (by lia));have b:2*N*(-N+1)<=2*N*v.y:=aAI (by lia) (by lia);have e:2*N*(-N+1)+2*N*(2*N)*1=2*(N*N)+2*N:=by grind
  have s:0<N*N:=aBk f f
  lia
 .rw[p,aBX];have b:2*N*1<=2*N*v.y:=aAI (by lia) (by lia)
  lia
 .rw[p,q,aBX,aBX];lia
section
variable{j:List V} (hs:j5 j) (ho:j.Pairwise (λa b=>e9 (b-a)))
include hs ho
theorem dS {n:V}{d:Int}{P v Q:V}(b:IsFace j n d)(a:EdgeOf n (λX=>X∈o8 n d j) P v)(f:EdgeOf n (λX=>X∈o8 n d j) v Q):0<f7 n (Q-v) (P-v)/\∀x:V,b9 n x=0->f7 n (Q-v) (P-v)*x=f7 n x (P-v)*(Q-v)+f7 n (Q-v) x*(P-v):=by
 have S:=b.aa2 ho;have h:P≠Q:=λe=>aS hs ho b a (e▸f);have g:∀{X:V},X∈o8 n d j->b9 n (X-v)=0:=λi=>by rw[d8,(c6.mp i).2,(c6.mp a.q).2];lia
 refine⟨S.strict f (S.ab0 a) a.ne h,λx k=>PL b.prim.ne (g f.q) (g a.p) k⟩
theorem xB {n w:V}{d:Int}{P v Q:V}(i:IsFace j n d)(f:EdgeOf n (λX=>X∈o8 n d j) P v)(h:EdgeOf n (λX=>X∈o8 n d j) v Q)(p:0<=b9 w (P-v))(q:0<=b9 w (Q-v)){X:V}(g:X∈o8 n d j):0<=b9 w (X-v):=by
 obtain⟨k,c⟩:=dS hs ho i f h;have e:=la (b9 w) (c (X-v) (by rw[d8,(c6.mp g).2,(c6.mp f.q).2];lia));rw[i7,v9,i7,i7]at e;have b:=h.left X g;have a:=f.left X g;have l:f7 n (X-v) (P-v)=f7 n (v-P) (X-P):=by simp[f7,b9];grind
 have u:=aBh (show 0<=f7 n (X-v) (P-v)by lia) q;have m:=aBh b p;by_cases z:0<=b9 w (X-v)
 .exact z
 .have:=aAz k (show b9 w (X-v)<0 by lia)
  lia
theorem AZ {n w y:V}{d:Int}{P v Q:V}(C:IsFace j n d)(E:EdgeOf n (λX=>X∈o8 n d j) P v)(H:EdgeOf n (λX=>X∈o8 n d j) v Q)(I:b9 n y=0)(J:y≠0)(L:b9 w y=0)(i:0<=f7 n y (P-v))(l:0<=f7 n (Q-v) y)(N:b9 w (P-v)≠0)(m:b9 w (Q-v)≠0):(0<b9 w (P-v)/\b9 w (Q-v)<0)\/(b9 w (P-v)<0/\0<b9 w (Q-v)):=by
 obtain⟨D0,c⟩:=dS hs ho C E H;have a:=c y I;have e:=la (b9 w) a;rw[i7,v9,i7,i7,L,aBX]at e;have o:¬(f7 n y (P-v)=0/\f7 n (Q-v) y=0):=λ⟨O,T⟩=>J (by rw[O,T]at a;have r:=la V.x a;have s:=la V.y a;have u:=la V.z a;simp only[nI,oI,qF,NK,LG,ND,aGM,aGN]at r s u;have k:∀t:Int,f7 n (Q-v) (P-v)*t=0->t=0:=λt U=>(aAu.mp U).resolve_left (by lia);exact ext (k _ r) (k _ s) (k _ u))
 generalize f7 n y (P-v)=A at*
 generalize f7 n (Q-v) y=B at*
 generalize b9 w (P-v)=p at*
 generalize b9 w (Q-v)=q at*
 rcases aDr N with f|f
 .rcases aDr m with b|b
  .exfalso;have Y:A*q<=0:=aAs i (by lia);have u2:B*p<=0:=aAs l (by lia);have g:A=0:=by
    rcases aAu.mp (show A*q=0 by lia)with z|z
    .exact z
    .lia
   have h:B=0:=by
    rcases aAu.mp (show B*p=0 by lia)with z|z
    .exact z
    .lia
   exact o ⟨g,h⟩
  .exact .inr ⟨f,b⟩
 .rcases aDr m with b|b
  .exact .inl ⟨f,b⟩
  .exfalso;have Y:0<=A*q:=aBh i (by lia);have u2:0<=B*p:=aBh l (by lia);have g:A=0:=by
    rcases aAu.mp (show A*q=0 by lia)with z|z
    .exact z
    .lia
   have h:B=0:=by
    rcases aAu.mp (show B*p=0 by lia)with z|z
    .exact z
    .lia
   exact o ⟨g,h⟩
end
def NT {w a b d n1 n2 n:V}(t:w≠0)(a1:b9 w a=0)(a2:b9 w b=0)(a3:b9 w d=0)(b1:b9 n1 a=0)(b2:b9 n2 b=0)(y:b9 n d=0)(o:b9 n1 b<0)(f:b9 n1 d<0)(g:b9 n2 a<0)(i:b9 n2 d<0)(j:b9 n a<0)(l:b9 n b<0):False:=by
 have e:=PL t a1 a2 a3;have u:=la (b9 n1) e;have v:=la (b9 n2) e;have x:=la (b9 n) e;rw[i7,v9,i7,i7]at u v x;rw[b1]at u;rw[b2]at v;rw[y]at x;have p:a≠0:=λz=>by rw[z]at g;simp[b9]at g
 by_cases z:f7 w a b=0
 .have E:=U6 t a1 a2 z;obtain⟨k,m,H,q⟩:=z6 p E;have I:=la (b9 n1) q;rw[i7,i7,b1]at I;have:=aAz H o
  lia
 .generalize f7 w a b=A at*
  generalize f7 w d b=B at*
  generalize f7 w a d=C at*
  rcases aDr z with h|h
  .have J:=aBE h f;have L:=aBE h i;have r:C<0:=by
    by_cases q:C<0
    .exact q
    .have:=aAs (show 0<=C by lia) (show b9 n1 b<=0 by lia);lia
   have s:B<0:=by
    by_cases q:B<0
    .exact q
    .have:=aAs (show 0<=B by lia) (show b9 n2 a<=0 by lia);lia
   have:=aBE s j;have:=aBE r l
   lia
  .have J:=aAz h f;have L:=aAz h i;have r:0<C:=by
    by_cases q:0<C
    .exact q
    .have:=aDU (show C<=0 by lia) (show b9 n1 b<=0 by lia);lia
   have s:0<B:=by
    by_cases q:0<B
    .exact q
    .have:=aDU (show B<=0 by lia) (show b9 n2 a<=0 by lia);lia
   have:=aAz s j;have:=aAz r l
   lia
section
variable{j:List V} (hs:j5 j)
include hs
theorem EK {n w v A B:V}{d:Int}(l:IsFace j n d)(g:A∈o8 n d j)(h:B∈o8 n d j)(k:b9 n v=d)(c:cr (A-v) (B-v)≠0)(a:0<b9 w (A-v))(b:b9 w (B-v)<0):∃y,b9 w y=0/\b9 n y=0/\∀m e,IsFace j m e->b9 m v=e->(m,e)≠(n,d)->b9 m y<0:=by
 have f:∀{X:V},X∈o8 n d j->b9 n (X-v)=0:=λo=>by rw[d8,(c6.mp o).2,k];lia
 refine⟨(-b9 w (B-v))*(A-v)+b9 w (A-v)*(B-v),by rw[v9,i7,i7];grind,by rw[v9,i7,i7,f g,f h];simp,λm e i mv ne=>?_⟩;rw[v9,i7,i7];have p:b9 m (A-v)<=0:=by have:=i.sup A (c6.mp g).1;rw[d8];lia
 have r:b9 m (B-v)<=0:=by have:=i.sup B (c6.mp h).1;rw[d8];lia
 have C:=aAs (show 0<=-b9 w (B-v)by lia) p;have E:=aAs (show 0<=b9 w (A-v)by lia) r;by_cases z:b9 m (A-v)=0/\b9 m (B-v)=0
 .exfalso;have s:=C4 z.1 z.2;have t:=C4 (f g) (f h);exact ne (aG hs i l mv k<|fY c t s)
 .by_cases u:b9 m (A-v)=0
  .have x:b9 m (B-v)<0:=by
    have:b9 m (B-v)≠0:=λq=>z ⟨u,q⟩
    lia
   have:=aAz a x
   lia
  .have:=aAz (show 0< -b9 w (B-v)by lia) (show b9 m (A-v)<0 by lia)
   lia
end
def iI (w:V)(j:List V)(v:V)(f:V×Int):Prop:=∃P Q,EdgeOf f.1 (λX=>X∈o8 f.1 f.2 j) P v/\EdgeOf f.1 (λX=>X∈o8 f.1 f.2 j) v Q/\((0<b9 w (P-v)/\b9 w (Q-v)<0)\/(b9 w (P-v)<0/\0<b9 w (Q-v)))
section
variable{j:List V} (hs:j5 j) (ho:j.Pairwise (λa b=>e9 (b-a)))
include hs ho
theorem iI.way {w v:V}{f:V×Int}(g:IsFace j f.1 f.2)(h:iI w j v f):b9 f.1 v=f.2/\∃y,b9 w y=0/\b9 f.1 y=0/\∀m e,IsFace j m e->b9 m v=e->(m,e)≠f->b9 m y<0:=by
 obtain⟨P,Q,d,i,c⟩:=h;have k:=(c6.mp d.q).2;have l:=(dS hs ho g d i).1;have n:cr (Q-v) (P-v)≠0:=λz=>by unfold f7 at l;rw[z,C3]at l;lia
 have o:cr (P-v) (Q-v)≠0:=λz=>n (by have r:=la V.x z;have s:=la V.y z;have t:=la V.z z;simp at r s t;apply ext<;>simp<;>grind)
 refine⟨k,?_⟩;rcases c with⟨a,b⟩|⟨a,b⟩
 .exact EK hs g d.p i.q k o a b
 .exact EK hs g i.q d.p k n b a
theorem UW {w v:V}{f g k:V×Int}(p:w≠0)(a:IsFace j f.1 f.2)(b:IsFace j g.1 g.2)(d:IsFace j k.1 k.2)(q:iI w j v f)(mg:iI w j v g)(mk:iI w j v k)(e:f≠g)(h:f≠k)(i:g≠k):False:=by obtain⟨v1,z,r,s,l⟩:=q.way hs ho a;obtain⟨m,A,t,u,n⟩:=mg.way hs ho b;obtain⟨v3,B,x,y,o⟩:=mk.way hs ho d;exact NT p r t x s u y (n _ _ a v1 e) (o _ _ a v1 h) (l _ _ b m e.symm) (o _ _ b m i) (l _ _ d v3 h.symm) (n _ _ d v3 i.symm)
end
theorem rG {α:Type}(a b:α->Int):∀l:List α,l≠[]->(∀x∈l,0<b x)->∃x∈l,∀y∈l,a x*b y<=a y*b x
 |[x],_,_=>⟨x,.head _,λy d=>by rw[aAN.mp d];exact aBZ _⟩
 |x::z::l,_,h=>by
  obtain⟨u,e,m⟩:=rG a b (z::l) (by simp) λy d=>h y (.tail _ d);by_cases q:a x*b u<=a u*b x
  .refine⟨x,.head _,λy d=>?_⟩;rcases aAd.mp d with rfl|d
   .exact aBZ _
   .have g:=aAR q (aAO<|h y<|.tail _ d);have i:=aAR (m y d) (aAO<|h x<|.head _);have f:b u*(a x*b y)<=b u*(a y*b x):=by
     have j:b u*(a x*b y)=a x*b u*b y:=by grind
     have k:b u*(a y*b x)=a y*b u*b x:=by grind
     have n:a u*b x*b y=a u*b y*b x:=by grind
     lia
    exact aFg f (h u<|.tail _ e)
  .refine⟨u,.tail _ e,λy d=>?_⟩;rcases aAd.mp d with rfl|d
   .lia
   .exact m y d
section
variable{j:List V} (hs:j5 j) (ho:j.Pairwise (λa b=>e9 (b-a)))
include hs ho
theorem AA {v:V}(r:∃f:V×Int,IsFace j f.1 f.2/\v∈d4 j f){n:V}{d:Int}(s:IsFace j n d)(e:b9 n v=d):v∈d4 j (n,d):=by
 obtain⟨f,h,o⟩:=r;obtain⟨i,l,p,q,t,u,w,x,y,z⟩:=S9 hs ho h o;have A:=(c6.mp<|(h.aa2 ho).aa3 o).1;refine(s.aa2 ho).top (m:=f.1+i.1+l.1) (c6.mpr ⟨A,e⟩) λY g ne=>?_;have g:=(c6.mp g).1;have a:=h.sup Y g;have b:=p.sup Y g;have c:=q.sup Y g;have k:=TN hs ho h p q x y z t u w g ne;have ad:∀Z:V,b9 (f.1+i.1+l.1) Z=b9 f.1 Z+b9 i.1 Z+b9 l.1 Z:=λZ=>by simp[b9];grind
 rw[ad,ad]
 lia
theorem YQ {w v y:V}{g:V×Int}(hc:∃f:V×Int,IsFace j f.1 f.2/\v∈d4 j f)(i:∀X∈j,X≠v->b9 w (X-v)≠0)(h:IsFace j g.1 g.2)(o:b9 g.1 v=g.2)(u:b9 g.1 y=0)(wy:b9 w y=0)(y0:y≠0)(C:∀m e,IsFace j m e->b9 m v=e->b9 m y<=0):iI w j v g:=by
 have S:=h.aa2 ho;have E:=AA hs ho hc h o;obtain⟨Q,hQ⟩:=P7 S E;obtain⟨P,hP⟩:=nV S (l:=j8 g.1 (o8 g.1 g.2 j)) E;have b:=S.aa1.mp hQ;have d:=S.aa1.mp hP;obtain⟨k,c⟩:=dS hs ho h d b;have H:=c y u;have a:∀{A B:V} {m:V} {e:Int},IsFace j m e->b9 m A=e->b9 m v=e->(m,e)≠g->A∈o8 g.1 g.2 j->B∈o8 g.1 g.2 j->cr (A-v) (B-v)≠0->b9 m (A-v)=0/\b9 m (B-v)<0:=λ{A B m e} I mA mv ne hA J cn=>by
  have n:b9 m (A-v)=0:=by rw[d8];lia
  refine⟨n,?_⟩;have mB:b9 m (B-v)<=0:=by have:=I.sup B (c6.mp J).1;rw[d8];lia
  by_cases r:b9 m (B-v)=0
  .exfalso;have L:∀{X:V},X∈o8 g.1 g.2 j->b9 g.1 (X-v)=0:=λhX=>by rw[d8,(c6.mp hX).2,o];lia
   exact ne (aG hs I h mv o<|fY cn (C4 (L hA)<|L J)<|C4 n r)
  .lia
 have N:cr (Q-v) (P-v)≠0:=λz=>by unfold f7 at k;rw[z,C3]at k;lia
 have c2:cr (P-v) (Q-v)≠0:=λz=>N (by have x1:=la V.x z;have x2:=la V.y z;have x3:=la V.z z;simp at x1 x2 x3;apply ext<;>simp<;>grind)
 obtain⟨O,e1,T,s,p1,v1⟩:=nU hs ho h d;obtain⟨U,e2,Y,t,v2,q2⟩:=nU hs ho h b;obtain⟨n,l1⟩:=a T p1 v1 (λq=>s q.symm) d.p b.q c2;obtain⟨r,l2⟩:=a Y q2 v2 (λq=>t q.symm) b.q d.p N;have k1:=la (b9 O) H;have k2:=la (b9 U) H;rw[i7,v9,i7,i7]at k1 k2;rw[n,aBX,aGN]at k1;rw[r,aBX,Int.zero_add]at k2;have y1:=C O e1 T v1;have y2:=C U e2 Y v2;have A:0<=f7 g.1 y (P-v):=by
  by_cases q:0<=f7 g.1 y (P-v)
  .exact q
  .have u1:=aBE (show f7 g.1 y (P-v)<0 by lia) l1;have u2:=aAs (aAO k) y1
   lia
 have B:0<=f7 g.1 (Q-v) y:=by
  by_cases q:0<=f7 g.1 (Q-v) y
  .exact q
  .have u1:=aBE (show f7 g.1 (Q-v) y<0 by lia) l2;have u2:=aAs (aAO k) y2
   lia
 exact⟨P,Q,d,b,AZ hs ho h d b u y0 wy A B (i P (c6.mp d.p).1 d.ne) (i Q (c6.mp b.q).1 (aBV b.ne))⟩
theorem QS {w v o p:V}(w0:w≠0){fs:List (V×Int)}(J:∀f,f∈fs↔IsFace j f.1 f.2)(hc:∃f:V×Int,IsFace j f.1 f.2/\v∈d4 j f)(Q:∀X∈j,X≠v->b9 w (X-v)≠0)(h1:o∈j)(h2:p∈j)(a:0<b9 w (o-v))(b:b9 w (p-v)<0):∃g∈fs,iI w j v g:=by
 obtain⟨f,L,hr⟩:=id hc;obtain⟨g1,g2,f1,f2,n1,n2,n3,x1,x2,x3⟩:=S9 hs ho L hr;have T:=dJ hs L f1 f2 x1 x2 x3 n1 n2 n3;obtain⟨d,A⟩:∃y,y=(-b9 w (p-v))*(o-v)+b9 w (o-v)*(p-v):=⟨_,rfl⟩;have wy:b9 w d=0:=by rw[A,v9,i7,i7];grind
 have up:∀{m:V} {e:Int},IsFace j m e->b9 m v=e->b9 m d<=0:=λ{m e} C mv=>by
  rw[A,v9,i7,i7];have mA:b9 m (o-v)<=0:=by have:=C.sup o h1;rw[d8];lia
  have mB:b9 m (p-v)<=0:=by have:=C.sup p h2;rw[d8];lia
  have u1:=aAs (show 0<=-b9 w (p-v)by lia) mA;have u2:=aAs (show 0<=b9 w (o-v)by lia) mB
  lia
 have E:d≠0:=λz=>by
  have e:=oJ hs ho L hr h1 h2 (a:=-b9 w (p-v)) (b:=b9 w (o-v)) (by lia) a (by
   rw[z]at A;have r:=la V.x A;have N:=la V.y A;have O:=la V.z A;simp only[NK,LG,ND,nI,oI,qF,EQ,ER,FE]at r N O;have z1:(0:V).x=0:=rfl;have z2:(0:V).y=0:=rfl;have z3:(0:V).z=0:=rfl;apply ext
   .simp only[NK,nI];grind
   .simp only[LG,oI];grind
   .simp only[ND,qF];grind)
  rw[e,u0,C3]at a;lia
 obtain⟨i,U⟩:∃t,t=cr w d:=⟨_,rfl⟩;have Y:b9 w i=0:=by rw[U];simp[b9];grind
 have yt:b9 d i=0:=by rw[U];simp[b9];grind
 have tne:i≠0:=λz=>by
  rw[U]at z;obtain⟨k,m,hk,q⟩:=z6 w0 z;have r:=la (b9 w) q;rw[i7,i7,wy,aBX]at r;have ww:=v6 w0;rcases aAu.mp r.symm with s|s
  .rw[s]at q;have p1:=la V.x q;have p2:=la V.y q;have p3:=la V.z q;simp only[nI,oI,qF,aGM]at p1 p2 p3;have kk:∀t:Int,k*t=0->t=0:=λt ht=>(aAu.mp ht).resolve_left (by lia);exact E (ext (kk _ p1) (kk _ p2) (kk _ p3))
  .lia
 have some:∃t,b9 w t=0/\b9 d t=0/\∃h:V×Int,IsFace j h.1 h.2/\b9 h.1 v=h.2/\0<b9 h.1 t:=by
  have n:∀{h:V×Int},IsFace j h.1 h.2->b9 h.1 v=h.2->b9 h.1 i≠0->∃t,b9 w t=0/\b9 d t=0/\∃h:V×Int,IsFace j h.1 h.2/\b9 h.1 v=h.2/\0<b9 h.1 t:=λ{h} B hv q=>by
   have ng:∀u:V,b9 u (-i)=-b9 u i:=λu=>by simp[b9];grind
   rcases aDr q with l|l
   .exact⟨-i,by rw[ng];lia,by rw[ng];lia,h,B,hv,by rw[ng];lia⟩
   .exact⟨i,Y,yt,h,B,hv,l⟩
  by_cases r:b9 f.1 i=0
  .by_cases N:b9 g1.1 i=0
   .by_cases O:b9 g2.1 i=0
    .exact absurd (Y6 T r N O) tne
    .exact n f2 x3 O
   .exact n f1 x2 N
  .exact n L x1 r
 obtain⟨t,Y,yt,h0,hh0,hv0,ht0⟩:=some;obtain⟨h,C,mn⟩:=rG (λh:V×Int=>-b9 h.1 d) (λh=>b9 h.1 t) (fs.filter λh=>decide (b9 h.1 v=h.2)&&decide (0<b9 h.1 t)) (λz=>by
  have:h0∈fs.filter λh=>decide (b9 h.1 v=h.2)&&decide (0<b9 h.1 t):=aAQ.mpr ⟨(J h0).mpr hh0,by simp[hv0,ht0]⟩;rw[z]at this;cases this) λx hx=>by have:=(aAQ.mp hx).2;simp at this;exact this.2
 have B:=(J h).mp (aAQ.mp C).1;have H:=(aAQ.mp C).2;simp only[aAK,decide_eq_true_eq]at H;refine⟨h,(J h).mpr B,YQ hs ho hc Q B H.1 (y:=b9 h.1 t*d+(-b9 h.1 d)*t) (by rw[v9,i7,i7];grind) (by rw[v9,i7,i7,wy,Y];simp) (λz=>?_) λm e I mv=>?_⟩
 .have q:=la (b9 d) z;rw[v9,i7,i7,yt,C3,aBX,aGN]at q;have yy:=v6 E;have:=aBk H.2 yy
  lia
 .rw[v9,i7,i7];have u:=up I mv;have un:=up B H.1;by_cases l:0<b9 m t
  .have k:=mn (m,e) (aAQ.mpr ⟨(J (m,e)).mpr I,by simp[mv,l]⟩);dsimp only at k;have e1:-b9 m d*b9 h.1 t=-(b9 h.1 t*b9 m d):=by grind
   lia
  .have k1:=aAs (aAO H.2) u;have k2:=aAs (show 0<=-b9 h.1 d by lia) (show b9 m t<=0 by lia)
   lia
end
section
open Classical
def cnt {α:Type} (p:α->Prop) (l:List α):Nat:=(l.filter λy=>decide (p y)).length
def T4 {α:Type}{p q:α->Prop}{l:List α}(h:∀x∈l,p x↔q x):cnt p l=cnt q l:=by unfold cnt;rw[List.filter_congr λx a=>decide_eq_decide.mpr (h x a)]
def TV {α:Type}{p:α->Prop}{l:List α}(h:∀x∈l,p x):cnt p l=l.length:=by unfold cnt;rw[List.filter_eq_self.mpr λx a=>decide_eq_true (h x a)]
def ZB {α:Type}{p:α->Prop}{l:List α}(h:∀x∈l,¬p x):cnt p l=0:=by unfold cnt;rw[aEb.mpr λx a=>by rw[decide_eq_true_eq];exact h x a];rfl
def lZ {α:Type}{l:List α}{p:α->Prop}{x:α}(e:l.Nodup)(f:x∈l)(g:p x)(u:∀y∈l,p y->y=x):cnt p l=1:=by
 have sub:∀y,y∈l.filter (λy=>decide (p y))↔y∈[x]:=λy=>by rw[aAQ,aAN,decide_eq_true_eq];exact⟨λh=>u y h.1 h.2,λh=>by rw[h];exact⟨f,g⟩⟩
 have a:=p8 (e.sublist aBl) (m:=[x]) λy d=>(sub y).mp d;have b:=p8 (l:=[x]) (by simp) (m:=l.filter λy=>decide (p y)) λy d=>(sub y).mpr d;rw[aFR]at a b;unfold cnt
 lia
def cnt_cons {α:Type}{p:α->Prop}(x:α)(l:List α):cnt p (x::l)=(if p x then 1 else 0)+cnt p l:=by
 unfold cnt;by_cases h:p x
 .rw[aFz (by rw[decide_eq_true_eq];exact h),kn h,aAt];lia
 .rw[aFA (by rw[decide_eq_true_eq];exact h),ku h];lia
theorem bD {α:Type}{p q:α->Prop}:∀l:List α,cnt p l=cnt (λy=>p y/\q y) l+cnt (λy=>p y/\¬q y) l
 |[]=>rfl
 |x::l=>by
  have d:=bD (p:=p) (q:=q) l;rw[cnt_cons,cnt_cons,cnt_cons,d];by_cases a:p x
  .by_cases b:q x
   .simp[a,b];lia
   .simp[a,b];lia
  .simp[a]
theorem oU (h:V->Int):∀l:List V,l≠[]->∃x∈l,∀y∈l,h y<=h x
 |[x],_=>⟨x,.head _,λy a=>by rw[aAN.mp a];exact aBZ _⟩
 |x::z::l,_=>by
  obtain⟨u,b,m⟩:=oU h (z::l) (by simp);by_cases q:h u<=h x
  .refine⟨x,.head _,λy a=>?_⟩;rcases aAd.mp a with rfl|a
   .exact aBZ _
   .have:=m y a;lia
  .refine⟨u,.tail _ b,λy a=>?_⟩;rcases aAd.mp a with rfl|a
   .lia
   .exact m y a
def JJ {α β:Type}(R:α->β->Prop)(e:List α):∀bs:List β,(e.map λa=>cnt (R a) bs).sum=(bs.map λb=>cnt (λa=>R a b) e).sum:=by
 intro bs;induction e with
 |nil=>
  induction bs with
  |nil=>rfl
  |cons b bs d=>rw[aAv,aCa,<-d];rfl
 |cons a e d=>
  rw[aAv,aCa,d];clear d;induction bs with
  |nil=>rfl
  |cons b bs d=>
   simp only[aAv,aCa,cnt_cons]at d⊢
   lia
def Nu (w:V)(j:List V)(v:V)(f:V×Int):Prop:=∃Q,EdgeOf f.1 (λX=>X∈o8 f.1 f.2 j) v Q/\0<b9 w (Q-v)
def Pu (w:V)(j:List V)(v:V)(f:V×Int):Prop:=∃P,EdgeOf f.1 (λX=>X∈o8 f.1 f.2 j) P v/\0<b9 w (P-v)
structure Hgt (w:V)(j:List V):Prop where
 ne:w≠0
 inj:∀X∈j,∀Y∈j,X≠Y->b9 w (X-Y)≠0
section
variable{j:List V} {w:V} (hs:j5 j) (ho:j.Pairwise (λa b=>e9 (b-a))) (hw:Hgt w j)
include hs ho hw
theorem aI {f:V×Int}(h:IsFace j f.1 f.2){v:V}(d:v∈d4 j f):∃P Q,EdgeOf f.1 (λX=>X∈o8 f.1 f.2 j) P v/\EdgeOf f.1 (λX=>X∈o8 f.1 f.2 j) v Q/\(Nu w j v f↔0<b9 w (Q-v))/\(Pu w j v f↔0<b9 w (P-v))/\b9 w (P-v)≠0/\b9 w (Q-v)≠0:=by have S:=h.aa2 ho;obtain⟨Q,i⟩:=P7 S d;obtain⟨P,k⟩:=nV S (l:=j8 f.1 (o8 f.1 f.2 j)) d;have b:=S.aa1.mp i;have a:=S.aa1.mp k;have g:=(c6.mp a.q).1;refine⟨P,Q,a,b,⟨λ⟨n,e,l⟩=>by rw[<-e.next b];exact l,λl=>⟨Q,b,l⟩⟩,⟨λ⟨m,e,l⟩=>?_,λl=>⟨P,a,l⟩⟩,hw.inj P (c6.mp a.p).1 v g a.ne,hw.inj Q (c6.mp b.q).1 v g (aBV b.ne)⟩;have:m=P:=e.prev a;rw[<-this];exact l
theorem iD {f:V×Int}(d:IsFace j f.1 f.2){v:V}(e:v∈d4 j f):iI w j v f↔(Nu w j v f↔¬Pu w j v f):=by
 obtain⟨P,Q,a,b,n,p,i,k⟩:=aI hs ho hw d e;rw[n,p];constructor
 .rintro⟨l,m,g,h,c⟩;rw[g.prev a,h.next b]at c
  lia
 .intro c;exact⟨P,Q,a,b,by lia⟩
theorem CM {f:V×Int}(d:IsFace j f.1 f.2):(d4 j f).length=2+cnt (λv=>iI w j v f) (d4 j f):=by
 have S:=d.aa2 ho;have H:(d4 j f).Nodup:=S.aa4;obtain⟨J,L,N,_,_⟩:=S.aa9;have ne:d4 j f≠[]:=λz=>by rw[show d4 j f=J::L from N]at z;cases z
 have sub:∀v∈d4 j f,v∈o8 f.1 f.2 j:=λv o=>S.aa3 o;have m:∀X Y:V,b9 w (X-Y)=b9 w X-b9 w Y:=λX Y=>d8 ..;have t:∀X Y:V,b9 (-w) (X-Y)=-b9 w (X-Y):=λX Y=>by simp[b9];grind
 obtain⟨a,r,u⟩:=oU (λv=>-b9 w v) _ ne;obtain⟨b,s,A⟩:=oU (λv=>b9 w v) _ ne;have O:cnt (λv=>Nu w j v f/\Pu w j v f) (d4 j f)=1:=by
  refine lZ H r ?_ λy g z=>?_
  .obtain⟨P,Q,i,l,n,p,B,C⟩:=aI hs ho hw d r;have T:=u P (S.ab0 i);have E:=u Q (W6 S<|S.aa1.mpr l).2;rw[n,p];have:=m P a;have:=m Q a
   lia
  .obtain⟨P,Q,i,l,n,p,B,C⟩:=aI hs ho hw d g;have k:=xB hs ho d i l (w:=w) (by have:=p.mp z.2;lia) (by have:=n.mp z.1;lia) (sub a r);have E:=u y g;by_cases e:y=a
   .exact e
   .have:=hw.inj a (c6.mp<|sub a r).1 y (c6.mp<|sub y g).1 (aBV e);have:=m a y
    lia
 have I:cnt (λv=>¬Nu w j v f/\¬Pu w j v f) (d4 j f)=1:=by
  refine lZ H s ?_ λy g z=>?_
  .obtain⟨P,Q,i,l,n,p,B,C⟩:=aI hs ho hw d s;have T:=A P (S.ab0 i);have E:=A Q (W6 S<|S.aa1.mpr l).2;rw[n,p];have:=m P b;have:=m Q b
   lia
  .obtain⟨P,Q,i,l,n,p,B,C⟩:=aI hs ho hw d g;rw[n,p]at z;have k:=xB hs ho d i l (w:=-w) (by rw[t];lia) (by rw[t];lia) (sub b s);rw[t]at k;have E:=A y g;by_cases e:y=b
   .exact e
   .have:=hw.inj b (c6.mp<|sub b s).1 y (c6.mp<|sub y g).1 (aBV e);have:=m b y
    lia
 have U:=bD (p:=λv=>True) (q:=λv=>iI w j v f) (d4 j f);have c2:=bD (p:=λv=>True/\¬iI w j v f) (q:=λv=>Nu w j v f) (d4 j f);have e0:cnt (λ_=>True) (d4 j f)=(d4 j f).length:=TV λ_ _=>trivial;have e1:cnt (λy=>True/\iI w j y f) (d4 j f)=cnt (λv=>iI w j v f) (d4 j f):=T4 λv _=>⟨λh=>h.2,λh=>⟨trivial,h⟩⟩;have e2:cnt (λy=>(True/\¬iI w j y f)/\Nu w j y f) (d4 j f)=cnt (λv=>Nu w j v f/\Pu w j v f) (d4 j f):=T4 λv o=>by rw[iD hs ho hw d o];by_cases x:Nu w j v f<;>by_cases y:Pu w j v f<;>simp[x,y]
 have e3:cnt (λy=>(True/\¬iI w j y f)/\¬Nu w j y f) (d4 j f)=cnt (λv=>¬Nu w j v f/\¬Pu w j v f) (d4 j f):=T4 λv o=>by rw[iD hs ho hw d o];by_cases x:Nu w j v f<;>by_cases y:Pu w j v f<;>simp[x,y]
 lia
omit hs ho hw in
theorem mO {α β:Type}(T:α->β->Prop){l:List α}{m:List β}(f:l.Nodup)(h:∀a∈l,∃b∈m,T a b)(inj:∀a∈l,∀p∈l,∀b,T a b->T p b->a=p):l.length<=m.length:=by
 match l,f,h,inj with
 |[],_,_,_=>exact aAX _
 |x::l,f,h,inj=>
  obtain⟨r,_,_⟩:=h x (.head _)
  let φ:α->β:=λa=>if q:∃b∈m,T a b then q.choose else r
  have g:∀a∈x::l,φ a∈m/\T a (φ a):=λa i=>by have q:=h a i;have e:φ a=q.choose:=dif_pos q;rw[e];exact q.choose_spec
  have n:((x::l).map φ).Nodup:=by
   have o:∀k:List α,(∀a∈k,a∈x::l)->k.Nodup->(k.map φ).Nodup:=λk=>by
    induction k with
    |nil=>intro _ _;exact .nil
    |cons a k s=>intro sub t;obtain⟨u,v⟩:=aAG.mp t;refine aAG.mpr ⟨λz=>?_,s (λb d=>sub b (.tail _ d)) v⟩;obtain⟨b,d,e⟩:=aAk.mp z;have:=inj a (sub a<|.head _) b (sub b<|.tail _ d) (φ a) (g a<|sub a<|.head _).2 (by rw[<-e];exact(g b<|sub b<|.tail _ d).2);exact u (this▸d)
   exact o _ (λ_ h=>h) f
  have:=p8 n (m:=m) λb d=>by obtain⟨a,i,rfl⟩:=aAk.mp d;exact(g a i).1
  rw[aAi]at this;exact this
theorem xO {f:V×Int}(a:IsFace j f.1 f.2){P Q:V}(h:EdgeOf f.1 (λX=>X∈o8 f.1 f.2 j) P Q):P∈d4 j f/\Q∈d4 j f:=by have S:=a.aa2 ho;exact W6 S (S.aa1.mpr h)
theorem rE {f g:V×Int}(a:IsFace j f.1 f.2)(b:IsFace j g.1 g.2){P Q:V}(d:EdgeOf f.1 (λX=>X∈o8 f.1 f.2 j) P Q)(e:EdgeOf g.1 (λX=>X∈o8 g.1 g.2 j) P Q):f=g:=nK hs ho a b ((a.aa2 ho).aa1.mpr d) ((b.aa2 ho).aa1.mpr e)
theorem oq {fs:List (V×Int)}(u:fs.Nodup)(h:∀f,f∈fs↔IsFace j f.1 f.2)(v:V):cnt (λf=>v∈d4 j f/\Nu w j v f) fs=cnt (λf=>v∈d4 j f/\Pu w j v f) fs:=by
 have d:∀{p:V×Int->Prop} {f:V×Int},f∈fs.filter (λy=>decide (p y))↔f∈fs/\p f:=λ{p f}=>by rw[aAQ,decide_eq_true_eq]
 unfold cnt;refine aEB ?_ ?_
 .refine mO (λf g=>∃Q,EdgeOf f.1 (λX=>X∈o8 f.1 f.2 j) v Q/\EdgeOf g.1 (λX=>X∈o8 g.1 g.2 j) Q v/\IsFace j g.1 g.2) (u.sublist aBl) (λf i=>?_) λf i n o g ⟨Q,a,b,_⟩ ⟨q,r,s,_⟩=>?_
  .obtain⟨t,x,Q,e,l⟩:=d.mp i;obtain⟨k,m⟩:=X3 hs ho ((h f).mp t) e;exact⟨_,d.mpr ⟨(h _).mpr k,(xO hs ho hw k m).2,Q,m,l⟩,Q,e,m,k⟩
  .have:Q=q:=b.prev s;subst this;exact rE hs ho hw ((h f).mp (d.mp i).1) ((h n).mp (d.mp o).1) a r
 .refine mO (λf g=>∃P,EdgeOf f.1 (λX=>X∈o8 f.1 f.2 j) P v/\EdgeOf g.1 (λX=>X∈o8 g.1 g.2 j) v P/\IsFace j g.1 g.2) (u.sublist aBl) (λf i=>?_) λf i n o g ⟨Q,a,b,_⟩ ⟨q,r,s,_⟩=>?_
  .obtain⟨t,x,P,e,l⟩:=d.mp i;obtain⟨k,m⟩:=X3 hs ho ((h f).mp t) e;exact⟨_,d.mpr ⟨(h _).mpr k,(xO hs ho hw k m).1,P,m,l⟩,P,e,m,k⟩
  .have:Q=q:=b.next s;subst this;exact rE hs ho hw ((h f).mp (d.mp i).1) ((h n).mp (d.mp o).1) a r
omit hs ho hw in
theorem RY {α:Type}{p:α->Prop}{l:List α}(i:l.Nodup)(h:∀a∈l,∀b∈l,∀c∈l,p a->p b->p c->a≠b->a≠c->b≠c->False):cnt p l<=2:=by
 have f:∀k:List α,k.Nodup->(∀a∈k,a∈l/\p a)->k.length<=2:=λk d e=>by
  match k,d,e with
  |[],_,_=>simp
  |[_],_,_=>simp
  |[_,_],_,_=>simp
  |a::b::c::k,d,e=>
   exfalso;obtain⟨m,n⟩:=e a (by simp);obtain⟨o,q⟩:=e b (by simp);obtain⟨r,s⟩:=e c (by simp);refine h a m b o c r n q s ?_ ?_ ?_
   .rintro rfl;simp at d
   .rintro rfl;simp at d
   .rintro rfl;simp at d
 exact f _ (i.sublist aBl) λa g=>by rw[aAQ,decide_eq_true_eq]at g;exact g
omit hs ho hw in
theorem SV {α:Type}{p:α->Prop}{l:List α}{x:α}(b:x∈l)(d:p x):1<=cnt p l:=aDn (a:=x) (aAQ.mpr ⟨b,decide_eq_true d⟩)
theorem CD {fs:List (V×Int)}(n:fs.Nodup)(d:∀f,f∈fs↔IsFace j f.1 f.2){v o r:V}(s:∃f:V×Int,IsFace j f.1 f.2/\v∈d4 j f)(t:o∈j)(u:r∈j)(a:0<b9 w (o-v))(b:b9 w (r-v)<0):cnt (λf=>v∈d4 j f/\iI w j v f) fs=2:=by
 have z:v∈j:=by obtain⟨f,i,A⟩:=s;exact(c6.mp<|(i.aa2 ho).aa3 A).1
 have e:=oq hs ho hw n d v;have O:=bD (p:=λf=>v∈d4 j f/\Nu w j v f) (q:=λf=>Pu w j v f) fs;have T:=bD (p:=λf=>v∈d4 j f/\Pu w j v f) (q:=λf=>Nu w j v f) fs;have U:=bD (p:=λf=>v∈d4 j f/\iI w j v f) (q:=λf=>Nu w j v f) fs;have Y:cnt (λf=>(v∈d4 j f/\Nu w j v f)/\Pu w j v f) fs=cnt (λf=>(v∈d4 j f/\Pu w j v f)/\Nu w j v f) fs:=T4 λf _=>⟨λh=>⟨⟨h.1.1,h.2⟩,h.1.2⟩,λh=>⟨⟨h.1.1,h.2⟩,h.1.2⟩⟩;have e2:cnt (λf=>(v∈d4 j f/\iI w j v f)/\Nu w j v f) fs=cnt (λf=>(v∈d4 j f/\Nu w j v f)/\¬Pu w j v f) fs:=T4 λf i=>by
  by_cases q:v∈d4 j f
  .rw[iD hs ho hw ((d f).mp i) q];by_cases x:Nu w j v f<;>by_cases y:Pu w j v f<;>simp[x,y,q]
  .simp[q]
 have e3:cnt (λf=>(v∈d4 j f/\iI w j v f)/\¬Nu w j v f) fs=cnt (λf=>(v∈d4 j f/\Pu w j v f)/\¬Nu w j v f) fs:=T4 λf i=>by
  by_cases q:v∈d4 j f
  .rw[iD hs ho hw ((d f).mp i) q];by_cases x:Nu w j v f<;>by_cases y:Pu w j v f<;>simp[x,y,q]
  .simp[q]
 have le:cnt (λf=>v∈d4 j f/\iI w j v f) fs<=2:=RY n λf i g l k B C E H I J L=>UW hs ho hw.ne ((d f).mp i) ((d g).mp l) ((d k).mp B) C.2 E.2 H.2 I J L;have ge:1<=cnt (λf=>v∈d4 j f/\iI w j v f) fs:=by obtain⟨g,l,m⟩:=QS hs ho hw.ne d s (λX N ne=>hw.inj X N v z ne) t u a b;obtain⟨P,Q,p,q,_⟩:=id m;exact SV l ⟨(xO hs ho hw ((d g).mp l) p).2,m⟩
 lia
end
end
section
open Classical
def UK {α:Type}{p:α->Prop}{l m:List α}(f:l.Nodup)(g:m.Nodup)(sub:∀x∈l,x∈m):cnt p l=cnt (λx=>x∈l/\p x) m:=by
 have a:∀{q:α->Prop} {k:List α} {x:α},x∈k.filter (λy=>decide (q y))↔x∈k/\q x:=λ{q k x}=>by rw[aAQ,decide_eq_true_eq]
 unfold cnt;refine aEB (p8 (f.sublist aBl) λx d=>?_) (p8 (g.sublist aBl) λx d=>?_)
 .obtain⟨b,e⟩:=a.mp d;exact a.mpr ⟨sub x b,b,e⟩
 .obtain⟨_,b,e⟩:=a.mp d;exact a.mpr ⟨b,e⟩
theorem FX {α:Type}(g:α->Nat)(p:α->Prop):∀l:List α,(∀x∈l,p x->g x=0)->(∀x∈l,¬p x->g x=2)->(l.map g).sum+2*cnt p l=2*l.length
 |[],_,_=>rfl
 |x::l,b,d=>by
  have e:=FX g p l (λy a=>b y (.tail _ a)) λy a=>d y (.tail _ a);rw[aAv,aCa,cnt_cons,aAt];by_cases q:p x
  .rw[b x (.head _) q,kn q];lia
  .rw[d x (.head _) q,ku q];lia
def YO (j:List V)(d:j5 j):∃w,Hgt w j:=by
 obtain⟨w,h⟩:=JA (j.flatMap λX=>j.map λY=>X-Y);have k:∀X∈j,∀Y∈j,e9 (X-Y)->0<b9 w (X-Y):=λX a Y b p=>h _ (aBd.mpr ⟨X,a,aBo b⟩) p;have inj:∀X∈j,∀Y∈j,X≠Y->b9 w (X-Y)≠0:=λX a Y b ne=>by
  have l:b9 w (X-Y)=-b9 w (Y-X):=by simp[b9];grind
  rcases C9 X Y with e|e|e
  .exact absurd e ne
  .have:=k X a Y b e;lia
  .have:=k Y b X a e;lia
 refine⟨w,λz=>?_,inj⟩;obtain⟨A,f,B,g,C,m,E,n,e⟩:=d;have i:B≠A:=λq=>e (by rw[q,u0];simp[f7,b9]);exact inj B g A f i (by rw[z];simp[b9])
variable{j:List V} (hs:j5 j) (ho:j.Pairwise (λa b=>e9 (b-a)))
include hs ho
theorem sE {fs:List (V×Int)}(U:fs.Nodup)(I:∀f,f∈fs↔IsFace j f.1 f.2)(ne:fs≠[]){c:List V}(nc:c.Nodup)(J:∀X,X∈c↔∃f:V×Int,IsFace j f.1 f.2/\X∈d4 j f):(fs.map λf=>(d4 j f).length).sum+4=2*fs.length+2*c.length:=by
 obtain⟨w,A⟩:=YO j hs;have C:∀X∈c,X∈j:=λX hX=>by obtain⟨f,u,hr⟩:=(J X).mp hX;exact(c6.mp<|(u.aa2 ho).aa3 hr).1
 have H:∀X Y:V,b9 w (X-Y)=b9 w X-b9 w Y:=λX Y=>d8 ..;obtain⟨d,hf0⟩:∃d,d∈fs:=by
  match fs,ne with
  |f::_,_=>exact⟨f,.head _⟩
 have B:=(I d).mp hf0;obtain⟨r,s,t,l,er⟩:=O5 ho B;have L:r∈c:=(J r).mpr ⟨d,B,by show r∈j8 d.1 (o8 d.1 d.2 j);rw[er];simp⟩;have sc:s∈c:=(J s).mpr ⟨d,B,by show s∈j8 d.1 (o8 d.1 d.2 j);rw[er];simp⟩;have rs:r≠s:=λq=>by have:=(B.aa2 ho).aa4;rw[er,q]at this;simp at this
 have cne:c≠[]:=λz=>by rw[z]at L;cases L
 obtain⟨a,ha,N⟩:=oU (λv=>-b9 w v) c cne;obtain⟨b,hb,O⟩:=oU (λv=>b9 w v) c cne;have ab:a≠b:=λq=>by
  have e:∀x∈c,b9 w x=b9 w a:=λx o=>by
   have:=N x o;have:=O x o;rw[<-q]at this
   lia
  exact A.inj r (C r L) s (C s sc) rs (by rw[H,e r L,e s sc];lia)
 have wc:∀f∈fs,∀x∈d4 j f,x∈c:=λf u x o=>(J x).mpr ⟨f,(I f).mp u,o⟩;have s1:(fs.map λf=>(d4 j f).length).sum=2*fs.length+(fs.map λf=>cnt (λv=>v∈d4 j f/\iI w j v f) c).sum:=by
  have key:∀E:List (V×Int),(∀f∈E,f∈fs)->(E.map λf=>(d4 j f).length).sum=2*E.length+(E.map λf=>cnt (λv=>v∈d4 j f/\iI w j v f) c).sum:=λE=>by
   induction E with
   |nil=>intro _;rfl
   |cons f E ih=>
    intro h;have i:=ih λg hg=>h g (.tail _ hg);have u:=(I f).mp (h f<|.head _);have k:=CM hs ho A u;have U:(d4 j f).Nodup:=(u.aa2 ho).aa4;rw[UK (l:=d4 j f) (p:=λv=>iI w j v f) U nc (wc f<|h f<|.head _)]at k;rw[aAv,aCa,aAv,aCa,aAt,i,k]
    lia
  exact key fs λ_ h=>h
 have s2:=JJ (λ(f:V×Int) v=>v∈d4 j f/\iI w j v f) fs c;have no:∀x∈c,(x=a\/x=b)->cnt (λf=>x∈d4 j f/\iI w j x f) fs=0:=λx o q=>ZB λf u ⟨h1,h2⟩=>by
  have T:=(I f).mp u;obtain⟨P,Q,e1,e2,n,p,p0,q0⟩:=aI hs ho A T h1;have hP:=wc f u P (xO hs ho A T e1).1;have hQ:=wc f u Q (xO hs ho A T e2).2;have m:=(iD hs ho A T h1).mp h2;rw[n,p]at m;have d1:=H P x;have d2:=H Q x;rcases q with rfl|rfl
  .have:=N P hP;have:=N Q hQ;lia
  .have:=O P hP;have:=O Q hQ;lia
 have yes:∀x∈c,¬(x=a\/x=b)->cnt (λf=>x∈d4 j f/\iI w j x f) fs=2:=λx o q=>by have n1:=A.inj b (C b hb) x (C x o) (λz=>q (.inr z.symm));have n2:=A.inj a (C a ha) x (C x o) (λz=>q (.inl z.symm));have:=O x o;have:=N x o;rw[H]at n1 n2;exact CD hs ho A U I ((J x).mp o) (C b hb) (C a ha) (by rw[H];lia) (by rw[H];lia)
 have s3:=FX (λv=>cnt (λf=>v∈d4 j f/\iI w j v f) fs) (λx=>x=a\/x=b) c no yes;have two:cnt (λx=>x=a\/x=b) c=2:=by
  have k:=bD (p:=λx=>x=a\/x=b) (q:=λx=>x=a) c;have k1:cnt (λy=>(y=a\/y=b)/\y=a) c=1:=lZ nc ha ⟨.inl rfl,rfl⟩ λy _ h=>h.2;have k2:cnt (λy=>(y=a\/y=b)/\¬y=a) c=1:=lZ nc hb ⟨.inr rfl,λq=>ab q.symm⟩ λy _ h=>h.1.resolve_left h.2
  lia
 lia
end
section
open Classical
def OU {W:List (V×V)}(l:W.Nodup)(j:∀P Q,(P,Q)∈W->(Q,P)∈W)(ne:∀P Q,(P,Q)∈W->P≠Q){E:List (V×V)}(g:E.Nodup)(f:∀P Q,(P,Q)∈E↔(P,Q)∈W/\e9 (Q-P)):W.length=2*E.length:=by
 have inj:∀a b:V×V,(a.2,a.1)=(b.2,b.1)->a=b:=λ⟨a,b⟩ ⟨c,d⟩ h=>by cases h;rfl
 have m:(E++E.map λe=>(e.2,e.1)).Nodup:=aCl.mpr ⟨g,List.Pairwise.map _ (λa b h n=>h (inj a b n)) g,λa o b p q=>by subst q;obtain⟨⟨P,Q⟩,h,rfl⟩:=aAk.mp p;exact o5 ((f _ _).mp h).2 ((f _ _).mp o).2⟩
 have r:(E++E.map λe=>(e.2,e.1)).length<=W.length:=p8 m λx i=>by
  obtain⟨P,Q⟩:=x;rcases aAT.mp i with h|h
  .exact((f _ _).mp h).1
  .obtain⟨⟨R,S⟩,k,e⟩:=aAk.mp h;cases e;exact j _ _ ((f R S).mp k).1
 have s:W.length<=(E++E.map λe=>(e.2,e.1)).length:=p8 l λx i=>by
  obtain⟨P,Q⟩:=x;rcases C9 P Q with e|e|e
  .exact absurd e (ne _ _ i)
  .exact aAH _ (aAk.mpr ⟨(Q,P),(f _ _).mpr ⟨j _ _ i,e⟩,rfl⟩)
  .exact aBq _ ((f _ _).mpr ⟨i,e⟩)
 rw[aAC,aAi]at r s
 lia
variable{j:List V} (hs:j5 j) (ho:j.Pairwise (λa b=>e9 (b-a))) {fs:List (V×Int)} (av:∀f,f∈fs↔IsFace j f.1 f.2)
include hs ho av
theorem Q5 {P Q:V}:(P,Q)∈X1 j fs↔∃f:V×Int,IsFace j f.1 f.2/\EdgeOf f.1 (λX=>X∈o8 f.1 f.2 j) P Q:=by
 unfold X1;rw[aBd];constructor
 .rintro⟨f,a,h⟩;exact⟨f,(av f).mp a,(((av f).mp a).aa2 ho).aa1.mp h⟩
 .rintro⟨f,a,h⟩;exact⟨f,(av f).mpr a,(a.aa2 ho).aa1.mpr h⟩
theorem T5 {P Q:V}(h:(P,Q)∈X1 j fs):(Q,P)∈X1 j fs:=by obtain⟨f,a,e⟩:=(Q5 hs ho av).mp h;obtain⟨b,d⟩:=X3 hs ho a e;exact(Q5 hs ho av).mpr ⟨_,b,d⟩
theorem uI {P Q:V}(h:(P,Q)∈X1 j fs):P≠Q:=by obtain⟨f,a,e⟩:=(Q5 hs ho av).mp h;exact e.ne
theorem jK (a:fs.Nodup){E:List (V×V)}(b:E.Nodup)(d:∀P Q,(P,Q)∈E↔(P,Q)∈X1 j fs/\e9 (Q-P)):(X1 j fs).length=2*E.length:=
 OU (V6 hs ho a λf e=>(av f).mp e) (λ_ _=>T5 hs ho av) (λ_ _=>uI hs ho av) b d
theorem a0b (a:fs.Nodup)(ne:fs≠[]){c:List V}(b:c.Nodup)(d:∀X,X∈c↔∃f:V×Int,IsFace j f.1 f.2/\X∈d4 j f){E:List (V×V)}(e:E.Nodup)(g:∀P Q,(P,Q)∈E↔(P,Q)∈X1 j fs/\e9 (Q-P)):c.length+fs.length=E.length+2:=by
 have i:=sE hs ho a av ne b d;have h:=jK hs ho av a e g;rw[nP]at h
 lia
theorem tM (a:fs.Nodup)(ne:fs≠[]){c:List V}(b:c.Nodup)(d:∀X,X∈c↔∃f:V×Int,IsFace j f.1 f.2/\X∈d4 j f):fs.length+4<=2*c.length/\(fs.map λf=>(d4 j f).length).sum+12<=6*c.length:=by have g:=sE hs ho a av ne b d;have h:=kL hs ho (fs:=fs) λf e=>(av f).mp e;constructor<;>lia
theorem HI (d:fs.Nodup)(ne:fs≠[]){E:List (V×V)}(e:E.Nodup)(g:∀P Q,(P,Q)∈E↔(P,Q)∈X1 j fs/\e9 (Q-P)):E.length+6<=3*j.length/\fs.length+4<=2*j.length:=by
 have i:j.Nodup:=ho.imp λ{a b} h q=>by rw[q]at h;exact o5 h h
 have k:∀X,X∈j.filter (λX=>decide (∃f:V×Int,IsFace j f.1 f.2/\X∈d4 j f))↔∃f:V×Int,IsFace j f.1 f.2/\X∈d4 j f:=λX=>by rw[aAQ,decide_eq_true_eq];exact⟨λh=>h.2,λh=>⟨by obtain⟨f,l,m⟩:=h;exact(c6.mp<|(l.aa2 ho).aa3 m).1,h⟩⟩
 have o:=tM hs ho av d ne (i.sublist aBl) k;have n:=jK hs ho av d e g;rw[nP]at n;have:=aEk (λX=>decide (∃f:V×Int,IsFace j f.1 f.2/\X∈d4 j f)) j;constructor<;>lia
theorem xI (A:fs.Nodup){E:List (V×V)}(B:E.Nodup)(k:∀P Q,(P,Q)∈E↔(P,Q)∈X1 j fs/\e9 (Q-P))(v:V):cnt (λe=>v=e.1\/v=e.2) E=cnt (λf=>v∈d4 j f) fs:=by
 have b:∀{α:Type} {l:List α} {p:α->Prop} {x:α},x∈l.filter (λy=>decide (p y))↔x∈l/\p x:=λ{α l p x}=>by rw[aAQ,decide_eq_true_eq]
 unfold cnt;refine aEB ?_ ?_
 .
  refine mO (λe f=>∃Q,EdgeOf f.1 (λX=>X∈o8 f.1 f.2 j) v Q/\(e=(v,Q)\/e=(Q,v))) (B.sublist aBl) (λe o=>?_) λe o u C f h r=>?_
  .obtain⟨P,Q⟩:=e;obtain⟨h,q⟩:=b.mp o;have h:=((k _ _).mp h).1;rcases q with q|q
   .have q:v=P:=q;subst q;obtain⟨f,d,a⟩:=(Q5 hs ho av).mp h;exact⟨f,b.mpr ⟨(av f).mpr d,(W6 (d.aa2 ho)<|(d.aa2 ho).aa1.mpr a).1⟩,Q,a,.inl rfl⟩
   .have q:v=Q:=q;subst q;obtain⟨f,d,a⟩:=(Q5 hs ho av).mp (T5 hs ho av h);exact⟨f,b.mpr ⟨(av f).mpr d,(W6 (d.aa2 ho)<|(d.aa2 ho).aa1.mpr a).1⟩,P,a,.inr rfl⟩
  .obtain⟨Q,a,q⟩:=h;obtain⟨w,s,g⟩:=r;have:=a.next s;subst this;have l:=((k e.1 e.2).mp (b.mp o).1).2;have z:=((k u.1 u.2).mp (b.mp C).1).2;rcases q with rfl|rfl<;>rcases g with rfl|rfl
   .rfl
   .exact(o5 l z).elim
   .exact(o5 l z).elim
   .rfl
 .refine mO (λf e=>∃Q,EdgeOf f.1 (λX=>X∈o8 f.1 f.2 j) v Q/\(e=(v,Q)\/e=(Q,v))) (A.sublist aBl) (λf d=>?_) λf d H I e h r=>?_
  .obtain⟨m,n⟩:=b.mp d;have t:=(av f).mp m;obtain⟨Q,J⟩:=P7 (t.aa2 ho) (l:=d4 j f) n;have a:=(t.aa2 ho).aa1.mp J;have i:(v,Q)∈X1 j fs:=(Q5 hs ho av).mpr ⟨f,t,a⟩;rcases C9 v Q with q|q|q
   .exact absurd q (uI hs ho av i)
   .exact⟨(Q,v),b.mpr ⟨(k _ _).mpr ⟨T5 hs ho av i,q⟩,.inr rfl⟩,Q,a,.inr rfl⟩
   .exact⟨(v,Q),b.mpr ⟨(k _ _).mpr ⟨i,q⟩,.inl rfl⟩,Q,a,.inl rfl⟩
  .obtain⟨Q,a,q⟩:=h;obtain⟨w,s,g⟩:=r;have:Q=w:=by rcases q with rfl|rfl<;>rcases g with g|g<;>cases g<;>rfl
   subst this;have m:=(av f).mp (b.mp d).1;have n:=(av H).mp (b.mp I).1;exact nK hs ho m n ((m.aa2 ho).aa1.mpr a) ((n.aa2 ho).aa1.mpr s)
end
section
open Classical
variable{j:List V} (hs:j5 j) (ho:j.Pairwise λa b=>e9 (b-a)) {fs:List (V×Int)} (av:∀f,f∈fs↔IsFace j f.1 f.2)
include hs ho av
theorem pZ (d:fs.Nodup)(ne:fs≠[]):fs.length+4<=2*j.length/\(fs.map λf=>(d4 j f).length).sum+12<=6*j.length:=by
 have e:j.Nodup:=ho.imp λ{a b} h q=>by rw[q]at h;exact o5 h h
 have g:∀X,X∈j.filter (λX=>decide (∃f:V×Int,IsFace j f.1 f.2/\X∈d4 j f))↔∃f:V×Int,IsFace j f.1 f.2/\X∈d4 j f:=λX=>by rw[aAQ,decide_eq_true_eq];exact⟨λh=>h.2,λh=>⟨by obtain⟨f,i,k⟩:=h;exact(c6.mp<|(i.aa2 ho).aa3 k).1,h⟩⟩
 have l:=tM hs ho av d ne (e.sublist aBl) g;have:=aEk (λX=>decide (∃f:V×Int,IsFace j f.1 f.2/\X∈d4 j f)) j;constructor<;>lia
end
end G
namespace ST
open PySem PySem.SetTable
def GP (Y:Array Nat):Prop:=∀(i k:Nat) (a:i<Y.size) (b:k<Y.size),i<k->Y[i]<Y[k]
theorem vH (Y:Array Nat)(j:Nat)(d:GP Y):∀(a lo b:Nat),lo<=b->b<=Y.size->b-lo<=a->(∀i (h:i<Y.size),i<lo->Y[i]<j)->(∀i (h:i<Y.size),b<=i->j<=Y[i])->
  below.go Y j a lo b<=Y.size/\(∀i (h:i<Y.size),i<below.go Y j a lo b->Y[i]<j)/\(∀i (h:i<Y.size),below.go Y j a lo b<=i->j<=Y[i])
 |0,lo,b,o,f,p,g,k=>by
  have:lo=b:=by lia
  subst this;unfold below.go;exact⟨f,g,k⟩
 |a+1,lo,b,o,f,p,g,k=>by
  unfold below.go;by_cases n:lo<b
  .rw[kn n];have m:(lo+b)/2<Y.size:=by lia
   have e:Y.getD ((lo+b)/2) j=Y[(lo+b)/2]:=by simp[aFo,m]
   dsimp only;rw[e];by_cases l:Y[(lo+b)/2]<j
   .rw[kn l];refine vH Y j d a _ _ (by lia) f (by lia) (λi h r=>?_) k;by_cases q:i=(lo+b)/2
    .subst q;exact l
    .exact aGO (d i _ h m (by lia)) l
   .rw[ku l];refine vH Y j d a _ _ (by lia) (by lia) (by lia) g (λi h r=>?_);by_cases q:i=(lo+b)/2
    .subst q;lia
    .have:=d _ i m h (by lia);lia
  .rw[ku n];have:lo=b:=by lia
   subst this;exact⟨f,g,k⟩
def bJ (a:GP Y)(j:Nat):below Y j<=Y.size/\(∀i (h:i<Y.size),i<below Y j->Y[i]<j)/\(∀i (h:i<Y.size),below Y j<=i->j<=Y[i]):=
 vH Y j a Y.size 0 Y.size (aAX _) (aAg _) (by lia) (λi h b=>by lia) (λi h b=>by lia)
def MR (a:GP Y)(h:Y[i]?=some j):below Y j=i:=by
 obtain⟨b,e⟩:=aCj.mp h;obtain⟨k,f,g⟩:=bJ a j;rcases Nat.lt_trichotomy (below Y j) i with q|q|q
 .have d:below Y j<Y.size:=by lia
  have l:=g _ d (aAg _);have m:=a _ _ d b q
  lia
 .exact q
 .have:=f i b q;lia
structure Tab (t:SetTable):Prop where
 asc:GP t.place
 le:∀j∈t.place.toList,j<=t.mask
 nod:t.dummies=#[]
def K6 (T:Tab t)(h:t.place[i]?=some j):t.slot j=.live i:=by unfold slot;rw[MR T.asc h];dsimp only;rw[h];simp
def BQ (T:Tab t)(h:j∉t.place.toList):t.slot j=.empty:=by
 unfold slot;have a:¬(t.place[below t.place j]?==some j)=true:=λz=>h (by have:=beq_iff_eq.mp z;obtain⟨b,e⟩:=aCj.mp this;rw[<-e];simp)
 dsimp only;rw[ku a,T.nod];rw[ku (by unfold has;simp)]
def CT (T:Tab t)(j:Nat):(t.slot j=.empty/\j∉t.place.toList)\/∃i,t.slot j=.live i/\t.place[i]?=some j:=by
 by_cases h:j∈t.place.toList
 .obtain⟨i,a,e⟩:=aBw h;have:t.place[i]?=some j:=by rw[<-aAE,aAj a,e]
  exact .inr ⟨i,K6 T this,this⟩
 .exact .inl ⟨BQ T h,h⟩
def QI (mask:Nat)(p:Probe):Probe:=if p.more>0 then{p with j:=p.j+1,more:=p.more-1}else{p with j:=(leap mask p.i p.perturb).1,more:=runEnd mask (leap mask p.i p.perturb).1-(leap mask p.i p.perturb).1,i:=(leap mask p.i p.perturb).1,perturb:=(leap mask p.i p.perturb).2}
def oN (t:gk)(p:Probe):t.advance p=QI t.mask p:=rfl
def start (mask:Nat)(h:Int):Probe:={j:=bits h%(mask+1),more:=runEnd mask (bits h%(mask+1))-bits h%(mask+1),i:=bits h%(mask+1),perturb:=bits h,dummy:=none}
def m4 (mask:Nat)(h:Int):Nat->Probe
 |0=>start mask h
 |n+1=>QI mask (m4 mask h n)
theorem oO (mask:Nat)(h:Int):∀n,(m4 mask h n).dummy=none
 |0=>rfl
 |n+1=>by have:=oO mask h n;show(QI mask _).dummy=none;unfold QI;split<;>exact this
def C6 (mask:Nat)(h:Int):Nat->Nat×Nat
 |0=>(bits h%(mask+1),bits h)
 |k+1=>leap mask (C6 mask h k).1 (C6 mask h k).2
def len (mask i:Nat):Nat:=runEnd mask i-i
def ZK (mask i:Nat):len mask i<=9:=by unfold len runEnd;split<;>lia
def off (mask:Nat)(h:Int):Nat->Nat
 |0=>0
 |k+1=>off mask h k+len mask (C6 mask h k).1+1
theorem PU (mask:Nat)(h:Int):∀k,off mask h k<=10*k
 |0=>aAg _
 |k+1=>by have:=PU mask h k;have:=ZK mask (C6 mask h k).1;show off mask h k+_+1<=_;lia
theorem V4 (mask:Nat)(h:Int):∀k r,r<=len mask (C6 mask h k).1->
  m4 mask h (off mask h k+r)={j:=(C6 mask h k).1+r,more:=len mask (C6 mask h k).1-r,i:=(C6 mask h k).1,perturb:=(C6 mask h k).2,dummy:=none}
 |0,0,_=>rfl
 |0,r+1,b=>by
  have a:=V4 mask h 0 r (by lia);have e:off mask h 0+(r+1)=(off mask h 0+r)+1:=by lia
  rw[e,m4,a];unfold QI;rw[kn (show len mask (C6 mask h 0).1-r>0 by lia)];simp
  lia
 |k+1,0,_=>by have a:=V4 mask h k (len mask (C6 mask h k).1) (aAg _);have e:off mask h (k+1)+0=(off mask h k+len mask (C6 mask h k).1)+1:=rfl;rw[e,m4,a];unfold QI;rw[ku (by simp)];simp[C6,len]
 |k+1,r+1,b=>by
  have a:=V4 mask h (k+1) r (by lia);have e:off mask h (k+1)+(r+1)=(off mask h (k+1)+r)+1:=by lia
  rw[e,m4,a];unfold QI;rw[kn (show len mask (C6 mask h<|k+1).1-r>0 by lia)];simp
  lia
def NO (mask:Nat)(h:Int)(k:Nat):(m4 mask h (off mask h k)).j=(C6 mask h k).1:=by have:=V4 mask h k 0 (aAX _);rw[aGP]at this;rw[this];rfl
theorem gD (mask:Nat)(h:Int):∀k,(C6 mask h k).2<2^64/32^k+1
 |0=>by
  show bits h<_;unfold bits;have:=Int.emod_lt_of_pos h (show(0:Int)<2^64 by decide)
  lia
 |k+1=>by
  have a:=gD mask h k;show(C6 mask h k).2/32<_;have e:∀N,N/32^(k+1)=N/32^k/32:=λN=>by rw[Nat.div_div_eq_div_mul];rfl
  rw[e]
  lia
theorem rJ (mask:Nat)(h:Int):∀k,(C6 mask h (13+k)).2=0
 |0=>by have:=gD mask h 13;simp at this;exact this
 |k+1=>by have:=rJ mask h k;show(C6 mask h<|13+k).2/32=0;rw[this]
def lcg (m:Nat)(i:Nat):Nat:=(i*5+1)%m
def y8 (m:Nat):Nat->Nat->Nat
 |0,i=>i
 |n+1,i=>lcg m (y8 m n i)
theorem pU (mask:Nat)(h:Int):∀k,(C6 mask h (13+k)).1=y8 (mask+1) k (C6 mask h 13).1
 |0=>rfl
 |k+1=>by have a:=pU mask h k;show((C6 mask h<|13+k).1*5+1+(C6 mask h<|13+k).2/32)%(mask+1)=_;rw[rJ,a];rfl
theorem gK (m:Nat):∀a b i,y8 m (a+b) i=y8 m a (y8 m b i)
 |0,b,i=>by rw[aEm];rfl
 |a+1,b,i=>by rw[show a+1+b=(a+b)+1 by lia];show lcg m _=lcg m _;rw[gK m a b i]
def lT (m:Nat):Prop:=y8 m m 0=0/\∀j<m,∃n<m,y8 m n 0=j
def sH (F:lT m)(f:i<m)(g:j<m):∃n<m,y8 m n i=j:=by
 obtain⟨a,k,d⟩:=F.2 i f;obtain⟨b,l,e⟩:=F.2 j g;by_cases h:a<=b
 .exact⟨b-a,by lia,by rw[<-d,<-gK,show b-a+a=b by lia,e]⟩
 .refine⟨b+(m-a),by lia,?_⟩;rw[<-d,<-gK,show b+(m-a)+a=b+m by lia,gK,F.1,e]
instance(m:Nat):Decidable (lT m):=inferInstanceAs (Decidable<|_/\_)
def kj:lT 8:=by decide+kernel
def YD:lT 32:=by decide+kernel
def SG:lT 128:=by decide+kernel
theorem FT (mask:Nat)(h:Int):∀k,(C6 mask h k).1<mask+1
 |0=>aEe _ (by lia)
 |k+1=>aEe _ (by lia)
def BK {mask:Nat}(F:lT (mask+1))(h:Int){j:Nat}(a:j<=mask):∃n,n<=10*(mask+14)/\(m4 mask h n).j=j:=by
 obtain⟨k,b,e⟩:=sH F (FT mask h 13) (show j<mask+1 by lia);refine⟨off mask h (13+k),?_,?_⟩
 .have:=PU mask h (13+k);lia
 .rw[NO,pU,e]
def uO {α β:Type}{l:List α}{m:List β}{p:Nat}{a:α×β}(h:a∈(l.take p).zip (m.take p)):a∈l.zip m:=by
 obtain⟨i,b⟩:=aDA.mp h;rw[aBF]at b;refine aAr (i:=i) ?_;rw[aBF];have q:∀{γ:Type} {l:List γ} {c:γ},(l.take p)[i]?=some c->l[i]?=some c:=λ{γ l c} h=>by
  rw[List.getElem?_take]at h;split at h
  .exact h
  .cases h
 exact⟨q b.1,q b.2⟩
def uN {α β:Type}{l:List α}{m:List β}{p:Nat}{a:α×β}(h:a∈(l.drop p).zip (m.drop p)):a∈l.zip m:=by obtain⟨i,b⟩:=aDA.mp h;rw[aBF,List.getElem?_drop,List.getElem?_drop]at b;refine aAr (i:=p+i) ?_;rw[aBF];exact b
theorem FG (mask:Nat)(h:Int):∀n,(m4 mask h n).j+(m4 mask h n).more<=mask
 |0=>by have:=aEe (bits h) (show 0<mask+1 by lia);show bits h%(mask+1)+(runEnd mask (bits h%(mask+1))-bits h%(mask+1))<=mask;unfold runEnd;split<;>lia
 |n+1=>by
  have a:=FG mask h n;show(QI mask<|m4 mask h n).j+(QI mask<|m4 mask h n).more<=mask;unfold QI;split
  .dsimp only;lia
  .dsimp only;have:(leap mask (m4 mask h n).i (m4 mask h n).perturb).1<mask+1:=aEe _ (by lia);unfold runEnd;split<;>lia
def uY (mask:Nat)(h:Int)(n:Nat):(m4 mask h n).j<=mask:=by have:=FG mask h n;lia
theorem P3 {α:Type}[DecidableEq α]:∀{l m:List α},l.Nodup->(∀x∈l,x∈m)->l.length<=m.length
 |[],_,_,_=>aAX _
 |x::l,m,h,a=>by
  have b:=a x (by simp);have d:=aAG.mp h;have:=P3 (l:=l) (m:=m.erase x) d.2 (λy f=>by
   have ne:y≠x:=λe=>by subst e;exact d.1 f
   exact(aGe ne).mpr (a y<|aAe _ f))
  rw[aFn b]at this;have:0<m.length:=aDn b;simp only[aAt]
  lia
def HJ {t:gk}(h:t.place.size<=t.mask):∃j≤t.mask,j∉t.place.toList:=by
 by_cases z:∃j≤t.mask,j∉t.place.toList
 .exact z
 .exfalso;have:=P3 (l:=aBv (t.mask+1)) (m:=t.place.toList) List.nodup_range (λj a=>by
   by_cases q:j∈t.place.toList
   .exact q
   .exact absurd ⟨j,by have:=aCC.mp a;lia,q⟩ z)
  simp at this
  lia
theorem least {P:Nat->Prop}[DecidablePred P]:∀n,P n->∃m≤n,P m/\∀k<m,¬P k
 |0,h=>⟨0,aAg _,h,λk b=>by lia⟩
 |n+1,h=>by
  by_cases z:∃k≤n,P k
  .obtain⟨k,b,a⟩:=z;obtain⟨m,f,d,e⟩:=least k a;exact⟨m,by lia,d,e⟩
  .exact⟨n+1,aAg _,h,λk b a=>z ⟨k,by lia,a⟩⟩
termination_by n=>n
def U0 (t:gk)(h:Int)(n0:Nat):Prop:=n0<=10*(t.mask+14)/\(m4 t.mask h n0).j∉t.place.toList/\∀m<n0,(m4 t.mask h m).j∈t.place.toList
def CK {t:gk}(F:lT (t.mask+1))(a:t.place.size<=t.mask)(h:Int):∃n0,U0 t h n0:=by obtain⟨j,b,d⟩:=HJ a;obtain⟨n,l,e⟩:=BK F h b;obtain⟨m,o,f,g⟩:=least (P:=λn=>(m4 t.mask h n).j∉t.place.toList) n (by rw[e];exact d);exact⟨m,by lia,f,λk i=>by have:=g k i;simpa using this⟩
theorem wM (T:Tab t)(hashAt:Nat->Int)(h:Int)(l:U0 t h n0):∀(d n:Nat),n<=n0->n0-n<d->
  ∃f,n<=f/\f<=n0/\(∀m,n<=m->m<f->∃i,t.place[i]?=some (m4 t.mask h m).j/\hashAt i≠h)/\
   ((f=n0/\probe.go t hashAt h d (m4 t.mask h n)=some (.empty (m4 t.mask h n0).j none))\/
    (f<n0/\∃i,t.place[i]?=some (m4 t.mask h f).j/\hashAt i=h/\probe.go t hashAt h d (m4 t.mask h n)=some (.candidate (m4 t.mask h f).j i (m4 t.mask h (f+1)))))
 |0,n,_,o=>by lia
 |d+1,n,w,o=>by
  unfold probe.go;rcases CT T (m4 t.mask h n).j with⟨e,p⟩|⟨i,e,g⟩
  .have:n=n0:=by
     by_cases q:n<n0
     .exact absurd (l.2.2 n q) p
     .lia
   subst this;refine⟨n,aAg _,aAg _,λm a b=>by lia,.inl ⟨rfl,?_⟩⟩;rw[e];dsimp only;rw[oO]
  .have x:n≠n0:=λq=>by subst q;refine l.2.1 ?_;rw[<-aAE]at g;exact aAr g
   rw[e];dsimp only;by_cases k:hashAt i=h
   . refine⟨n,aAg _,by lia,λm a b=>by lia,.inr ⟨by lia,i,g,k,?_⟩⟩
     rw[kn (by simpa using k),oN];rfl
   . rw[ku (by simpa using k),oN]
     obtain⟨f,y,r,s,u⟩:=wM T hashAt h l d (n+1) (by lia) (by lia);refine⟨f,by lia,r,λm z v=>?_,u⟩;by_cases q:m=n
     .subst q;exact⟨i,g,k⟩
     .exact s m (by lia) v
def OD (T:Tab t)(hashAt:Nat->Int)(h:Int)(b:U0 t h n0)(n:Nat)(d:n<=n0):
  ∃a,n<=a/\a<=n0/\(∀m,n<=m->m<a->∃i,t.place[i]?=some (m4 t.mask h m).j/\hashAt i≠h)/\
   ((a=n0/\t.probe hashAt h (m4 t.mask h n)=some (.empty (m4 t.mask h n0).j none))\/
    (a<n0/\∃i,t.place[i]?=some (m4 t.mask h a).j/\hashAt i=h/\t.probe hashAt h (m4 t.mask h n)=some (.candidate (m4 t.mask h a).j i (m4 t.mask h (a+1))))):=
 wM T hashAt h b _ n d (by have:=b.1;unfold turns;lia)
def Reach (mask:Nat)(a:Nat->Prop)(h:Int)(j:Nat):Prop:=∃n,(m4 mask h n).j=j/\∀m<n,a (m4 mask h m).j
def Reach.mono {mask:Nat}{o a:Nat->Prop}{h:Int}{j:Nat}(r:Reach mask o h j)(i:∀k,o k->a k):Reach mask a h j:=by obtain⟨n,e,q⟩:=r;exact⟨n,e,λm b=>i _ (q m b)⟩
def Reach.before (a:U0 t h n0)(b:j∈t.place.toList)(r:Reach t.mask (λk=>k∈t.place.toList) h j):∃n<n0,(m4 t.mask h n).j=j:=by
 obtain⟨n,e,q⟩:=r;refine⟨n,?_,e⟩;by_cases z:n<n0
 .exact z
 .exfalso;by_cases y:n=n0
  .subst y;exact a.2.1 (by rw[e];exact b)
  .exact a.2.1 (q n0 (by lia))
def fB {α:Type}(Y:Array α)(p:Nat)(x:α):(insertAt Y p x).toList=Y.toList.take p++x::Y.toList.drop p:=by
 unfold insertAt;simp[Array.toList_extract,List.extract_eq_drop_take];have:Y.size-p=(Y.toList.drop p).length:=by simp
 rw[this,List.take_length]
def zD (t:gk)(es:List (Int×ae)):List (Nat×Int×ae):=t.place.toList.zip es
structure SOk (t:SetTable)(es:List (Int×Value)):Prop where
 tab:Tab t
 full:lT (t.mask+1)
 len:t.place.size=es.length
 room:t.place.size<=t.mask
 reach:∀e∈zD t es,Reach t.mask (λk=>k∈t.place.toList) e.2.1 e.1
def RF {t:gk}{es:List (Int×ae)}(b:t.place.size=es.length){i:Nat}{e:Int×ae}(h:es[i]?=some e):∃j,t.place[i]?=some j/\(j,e)∈zD t es:=by
 have d:i<es.length:=(aAy.mp h).1;have a:i<t.place.toList.length:=by simpa[b]using d
 refine⟨t.place.toList[i],by rw[<-aAE,aAj a],?_⟩;unfold zD;refine aAr (i:=i) ?_;rw[aBF];exact⟨aAj a,h⟩
def YF {t:gk}{es:List (Int×ae)}(S:SOk t es){h:Int}{x:ae}{n0:Nat}(A:U0 t h n0)(E:t.place.size+1<=t.mask):
  SOk (t.put (m4 t.mask h n0).j).1 (es.take (t.put (m4 t.mask h n0).j).2++(h,x)::es.drop (t.put (m4 t.mask h n0).j).2):=by
 have v:=uY t.mask h n0;obtain⟨Y,H,I⟩:=bJ S.tab.asc (m4 t.mask h n0).j;generalize B:(m4 t.mask h n0).j=J at*
 have w:J∉t.place.toList:=by rw[<-B];exact A.2.1
 have C:(t.put J).2=below t.place J:=rfl;have em:(t.put J).1.mask=t.mask:=rfl;have d:(t.put J).1.place=insertAt t.place (below t.place J) J:=rfl;have f:=fB t.place (below t.place J) J;have l:∀k,k∈(t.put J).1.place.toList↔k∈t.place.toList\/k=J:=λk=>by
  rw[d,f,aAT,aAd];constructor
  .rintro(q|q|q)
   .exact .inl (aEw q)
   .exact .inr q
   .exact .inl (aDK q)
  .rintro(q|q)
   .rw[<-aFS (below t.place J) t.place.toList,aAT]at q;rcases q with q|q
    .exact .inl q
    .exact .inr (.inr q)
   .exact .inr (.inl q)
 have o:(t.put J).1.place.size=t.place.size+1:=by
  rw[<-aAM,d,f,aAC,aBU,aAt,aDQ,aAM]
  lia
 refine⟨⟨?_,λj L=>?_,?_⟩,S.full,?_,by rw[o];exact E,λe u=>?_⟩
 .
  have p:t.place.toList.Pairwise (· <·):=by rw[aCo];intro i j g v N;simpa using S.tab.asc i j (by simpa using g) (by simpa using v) N
  have r:∀a∈t.place.toList.take (below t.place J),a<J:=λa n=>by
   obtain⟨i,g,e⟩:=aBw n;rw[aBU]at g;rw[List.getElem_take]at e;have:=H i (by simp at g;lia) (by lia);simp at e
   lia
  have s:∀a∈t.place.toList.drop (below t.place J),J<a:=λa n=>by
   obtain⟨i,g,e⟩:=aBw n;rw[aDQ]at g;rw[List.getElem_drop]at e;have h1:=I (below t.place J+i) (by simp at g;lia) (by lia);simp at e;have h2:J≠a:=λq=>w (by rw[q];exact aDK n)
   lia
  have O:(t.put J).1.place.toList.Pairwise (· <·):=by
   rw[d,f,List.pairwise_append];refine⟨p.sublist (aFp _ _),aAA.mpr ⟨s,p.sublist (List.drop_sublist _ _)⟩,λa n b Q=>?_⟩;rcases aAd.mp Q with q|q
   .subst q;exact r a n
   .exact aGO (r a n) (s b q)
  intro i k g y z;have:=aCo.mp O i k (by simpa using g) (by simpa using y) z;simpa using this
 .rcases(l j).mp L with q|q
  .exact S.tab.le j q
  .subst q;exact v
 .show(if has t.dummies J then _ else t.dummies)=#[];rw[S.tab.nod,ku (by unfold has;simp)]
 .rw[o,C,aAC,aBU,aAt,aDQ];have:=S.len
  lia
 .have T:e∈zD t es\/e=(J,h,x):=by
   unfold zD at u;rw[d,f,C]at u;rw[List.zip_append (by rw[aBU,aBU,aAM,S.len])]at u;rcases aAT.mp u with q|q
   .left;unfold zD;exact uO q
   .rw[aBJ]at q;rcases aAd.mp q with q|q
    .exact .inr q
    .left;unfold zD;exact uN q
  rcases T with q|q
  .exact(S.reach e q).mono λk y=>(l k).mpr (.inl y)
  .subst q;exact⟨n0,B,λm U=>(l _).mpr (.inl (A.2.2 m U))⟩
def Q7 (owner:Array (Option Nat))(j:Nat):Prop:=(owner.getD j<|some 0).isNone=false
theorem sT {mask:Nat}(h:Int)(owner:Array (Option Nat)):∀(fuel k:Nat),(∃kk,k<=kk/\kk<k+fuel/\¬Q7 owner (C6 mask h kk).1)->
  ∃n,off mask h k<=n/\layClean.free mask owner fuel (C6 mask h k).1 (C6 mask h k).2=some (m4 mask h n).j/\¬Q7 owner (m4 mask h n).j/\∀m,off mask h k<=m->m<n->Q7 owner (m4 mask h m).j
 |0,k,⟨kk,i,l,_⟩=>by lia
 |fuel+1,k,⟨kk,i,l,d⟩=>by
  have o:runEnd mask (C6 mask h k).1+1-(C6 mask h k).1=len mask (C6 mask h k).1+1:=by unfold len runEnd;split<;>lia
  unfold layClean.free;rw[o];cases e:(aBv<|len mask (C6 mask h k).1+1).find? λr=>(owner.getD ((C6 mask h k).1+r)<|some 0).isNone with
  |some r=>
   have q:=List.find?_some e;have f:r<len mask (C6 mask h k).1+1:=aCC.mp (aFi e);have g:(m4 mask h<|off mask h k+r).j=(C6 mask h k).1+r:=by rw[V4 mask h k r (by lia)]
   refine⟨off mask h k+r,by lia,by rw[g],by rw[g];unfold Q7;rw[q];simp,λm a b=>?_⟩;have em:(m4 mask h m).j=(C6 mask h k).1+(m-off mask h k):=by have:=V4 mask h k (m-off mask h k) (by lia);rw[show off mask h k+(m-off mask h k)=m by lia]at this;rw[this]
   rw[em];unfold Q7;rw[List.find?_range_eq_some]at e;have:=e.2.2 (m-off mask h k) (by lia);simpa using this
  |none=>
   have all:∀r<len mask (C6 mask h k).1+1,Q7 owner ((C6 mask h k).1+r):=λr f=>by have:=aEY.mp e r (aCC.mpr f);unfold Q7;exact Bool.not_eq_true _▸this
   have v:kk≠k:=λq=>by subst q;have:=all 0 (by lia);rw[aGP]at this;exact d this
   obtain⟨n,w,p,s,t⟩:=sT h owner fuel (k+1) ⟨kk,by lia,by lia,d⟩;have x:off mask h (k+1)=off mask h k+len mask (C6 mask h k).1+1:=rfl;refine⟨n,by lia,p,s,λm y u=>?_⟩;by_cases q:off mask h (k+1)<=m
   .exact t m q u
   .have em:(m4 mask h m).j=(C6 mask h k).1+(m-off mask h k):=by have:=V4 mask h k (m-off mask h k) (by lia);rw[show off mask h k+(m-off mask h k)=m by lia]at this;rw[this]
    rw[em];exact all _ (by lia)
def mI {mask:Nat}(F:lT (mask+1))(h:Int)(owner:Array (Option Nat)){j:Nat}(i:j<=mask)(a:¬Q7 owner j):
  ∃n,layClean.free mask owner (turns mask) (aDX h%(mask+1)) (aDX h)=some (m4 mask h n).j/\¬Q7 owner (m4 mask h n).j/\∀m<n,Q7 owner (m4 mask h m).j:=by
 obtain⟨k,l,e⟩:=sH F (FT mask h 13) (show j<mask+1 by lia);obtain⟨n,o,b,d,f⟩:=sT h owner (turns mask) 0 ⟨13+k,aAX _,by unfold turns;lia,by rw[pU,e];exact a⟩;exact⟨n,b,d,λm g=>f m (aAX _) g⟩
structure Laid (mask:Nat)(hs:List Int)(owner:Array (Option Nat))(k:Nat):Prop where
 size:owner.size=mask+1
 lt:∀(j i:Nat),owner[j]?=some (some i)->i<k
 inj:∀(j j' i:Nat),owner[j]?=some (some i)->owner[j']?=some (some i)->j=j'
 sur:∀i<k,∃j:Nat,owner[j]?=some (some i)
 reach:∀(j i:Nat) (h:Int),owner[j]?=some (some i)->hs[i]?=some h->Reach mask (λl=>∃i,owner[l]?=some (some i)) h j
def jH {owner:Array (Option Nat)}{mask j:Nat}(b:owner.size=mask+1)(d:j<=mask):Q7 owner j↔∃i,owner[j]?=some (some i):=by
 unfold Q7;have a:j<owner.size:=by lia
 have e:owner.getD j (some 0)=owner[j]:=by simp[aFo,a]
 rw[e,aAD a];cases owner[j]with
 |none=>simp
 |some i=>simp
def Laid.room {mask k:Nat}{r:List Int}{owner:Array (Option Nat)}(L:Laid mask r owner k)(t:k<=mask):∃j≤mask,¬Q7 owner j:=by
 by_cases z:∃j≤mask,¬Q7 owner j
 .exact z
 .exfalso;have all:∀j≤mask,∃i,owner[j]?=some (some i):=λj b=>by
   by_cases q:Q7 owner j
   .exact(jH L.size b).mp q
   .exact absurd ⟨j,b,q⟩ z
  have d:∀n,n<=mask+1->∃l:List Nat,l.length=n/\l.Nodup/\(∀i∈l,i<k)/\∀i∈l,∃j<n,owner[j]?=some (some i):=λn=>by
   induction n with
   |zero=>exactλ_=>⟨[],rfl,aDl,by simp,by simp⟩
   |succ n s=>
    intro u;obtain⟨l,o,f,g,p⟩:=s (by lia);obtain⟨i,h⟩:=all n (by lia);refine⟨i::l,by simp[o],aAG.mpr ⟨λq=>?_,f⟩,λx a=>?_,λx a=>?_⟩
    .obtain⟨j,b,e⟩:=p i q;have:=L.inj j n i e h
     lia
    .rcases aAd.mp a with q|q
     .subst q;exact L.lt _ _ h
     .exact g x q
    .rcases aAd.mp a with q|q
     .subst q;exact⟨n,by lia,h⟩
     .obtain⟨j,b,e⟩:=p x q;exact⟨j,by lia,e⟩
  obtain⟨l,o,f,g,_⟩:=d (mask+1) (aAg _);have:=P3 (m:=aBv k) f (λx a=>aCC.mpr (g x a));simp at this
  lia
def CA (mask:Nat)(b:List Int):Laid mask b (aEC (mask+1) none) 0:=by
 have a:∀(j i:Nat),(aEC (mask+1) (none:Option Nat))[j]?=some (some i)->False:=λj i h=>by rw[Array.getElem?_replicate]at h;split at h<;>cases h
 exact⟨by simp,λj i h=>(a j i h).elim,λj d i h=>(a j i h).elim,λi e=>by lia,λj i _ h=>(a j i h).elim⟩
def Laid.step {mask k:Nat}{g:List Int}{owner:Array (Option Nat)}(L:Laid mask g owner k){h:Int}(t:g[k]?=some h){n:Nat}(u:¬Q7 owner (m4 mask h n).j)(v:∀m<n,Q7 owner (m4 mask h m).j):
  Laid mask g (owner.setIfInBounds (m4 mask h n).j (some k)) (k+1):=by
 have w:=uY mask h n;have o:(m4 mask h n).j<owner.size:=by rw[L.size];lia
 have get:∀(j i:Nat),(owner.setIfInBounds (m4 mask h n).j (some k))[j]?=some (some i)↔(j=(m4 mask h n).j/\i=k)\/(j≠(m4 mask h n).j/\owner[j]?=some (some i)):=λj i=>by
  rw[Array.getElem?_setIfInBounds];by_cases q:(m4 mask h n).j=j
  .rw[kn q,kn o];simp[q,eq_comm]
  .rw[ku q];constructor
   .intro z;exact .inr ⟨λy=>q y.symm,z⟩
   .rintro(⟨z,_⟩|⟨_,z⟩)
    .exact absurd z.symm q
    .exact z
 have x:∀i,owner[(m4 mask h n).j]?≠some (some i):=λi z=>u ((jH L.size w).mpr ⟨i,z⟩);have grow:∀l:Nat,(∃i:Nat,owner[l]?=some (some i))->∃i:Nat,(owner.setIfInBounds (m4 mask h n).j (some k))[l]?=some (some i):=λl A=>by
  obtain⟨i,z⟩:=A;by_cases q:l=(m4 mask h n).j
  .exact⟨k,(get l k).mpr (.inl ⟨q,rfl⟩)⟩
  .exact⟨i,(get l i).mpr (.inr ⟨q,z⟩)⟩
 refine⟨by simp[L.size],λj i z=>?_,λj p i z s=>?_,λi C=>?_,λj i r z e=>?_⟩
 .rcases(get j i).mp z with⟨_,q⟩|⟨_,q⟩
  .lia
  .have:=L.lt j i q;lia
 .rcases(get j i).mp z with⟨d,a⟩|⟨d,a⟩
  .rcases(get p i).mp s with⟨f,b⟩|⟨f,b⟩
   .rw[d,f]
   .subst a;have:=L.lt _ _ b;lia
  .rcases(get p i).mp s with⟨f,b⟩|⟨f,b⟩
   .subst b;have:=L.lt _ _ a;lia
   .exact L.inj j p i a b
 .by_cases q:i=k
  .subst q;exact⟨_,(get _ _).mpr (.inl ⟨rfl,rfl⟩)⟩
  .obtain⟨j,z⟩:=L.sur i (by lia);exact⟨j,(get j i).mpr (.inr ⟨λy=>by subst y;exact x i z,z⟩)⟩
 .rcases(get j i).mp z with⟨d,a⟩|⟨d,a⟩
  .subst d a;have:r=h:=Option.some.inj (e.symm.trans t);subst this;exact⟨n,rfl,λm B=>grow _ ((jH L.size<|uY mask r m).mp (v m B))⟩
  .exact(L.reach j i r a e).mono grow
def zB {mask:Nat}(F:lT (mask+1))(b:Array Int)(z:b.size<=mask):∃owner,layClean mask b=some owner/\Laid mask b.toList owner b.size:=by
 have g:∀(post a:List Int) (owner:Array (Option Nat)),b.toList=a++post->Laid mask b.toList owner a.length->
   ∃d,post.foldl (λB h=>do
    let(owner,k)<-B
    let j<-layClean.free mask owner (turns mask) (aDX h%(mask+1)) (aDX h)
    pure (owner.setIfInBounds j (some k),k+1)) (some (owner,a.length))=some (d,b.size)/\Laid mask b.toList d b.size:=λpost=>by
  induction post with
  |nil=>
   intro a owner e L;have:a.length=b.size:=by rw[<-aAM,e];simp
   exact⟨owner,by rw[List.foldl_nil,this],by rw[<-this];exact L⟩
  |cons h post i=>
   intro a owner e L;have f:a.length<b.size:=by rw[<-aAM,e];simp
   obtain⟨j,l,m⟩:=L.room (by lia);obtain⟨n,o,p,q⟩:=mI F h owner l m;have r:b.toList[a.length]?=some h:=by rw[e];simp
   have s:=L.step r p q;rw[aFT];have t:b.toList=(a++[h])++post:=by rw[e];simp
   obtain⟨d,u,v⟩:=i (a++[h]) _ t (by rw[aAC];exact s);refine⟨d,?_,v⟩;rw[<-u];congr 1;simp[o]
 obtain⟨owner,w,x⟩:=g b.toList [] (aEC (mask+1) none) rfl (CA mask b.toList);refine⟨owner,?_,x⟩;unfold layClean;rw[<-Array.foldl_toList];have y:List.foldl (λB h=>do
    let(owner,k)<-B
    let j<-layClean.free mask owner (turns mask) (aDX h%(mask+1)) (aDX h)
    pure (owner.setIfInBounds j (some k),k+1)) (some (aEC (mask+1) none,0)) b.toList=some (owner,b.size):=w
 rw[y];rfl
def D8 (mask:Nat)(owner:Array (Option Nat)):List (Nat×Nat):=(aBv<|mask+1).filterMap λj=>(owner.getD j none).map (j,·)
def Q6 {mask:Nat}{owner:Array (Option Nat)}(g:owner.size=mask+1){j i:Nat}:(j,i)∈D8 mask owner↔owner[j]?=some (some i):=by
 unfold D8;rw[aCb];constructor
 .rintro⟨l,a,e⟩;have f:l<owner.size:=by rw[g];exact aCC.mp a
  have b:owner.getD l none=owner[l]:=by simp[aFo,f]
  rw[b,aDo]at e;obtain⟨k,d,h⟩:=e;cases h;rw[aAD f,d]
 .intro e;obtain⟨a,d⟩:=aCj.mp e;have b:owner.getD j none=owner[j]:=by simp[aFo,a]
  exact⟨j,aCC.mpr (by lia),by rw[b,d];rfl⟩
def AC (mask:Nat)(owner:Array (Option Nat)):((D8 mask owner).map (·.1)).Pairwise (· <·):=by unfold D8;rw[aBN];have:(aBv<|mask+1).Pairwise (· <·):=List.pairwise_lt_range;refine List.Pairwise.filterMap _ (R:=(· <·)) ?_ this;intro a g f b d h e;rw[aDo]at d e;obtain⟨_,_,rfl⟩:=d;obtain⟨_,_,rfl⟩:=e;exact f
def OB {mask finger moves:Nat}{led plain:Bool}(F:lT (mask+1))(es:Array (Int×ae))(B:es.size<=mask):
  ∃t' f,laid mask finger moves led plain (es.map (·.1))=some (t',f)/\(f.filterMap (es[·]?)).size=es.size/\(f.filterMap (es[·]?)).toList.Perm es.toList/\SOk t' (f.filterMap (es[·]?)).toList/\
   t'.mask=mask/\t'.dummies=#[]/\t'.led=led/\t'.plain=plain/\t'.moves=moves:=by
 obtain⟨d,J,L⟩:=zB F (es.map (·.1)) (by simpa using B);have n:(es.map (·.1)).size=es.size:=by simp
 rw[n]at L;refine⟨{mask,place:=((D8 mask d).map (·.1)).toArray,dummies:=#[],finger,led,moves,plain},((D8 mask d).map (·.2)).toArray,?_,?_⟩
 .unfold laid;rw[J];rfl
 have o:(D8 mask d).Nodup:=by have:=AC mask d;rw[aBN]at this;exact aCi.mpr (this.imp λ{a b} h e=>by subst e;exact aBg _ h)
 have p:((D8 mask d).map (·.2)).Nodup:=by rw[aCi,aBN];refine List.Pairwise.imp_of_mem (R:=(· ≠·)) ?_ (aCi.mp o);rintro⟨j,i⟩ ⟨r,s⟩ N O Q e;dsimp only at e;subst e;have:=L.inj j r i ((Q6 L.size).mp N) ((Q6 L.size).mp O);subst this;exact Q rfl
 have C:((D8 mask d).map (·.2)).Perm (aBv es.size):=by
  rw[aCM p List.nodup_range];intro i;rw[aCC,aAk];constructor
  .rintro⟨⟨j,s⟩,h,rfl⟩;exact L.lt _ _ ((Q6 L.size).mp h)
  .intro t;obtain⟨j,u⟩:=L.sur i t;exact⟨(j,i),(Q6 L.size).mpr u,rfl⟩
 have E:(((D8 mask d).map (·.2)).toArray.filterMap (es[·]?)).toList=(D8 mask d).filterMap (λx=>es[x.2]?):=by rw[Array.toList_filterMap,aDs];rfl
 have T:((D8 mask d).filterMap (λx=>es[x.2]?)).Perm es.toList:=by
  have U:(D8 mask d).filterMap (λx=>es[x.2]?)=((D8 mask d).map (·.2)).filterMap (λi=>es[i]?):=by rw[aDs];rfl
  rw[U];refine(C.filterMap _).trans (List.Perm.of_eq ?_);apply aEf;intro i;have:(aBv es.size).filterMap (λi=>es[i]?)=es.toList:=by
   have q:∀l:List (Int×ae),(aBv l.length).filterMap (λi=>l[i]?)=l:=λl=>by
    induction l with
    |nil=>rfl
    |cons a l w=>
     rw[aAt,aFN,aCG];simp only[aCz];rw[aDs];have:((λi=>(a::l)[i]?)∘Nat.succ)=λi=>l[i]?:=by funext i;simp
     rw[this,w]
   have:=q es.toList;simpa using this
  rw[this]
 have Y:∀l:List (Nat×Nat),(∀x∈l,x.2<es.size)->(l.map (·.1)).zip (l.filterMap<|λx=>es[x.2]?)=l.filterMap (λx=>es[x.2]?.map (x.1,·))/\(l.filterMap<|λx=>es[x.2]?).length=l.length:=λl=>by
  induction l with
  |nil=>intro _;exact⟨rfl,rfl⟩
  |cons x l w=>intro h;obtain⟨i1,i2⟩:=w (λy hy=>h y (aAe _ hy));have z:=h x (by simp);have e:es[x.2]?=some es[x.2]:=aAD z;rw[aAv,aCG,e];dsimp only;rw[aCG,e];dsimp only[Option.map_some];rw[aBJ,i1];exact⟨rfl,by simp[i2]⟩
 obtain⟨z1,H⟩:=Y (D8 mask d) (λx z=>L.lt x.1 x.2 ((Q6 L.size).mp z));have g:(D8 mask d).length=es.size:=by have:=C.length_eq;simpa using this
 rw[E];refine⟨by rw[<-aAM,E,H,g],T,⟨⟨?_,λj u=>?_,rfl⟩,F,?_,?_,λe m=>?_⟩,rfl,rfl,rfl,rfl,rfl⟩
 .intro i k t n A;have:=aCo.mp (AC mask d) i k (by simpa using t) (by simpa using n) A;simpa using this
 .have vg:j∈(D8 mask d).map (·.1):=by simpa using u
  obtain⟨⟨r,i⟩,h,rfl⟩:=aAk.mp vg;have:=(aCj.mp<|(Q6 L.size).mp h).1;rw[L.size]at this;show r<=mask
  lia
 .rw[H];simp
 .simp only[aAm,aAi,g];exact B
 .unfold zD at m;dsimp only at m;rw[z1,aCb]at m;obtain⟨⟨j,i⟩,h,I⟩:=m;rw[aDo]at I;obtain⟨⟨hh,v⟩,e2,rfl⟩:=I;have ho:=(Q6 L.size).mp h;have:=L.reach j i hh ho (by rw[aAE,Array.getElem?_map,e2];rfl);refine this.mono λl z9=>?_;obtain⟨s,dg⟩:=z9;show l∈(D8 mask d).map (·.1);exact aAk.mpr ⟨(l,s),(Q6 L.size).mpr dg,rfl⟩
end ST
namespace TS
open PySem PyProof.Rows
abbrev tupK:Bool->SortKind:=sortPriv%PySem.Builtin.KeyKind.tuples
structure TB (f:Bool)(a5:Array Keyed)(st:SortSt):Prop where
 perm:(arrOf st).Perm a5
 kind:kindOf st=tupK f
 failed:failedOf st=none
 pend:pendingOf st=#[]
def TB.size {f:Bool}{a5:Array Keyed}{st:SortSt}(h:TB f a5 st):(arrOf st).size=a5.size:=h.perm.size_eq
def TB.setArr {f:Bool}{a5:Array Keyed}{st:SortSt}(h:TB f a5 st){Y:Array Keyed}(a:Y.Perm (arrOf st)):TB f a5 (PyProof.Rows.setArr st Y):=
 ⟨a.trans h.perm,h.kind,h.failed,h.pend⟩
def SR (f:Bool)(A:cy)(s:be)(κ:KeyKind):Prop:=
 ∀(d:cu) (w:cz) (E:A3) (x y:ae) (a b:κ.α) {Q:wJ},
  κ.keyOf x=some a->κ.keyOf y=some b->Q (κ.blt a b) s->a9 (cq d w) A (keyLt' (tupK f) x y) Q E s
def TB.atK {f:Bool}{κ:KeyKind}{a5:Array Keyed}{st:SortSt}(h:TB f a5 st)(h0:KeysOf κ a5){i:Nat}(d:i<a5.size):∃x p a,(arrOf st)[i]?=some (x,p)/\κ.keyOf x=some a/\KK κ (arrOf st) i=a:=by
 have g:i<(arrOf st).size:=by rw[h.size];exact d
 obtain⟨a,b⟩:=h0 _ ((aER.mp h.perm).mem_iff.mp (show(arrOf st)[i]∈(arrOf st).toList by simp));have e:(arrOf st)[i]?=some (arrOf st)[i]:=getElem?_pos _ i g;exact⟨(arrOf st)[i].1,(arrOf st)[i].2,a,by rw[e],b,by unfold KK;rw[e];simp[b]⟩
section
def rq (f:Bool){prog:cu}{w:cz}{A:cy}{E:A3}{s:be}{a5:Array Keyed}{κ:KeyKind}{st:SortSt}{i j:Nat}{Q:Option Bool->SortSt->Prop}(e:SR f A s κ)(d:TB f a5 st)(h0:KeysOf κ a5)(g:i<a5.size)(k:j<a5.size)
  (h:Q (some (κ.blt (KK κ (arrOf st) i) (KK κ (arrOf st) j))) st):wpS (cq prog w) A E s (ltAt' i j) Q st:=by
 obtain⟨x,p,a,l,m,n⟩:=d.atK h0 g;obtain⟨y,q,b,o,r,t⟩:=d.atK h0 k;rw[n,t]at h;rw[ltAt'_eq];refine aBx (wpS_get ?_);show wpS _ _ _ _ (do let x<-elem' (arrOf st) i;let y<-elem' (arrOf st) j;lt' x y) Q st;rw[elem'_eq,elem'_eq,l,o];refine aBx (aCp<|aBx<|aCp ?_);rw[lt'_eq];refine aBx (wpS_get ?_);rw[d.kind];refine aBx (wpS_lift<|aDY<|e prog w _ x y a b m r ⟨rfl,?_⟩);exact aCp h
def up1 (S:SortedToK κ Y x)(h:1<=x->κ.kle (KK κ Y (x-1)) (KK κ Y x)):SortedToK κ Y (x+1):=λi j a b=>by
 rcases aDt (aFq b)with d|rfl
 .exact S i j a d
 .rcases aDt a with e|rfl
  .exact KeyOrd.kle_trans (S i (j-1) (by lia) (by lia)) (h (by lia))
  .exact KeyOrd.kle_refl _
def dn1 (S:NonIncK κ Y x)(h:1<=x->κ.kle (KK κ Y x) (KK κ Y (x-1))):NonIncK κ Y (x+1):=λi j a b=>by
 rcases aDt (aFq b)with d|rfl
 .exact S i j a d
 .rcases aDt a with e|rfl
  .exact KeyOrd.kle_trans (h (by lia)) (S i (j-1) (by lia) (by lia))
  .exact KeyOrd.kle_refl _
def LU (S:NonIncK κ Y x)(e:∀k,KK κ a k=KK κ Y k):NonIncK κ a x:=λi j b d=>by rw[e,e];exact S i j b d
def DA (κ:KeyKind)(Y:Array Keyed)(x c:Nat):Prop:=c+1<=x/\∀k,x-(c+1)<=k->k<x->KK κ Y k=KK κ Y (x-1)
def DA.one (h:1<=x):DA κ Y x 0:=⟨h,λk a b=>by rw[show k=x-1 by lia]⟩
variable{st:SortSt}
def PX (i:SR f A s κ)(h0:KeysOf κ a5)(l:m<=a5.size)(B:TB f a5 st)(o:1<=a)(b:a<=m)(S:SortedToK κ (arrOf st) a){Q:AscSt->SortSt->Prop}(q:∀n,a<=n->n<=m->SortedToK κ (arrOf st) n->(n<m->κ.klt (KK κ (arrOf st) n) (KK κ (arrOf st) (n-1)))->Q (none,n) st):wpS (cq prog w) A E s (ascLoop a m) Q st:=by
 refine aEn (I:=λn r t=>t=st/\r=(none,n)/\SortedToK κ (arrOf st) n) (λn r t j p k=>?_) (λr t ⟨g,h,d⟩=>?_) ⟨rfl,rfl,S⟩
 .obtain⟨g,h,d⟩:=k;subst g h;refine aBx (rq f i B h0 (by lia) (by lia) ?_);cases z:κ.blt (KK κ (arrOf t) n) (KK κ (arrOf t)<|n-1)with
  |true=>exact aCp (q n j (by lia) d λ_=>z)
  |false=>exact aCp ⟨rfl,rfl,up1 d λ_=>z⟩
 .subst g h;have e:max a m=m:=Nat.max_eq_right b;rw[e]at d⊢;exact q m b (aAg _) d λz=>absurd z (aBg _)
abbrev Told (f:Bool)(κ:KeyKind)(a5:Array Keyed)(m:Nat)(Q:Option Nat->SortSt->Prop):Prop:=∀n t,TB f a5 t->1<=n->n<=m->SortedToK κ (arrOf t) n->Q (some n) t
def zV (h:SR f A s κ)(h0:KeysOf κ a5)(a:m<=a5.size)(B:TB f a5 st)(b:1<=n)(d:n<=m)(S:NonIncK κ (arrOf st) n){Q:Option Nat->SortSt->Prop}(q:Told f κ a5 m Q):
  wpS (cq prog w) A E s (tail3 n m) Q st:=by
 have g:=B.setArr (aGu (arrOf st) 0 n<|(n-0)/2);have l:n<=(arrOf st).size:=by rw[B.size];exact aAp d a
 refine aBx (aGv<|aBx<|PX h h0 a g b d (λi j v o=>?_) λk p r t _=>aCp (q k _ g (aAp b p) r t));have e:∀k,k<n->KK κ (arrOf<|setArr st<|mirror (arrOf st) 0 n<|(n-0)/2) k=KK κ (arrOf st) (0+n-1-k):=λk u=>(KK_mirror l k).trans (kn ⟨aAX _,u⟩);rw[e i (by lia),e j o];exact S _ _ (by lia) (by lia)
def MN (g:SR f A s κ)(h0:KeysOf κ a5)(C:m<=a5.size)(B:TB f a5 st)(h:1<=n)(j:n<=m)(S:NonIncK κ (arrOf st) n){Q:DescSt->SortSt->Prop}(q:∀k c t,TB f a5 t->1<=k->k<=m->NonIncK κ (arrOf t) k->DA κ (arrOf t) k c->Q (none,k,c) t):wpS (cq prog w) A E s (descLoop n m) Q st:=by
 refine aEn (I:=λk r t=>∃c,r=(none,k,c)/\TB f a5 t/\NonIncK κ (arrOf t) k/\DA κ (arrOf t) k c) (λk r t H J p=>?_) (λr t ⟨c,e,a,d,b⟩=>?_) ⟨0,rfl,B,S,DA.one h⟩
 .obtain⟨c,e,a,d,b⟩:=p;subst e;have u:k<=(arrOf t).size:=by rw[a.size];lia
  dsimp only;refine aBx (rq f g a h0 (by lia) (by lia) ?_);cases z:κ.blt (KK κ (arrOf t) k) (KK κ (arrOf t)<|k-1)with
  |true=>
   have l:NonIncK κ (arrOf t) (k+1):=dn1 d λ_=>KeyOrd.kle_of_klt z;show wpS _ _ _ _ (if c>0 then _ else _) _ t;by_cases o:c>0
   .rw[kn o];exact aBx (aGv (aCp ⟨0,rfl,a.setArr (aGu _ _ _ _),LU l (aFU u b.2),DA.one (by lia)⟩))
   .rw[ku o];exact aCp ⟨0,rfl,a,l,DA.one (by lia)⟩
  |false=>
   dsimp only;simp only[aAq,if_false];refine aBx (rq f g a h0 (by lia) (by lia) ?_);cases v:κ.blt (KK κ (arrOf t)<|k-1) (KK κ (arrOf t) k)with
   |true=>exact aCp (q k c t a (by lia) (by lia) d b)
   |false=>
    have e:KK κ (arrOf t) k=KK κ (arrOf t) (k-1):=KeyOrd.kle_antisymm v z;refine aCp ⟨c+1,rfl,a,dn1 d λ_=>by rw[e];exact KeyOrd.kle_refl _,by have:=b.1;lia,λi L x=>?_⟩;show KK κ (arrOf t) i=KK κ (arrOf t) k;rcases aDt (aFq x)with y|rfl
    .rw[e];exact b.2 i (by lia) y
    .rfl
 .subst e;have e:max n m=m:=Nat.max_eq_right j;rw[e]at d b⊢;exact q m c t a (aAp h j) (aAg _) d b
def yA (a:SR f A s κ)(h0:KeysOf κ a5)(b:m<=a5.size)(B:TB f a5 st)(j:n+1<=m)(S:NonIncK κ (arrOf st) (n+1)){Q:Option Nat->SortSt->Prop}(q:Told f κ a5 m Q):
  wpS (cq prog w) A E s (descPart n m) Q st:=by
 refine aBx (wpS_lift<|aDG ⟨rfl,aBx (MN a h0 b B (aGQ n) j S λk c t d e g h l=>?_)⟩);have o:k<=(arrOf t).size:=by rw[d.size];lia
 show wpS _ _ _ _ (if c>0 then _ else _) _ t;by_cases i:c>0
 .rw[kn i];exact aBx (aGv<|zV a h0 b (d.setArr<|aGu _ _ _ _) e g (LU h<|aFU o l.2) q)
 .rw[ku i];exact zV a h0 b d e g h q
def JK (a:SR f A s κ)(h0:KeysOf κ a5)(b:m<=a5.size)(l:1<=m)(B:TB f a5 st){Q:Option Nat->SortSt->Prop}(q:Told f κ a5 m Q):wpS (cq prog w) A E s (countRun' 0 m) Q st:=by
 rw[countRun0_eq];refine aBx (PX a h0 b B (aAg 1) l (up1 (λ_ _ _ z=>absurd z (aFV _)) λz=>absurd z (by decide)) λn d e S o=>?_);show wpS _ _ _ _ (if(n==m)=true then _ else _) _ st;by_cases g:n=m
 .rw[kn (beq_iff_eq.mpr g)];exact aCp (q n st B d e S)
 .rw[ku λz=>g (beq_iff_eq.mp z)];have lt:=o (by lia);by_cases h:n>1
  .rw[kn h];refine aBx (rq f a B h0 (by lia) (by lia) ?_);cases z:κ.blt (KK κ (arrOf st) 0) (KK κ (arrOf st)<|n-1)with
   |true=>exact aCp (q n st B d e S)
   |false=>
    have p:n<=(arrOf st).size:=by rw[B.size];lia
    have same:∀k,0<=k->k<n->KK κ (arrOf st) k=KK κ (arrOf st) (n-1):=λk _ r=>KeyOrd.kle_antisymm (S k (n-1) (by lia) (by lia)) (KeyOrd.kle_trans z<|S 0 k (aAX _) r);have t:NonIncK κ (arrOf st) n:=λi j v u=>by rw[same i (aAX _) (by lia),same j (aAX _) u];exact KeyOrd.kle_refl _
    exact aBx (aGv (yA a h0 b (B.setArr<|aGu _ _ _ _) (by lia) (LU (dn1 t λ_=>KeyOrd.kle_of_klt lt)<|aFU p same) q))
  .rw[ku h];obtain rfl:n=1:=by lia
   exact yA a h0 b B (by lia) (dn1 (dn1 (λ_ _ _ z=>absurd z (aFV _)) λz=>absurd z (by decide)) λ_=>KeyOrd.kle_of_klt lt) q
def mR (hO:SR f A s κ)(h0:KeysOf κ a5)(hn:n<=a5.size)(hk:k<=n)(B:TB f a5 st)(S:SortedToK κ (arrOf st) k){Q:Bool->SortSt->Prop}(q:∀t,TB f a5 t->SortedToK κ (arrOf t) n->Q true t):
  wpS (cq prog w) A E s (binarySort' 0 n k) Q st:=by
 rw[binarySort'_eq];simp only[aEm];have S0:SortedToK κ (arrOf st) (min (max k 1) n):=λi j H N=>by
  rcases Nat.eq_or_lt_of_le H with rfl|ao
  .exact KeyOrd.kle_refl _
  .exact S i j H (by lia)
 refine aBx (wpS_mono (Q:=λr t=>r=(none,())/\TB f a5 t/\SortedToK κ (arrOf t) n) (aEn (I:=λx r t=>r=(none,())/\TB f a5 t/\SortedToK κ (arrOf t) (min x n)) (λx r t l1 l2 ⟨e,h,g⟩=>?step) (λr t ⟨e,h,g⟩=>⟨e,h,?fin⟩) ⟨rfl,B,S0⟩) λr t ⟨e,h,g⟩=>?post)
 case step=>
  subst e;rw[aFW (aDB l2)]at g;have O:x<a5.size:=by lia
  let p (l:Nat):Prop:=∀i,i<l->κ.kle (KK κ (arrOf t) i) (KK κ (arrOf t) x)
  let Top (r:Nat):Prop:=∀i,r<=i->i<x->κ.klt (KK κ (arrOf t) x) (KK κ (arrOf t) i)
  refine aBx (wpS_mono (Q:=λd u=>u=t/\∃l r,d=(none,l,r)/\l<=x/\p l/\Top l) (aEn (I:=λy d u=>u=t/\∃l r,d=(none,l,r)/\l<=r/\r<=x/\r-l<=x-y/\p l/\Top r) (λy d u _ y2 ⟨e,l,r,v,T,J,L,lo,o⟩=>?istep) (λd u ⟨e,l,r,v,T,J,L,lo,o⟩=>?ifin)
   ⟨rfl,0,x,rfl,aAX _,aAg _,aAg _,λ_ z=>absurd z (aFV _),λi a b=>absurd (aDu a b) (aBg _)⟩) λd u ⟨e,l,r,v,lx,lo,o⟩=>?ipost)
  case istep=>
   subst e v;show wpS _ _ _ _ (if l>=r then _ else _) _ u;by_cases m:l>=r
   .rw[kn m];obtain rfl:l=r:=aEB T m;exact aCp ⟨rfl,l,l,rfl,J,lo,o⟩
   .rw[ku m];dsimp only;refine aBx (rq f hO h h0 O (by lia) ?_);cases z:κ.blt (KK κ (arrOf u) x) (KK κ (arrOf u)<|(l+r)/2)with
    |true=>exact aCp ⟨rfl,l,(l+r)/2,rfl,by lia,by lia,by lia,lo,λi a b=>KeyOrd.klt_of_klt_of_kle z (g _ i a b)⟩
    |false=>exact aCp ⟨rfl,(l+r)/2+1,r,rfl,by lia,by lia,by lia,λi a=>KeyOrd.kle_trans (g i ((l+r)/2) (by lia) (by lia)) z,o⟩
  case ifin=>
   subst e v;obtain rfl:l=r:=by lia
   exact⟨rfl,l,l,rfl,J,lo,o⟩
  case ipost=>
   subst e v;have hz:x<(arrOf u).size:=by rw[h.size];exact O
   show wpS _ _ _ _ (do moveDown' x l;pure (aCq (none,()))) _ u;rw[moveDown'_eq];refine aBx (wpS_modify<|aCp ⟨rfl,h.setArr (bubble_perm _ _ _),λi j H N=>?_⟩);have e:∀k,KK κ (arrOf<|setArr u<|bubble (arrOf u) x<|x-l) k=if k=l then KK κ (arrOf u) x else if l<k/\k<=x then KK κ (arrOf u) (k-1)else KK κ (arrOf u) k:=λk=>by have:=KK_bubble (κ:=κ) hz (Nat.sub_le x l) k;rw[show x-(x-l)=l by lia]at this;exact this
   have N:j<x+1:=by lia
   rw[e,e];by_cases U:i=l
   .rw[kn U];by_cases C:j=l
    .rw[kn C];exact KeyOrd.kle_refl _
    .rw[ku C,kn ⟨by lia,by lia⟩];exact KeyOrd.kle_of_klt (o _ (by lia) (by lia))
   .rw[ku U];by_cases C:j=l
    .rw[kn C,ku λz=>by lia];exact lo i (by lia)
    .rw[ku C];by_cases Y:l<i/\i<=x
     .rw[kn Y,kn ⟨by lia,by lia⟩];exact g _ _ (by lia) (by lia)
     .rw[ku Y];by_cases c4:l<j/\j<=x
      .rw[kn c4];exact g _ _ (by lia) (by lia)
      .rw[ku c4];exact g _ _ H (by lia)
 case fin=>rw[show min (max (max k 1) n) n=n by lia]at g;exact g
 case post=>subst e;exact aCp (q t h g)
def lG (f:Bool)(h:SR f A s κ)(h0:KeysOf κ a5)(B:TB f a5 st)(y:2<=a5.size)(d:a5.size<64){Q:Unit->SortSt->Prop}(q:∀t,(arrOf t).Perm a5->failedOf t=none->SortedToK κ (arrOf t) a5.size->Q () t):wpS (cq prog w) A E s sortRuns' Q st:=by
 have l:minRun' a5.size a5.size 0=a5.size:=by
  generalize C:a5.size=N at*
  cases N with
  |zero=>lia
  |succ N=>rw[minRun'_succ,kn d]
 let TU (t:SortSt):Prop:=(arrOf t).Perm a5/\failedOf t=none/\pendingOf t=#[(0,a5.size,0)]/\SortedToK κ (arrOf t) a5.size
 have done:∀t,TB f a5 t->SortedToK κ (arrOf t) a5.size->TU (setPending t<|(pendingOf t).push (0,a5.size,0)):=λt a m=>⟨a.perm,a.failed,(la (·.push (0,a5.size,0)) a.pend),m⟩;rw[sortRuns'_eq];refine aBx (wpS_get ?_);dsimp only;simp only[B.size,l];refine aBx (wpS_mono (Q:=λr t=>r=(none,a5.size)/\TU t) (aEn (I:=λx r t=>(x=0/\r=(none,0)/\TB f a5 t)\/(0<x/\r=(none,a5.size)/\TU t)) (λx r t _ H I=>?step) (λr t I=>?fin)<|.inl ⟨rfl,rfl,B⟩) λr t ⟨e,D⟩=>?post)
 case step=>
  rcases I with⟨rfl,rfl,a⟩|⟨J,rfl,D⟩
  .show wpS _ _ _ _ (if 0>=a5.size then _ else _) _ t;rw[ku (by lia)];simp only[Nat.sub_zero,Nat.min_self,aEm];have fin:∀u,TB f a5 u->(pendingOf u).back?=none:=λu b=>by rw[b.pend];rfl
   refine aBx (JK h h0 (aAg _) (by lia) a λn u b L o i=>?_);show wpS _ _ _ _ (if n<a5.size then _ else _) _ u;by_cases j:n<a5.size
   .rw[kn j];refine aBx (wpS_lift<|aDG ⟨rfl,aBx (mR h h0 (aAg _) o b i λv k p=>?_)⟩);simp only[aDd,aAq,if_false];refine aBx (wpS_get ?_);rw[fin v k];exact aBx (wpS_modify<|aCp<|.inr ⟨aGQ _,rfl,done v k p⟩)
   .rw[ku j];obtain rfl:n=a5.size:=by lia
    refine aBx (wpS_get ?_);rw[fin u b];exact aBx (wpS_modify<|aCp<|.inr ⟨aGQ _,rfl,done u b i⟩)
  .show wpS _ _ _ _ (if a5.size>=a5.size then _ else _) _ t;rw[kn (aAg _)];exact aCp ⟨rfl,D⟩
 case fin=>
  rcases I with⟨z,_⟩|⟨_,e,D⟩
  .lia
  .exact⟨e,D⟩
 case post=>
  subst e;refine aBx (wpS_mono (Q:=λr u=>u=t/\r=(none,())) (aEn (I:=λ_ r u=>u=t/\r=(none,())) (λ_ r u _ _ ⟨e,g⟩=>?istep) (λ_ _ z=>z) ⟨rfl,rfl⟩) λr u ⟨e,g⟩=>?ipost)
  case istep=>subst e g;refine aBx (wpS_get ?_);rw[kn (by rw[D.2.2.1];exact aAg 1)];exact aCp ⟨rfl,rfl⟩
  case ipost=>subst e g;exact aCp (q _ D.1 D.2.1 D.2.2.2)
end
section
def gw (a:cp)(s d:be):Prop:=∀b o,b≠a->s.heap.get? b=some o->d.heap.get? b=some o
def xS {P:Fin->be->Prop}(q:s.heap.get? a=some (seqObj "list" vs.toArray n))(h0:KeysOf κ (pairsOf vs))(y:∀k,gw a s k->SR f A k κ)(t:2<=vs.length->∀k,gw a s k->∀{Q:SortKind->be->Prop},Q (tupK f) k->a9 (cq prog w) A (keyKind' vs.toArray) Q E k)(u:vs.length<64)(h:∀d:SortSt,(arrOf d).Perm (pairsOf vs)->SortedToK κ (arrOf d) (pairsOf vs).size->P (.done (.ret .none)) {s with heap:=sortedHeap s.heap a vs ((arrOf d).map (·.2))}):
  a9 (cq prog w) A (Builtin.«list.sort» ⟨[.ref a],[]⟩) P E s:=by
 rw[list_sort_plain];have z:a<s.heap.objs.size:=aAf q;refine aAa (aEo q rfl ?_);refine aAa (listUpdate_at q rfl ?_);obtain⟨v,l⟩:∃v,(s.heap.update a<|aBG λ_=>#[]).get? a=some (seqObj "list" #[] v):=⟨_,get?_update_seq q _⟩;refine aAa (seqEpoch_at l rfl<|aAa<|aGm<|aAa<|wpAny_newList<|aAL ?_);have B:a≠(s.heap.update a<|aBG λ_=>#[]).objs.size:=by rw[Heap.size_update];exact aAl z
 have m:gw a s {s with heap:=((s.heap.update a<|aBG λ_=>#[]).push (seqObj "tuple" vs.toArray 0)).push (seqObj "list" #[] 0)}:=λb o C e=>aAc _ (aAc _<|(aAx _ _<|aBV C).trans e)
 have g:(((s.heap.update a<|aBG λ_=>#[]).push (seqObj "tuple" vs.toArray 0)).push (seqObj "list" #[] 0)).get? a=some (seqObj "list" #[] v):=aAc _ (aAc _ l);show a9 (cq prog w) A _ P E {s with heap:=((s.heap.update a<|aBG λ_=>#[]).push (seqObj "tuple" vs.toArray 0)).push (seqObj "list" #[] 0)};dsimp only;have H:vs.toArray.size=vs.length:=by simp
 have p:=h;by_cases r:vs.toArray.size<2
 .rw[kn r,kn r];refine aAa (aAb ?_);rw[StateT.run_pure];refine aAa (aAb ?_);dsimp only;refine aAa (seqEpoch_at g rfl (aAa (listUpdate_at g rfl ?_ (hsz2:=by rw[Array.size_map];show(pairsOf vs).size<=_;rw[aEZ,aFB];lia))));simp only[bne_self_eq_false,aAq,if_false];refine aAb (p (SortSt.mk' general' (vs.toArray.zip vs.toArray) #[] 7 none) (aGT _) λi j U I=>?_);have:i=j:=by rw[aEZ]at I;lia
  subst this;exact KeyOrd.kle_refl _
 .rw[ku r,ku r];refine aAa (t (by lia) _ m ?_);refine aAa (aCt (lG f (κ:=κ) (y _ m) (a5:=pairsOf vs) (st:=SortSt.mk' (tupK f) (vs.toArray.zip vs.toArray) #[] 7 none) (Q:=λ_ d=>(arrOf d).Perm (pairsOf vs)/\failedOf d=none/\SortedToK κ (arrOf d) (pairsOf vs).size)
   h0 ⟨aGT _,rfl,rfl,rfl⟩ (by rw[aEZ];lia) (by rw[aEZ];exact u) λd J L N=>⟨J,L,N⟩) ?_ λ_ _ e=>e)
  rintro⟨⟨⟩,d⟩ Y ⟨rfl,x,O,T⟩;dsimp only;refine aAa (seqEpoch_at g rfl (aAa (listUpdate_at g rfl ?_ (hsz2:=by refine aAp (aEp<|(Array.size_map ..).trans (x.size_eq.trans<|aEZ _)) ?_;rw[aFB];lia))));rw[O];simp only[bne_self_eq_false,aAq,if_false];exact aAb (p d x T)
end
end TS
namespace L2
open PySem PySem.Spec PyProof.Rows
abbrev zT:=Sum Int Str
def LJ:zT->ae->Bool
 |.inl k,v=>Value.isInt k v
 |.inr x,v=>Value.isStrOf x v
def a1s (w:cz):zT->Int
 |.inl k=>hashInt k
 |.inr x=>hashStr w x
theorem A8:∀{k:zT} {v:ae},LJ k v=true->(∃i t,k=aGE i/\v=aGU i t)\/(∃x t,k=aGF x/\v=Value.str x t)
 |.inl i,v,h=>by obtain⟨t,e⟩:=Value.isInt_shape (k:=i) (v:=v) h;exact .inl ⟨i,t,rfl,e⟩
 |.inr x,v,h=>by obtain⟨t,e⟩:=Value.isStrOf_shape (x:=x) (v:=v) h;exact .inr ⟨x,t,rfl,e⟩
def YU (a b:Int):decide ((aGE a:zT)=aGE b)=(a==b):=by
 by_cases e:a=b
 .subst e;simp
 .have h:¬(aGE a:zT)=aGE b:=λq=>e (Sum.inl.inj q);rw[decide_eq_false h];exact(beq_eq_false_iff_ne.mpr e).symm
def ck (a b:Str):decide ((aGF a:zT)=aGF b)=decide (a=b):=by
 by_cases e:a=b
 .subst e;simp
 .have h:¬(aGF a:zT)=aGF b:=λq=>e (Sum.inr.inj q);rw[decide_eq_false h,decide_eq_false e]
def YY (a:Int)(b:Str):decide ((aGE a:zT)=aGF b)=false:=decide_eq_false (λq=>nomatch q)
def ZT (a:Str)(b:Int):decide ((aGF a:zT)=aGE b)=false:=decide_eq_false (λq=>nomatch q)
def uS (prog:cu)(w:cz):PySem.KeyKind prog w zT where
 is:=LJ
 hash:=a1s w
 inj:=λv a b l g=>by
  rcases A8 l with⟨i,t,rfl,rfl⟩|⟨x,t,rfl,rfl⟩
  .rcases A8 g with⟨j,u,rfl,e⟩|⟨y,u,rfl,e⟩
   .injection e with d _;rw[d]
   .exact nomatch e
  .rcases A8 g with⟨j,u,rfl,e⟩|⟨y,u,rfl,e⟩
   .exact nomatch e
   .injection e with d _;rw[d]
 byValue:=λk v h=>by rcases A8 h with⟨i,t,rfl,rfl⟩|⟨x,t,rfl,rfl⟩<;>rfl
 pyHash:=λf h=>by
  rcases A8 f with⟨i,t,rfl,rfl⟩|⟨x,t,rfl,rfl⟩
  .exact wpAny_pyHash_int h
  .exact wpAny_pyHash_str h
 eqBool:=λm f h=>by
  rcases A8 m with⟨i,t,rfl,rfl⟩|⟨x,t,rfl,rfl⟩
  .rcases A8 f with⟨j,u,rfl,rfl⟩|⟨y,u,rfl,rfl⟩
   .rw[YU]at h;exact wpAny_eqBool_int h
   .rw[YY]at h;exact aGy i t y u _ _ _ _ h
  .rcases A8 f with⟨j,u,rfl,rfl⟩|⟨y,u,rfl,rfl⟩
   .rw[ZT]at h;exact aGz x t j u _ _ _ _ h
   .rw[ck]at h;exact wpAny_eqBool_str h
 «strs»:=λk x t v h=>by
  rcases A8 h with⟨i,u,rfl,e⟩|⟨y,u,rfl,e⟩
  .exact nomatch e
  .injection e with d _;subst d;cases v<;>rfl
def XC (prog:cu)(w:cz)(k:zT)(v:ae):(uS prog w).is k v=LJ k v:=rfl
inductive V where
 |non|bl (b:Bool)|int (i:Int)|str (x:Str)|byt (b:Array UInt8)|flt (b:UInt64)|ref (a:Addr)|ty (n:String)
 deriving DecidableEq
def RelV:V->ae->Prop
 |.non,u=>u=Value.none
 |.bl b,u=>u=aDm b
 |.int i,u=>∃t,u=aGU i t
 |.str x,u=>∃t,u=Value.str x t
 |.byt b,u=>∃t,u=Value.bytes b t
 |.flt b,u=>∃t,u=Value.float b t
 |.ref a,u=>u=aDC a
 |.ty n,u=>u=aCu n
abbrev l9:List V->List ae->Prop:=Paired RelV
def l9.length {Y:List V}{a:List ae}(r:l9 Y a):Y.length=a.length:=Paired.length r
theorem l9.get:∀{Y:List V} {a:List ae} {i:Nat} {x:V},l9 Y a->Y[i]?=some x->∃u,a[i]?=some u/\RelV x u
 |_,_,_,_,.nil,e=>by simp at e
 |_,_,0,_,.cons r _,e=>by simp at e;subst e;exact⟨_,rfl,r⟩
 |_,_,i+1,x,.cons _ t,e=>by obtain⟨u,b,d⟩:=l9.get (i:=i) (x:=x) t (by simpa using e);exact⟨u,by simpa using b,d⟩
theorem l9.set (r:RelV x u):∀{Y:List V} {a:List ae} (i:Nat),l9 Y a->l9 (Y.set i x) (a.set i u)
 |_,_,_,.nil=>.nil
 |_,_,0,.cons _ t=>.cons r t
 |_,_,i+1,.cons q t=>.cons q (l9.set r i t)
theorem l9.append:∀{Y a:List V} {b ws:List ae},l9 Y b->l9 a ws->l9 (Y++a) (b++ws)
 |_,_,_,_,.nil,s=>s
 |_,_,_,_,.cons r t,s=>.cons r (l9.append t s)
theorem l9.take:∀{Y:List V} {a:List ae} (n:Nat),l9 Y a->l9 (Y.take n) (a.take n)
 |_,_,0,_=>.nil
 |_,_,_+1,.nil=>.nil
 |_,_,n+1,.cons r t=>.cons r (l9.take n t)
theorem l9.drop:∀{Y:List V} {a:List ae} (n:Nat),l9 Y a->l9 (Y.drop n) (a.drop n)
 |_,_,0,r=>r
 |_,_,_+1,.nil=>.nil
 |_,_,n+1,.cons _ t=>l9.drop n t
def uj:Option V->Option ae->Prop
 |some v,some u=>RelV v u
 |none,none=>True
 |_,_=>False
def KV {κ:Type}:List (κ×V)->List (κ×ae)->Prop:=Paired λ(p:κ×V) (q:κ×ae)=>p.1=q.1/\RelV p.2 q.2
def kV:zT->V
 |.inl i=>.int i
 |.inr x=>.str x
inductive HO where
 |lst (Y:List V)
 |tup (Y:List V)
 |dK (J:List (zT×V))|dT (J:List (List zT×V))
 |set (S:Int->Bool) (n:Nat)
 |ins (C dx:Addr) (fs:List (Str×V))
 |own (x:Addr)
 |xd (fs:List (Str×V))
 |met (f x:Addr)
 |rng (lo hi:Int)
 |frz (o:Obj) (u:HO)
 |tbl (tb:List (Pos×Str))
 |ext (φ:Heap->Prop)
abbrev Hp:=cp->Option HO
def upd (H:Hp)(a:cp)(o:HO):Hp:=λb=>if b=a then some o else H b
def j3:upd H a o a=some o:=by unfold upd;rw[kn rfl]
def l4 (h:b≠a):upd H a o b=H b:=by unfold upd;rw[ku h]
def q9 {H:Hp}{a b:cp}{o:HO}(h:H a=some o)(h':H b=none):a≠b:=by intro e;subst e;rw[h]at h';cases h'
section
variable(P:cu) (w:cz)
def ObjOk (H:Hp)(h:de)(a:cp):HO->Prop
 |.lst Y=>Y.length<=sizeLine/\∃(b:List ae) (n:Nat),l9 Y b/\h.get? a=some {cls:=.type "list",data:=.seq b.toArray n}
 |.tup Y=>Y.length<=sizeLine/\∃b:List ae,l9 Y b/\IsTup h a b.toArray
 |.dK J=>J.length<=sizeLine/\(a==h9)=false/\∃e,KV J e/\h.DictOf (uS P w) a e
 |.dT J=>J.length<=sizeLine/\(a==h9)=false/\∃Y:List (List zT×cp×ae),
  Paired (λ(p:List zT×V) (q:List zT×cp×ae)=>p.1=q.1/\H q.2.1=some (.tup (p.1.map kV))/\RelV p.2 q.2.2) J Y/\
  ∃o j r,h.get? a=some o/\o.ExactDict/\o.data=.dict j r/\j.toList=Y.map (entryOfKey<|tupleKind<|uS P w)/\(Y.map (·.1)).Nodup
 |.set S n=>h.SetOf (intKind P w) a S n
 |.ins C g fs=>H g=some (.own a)/\fs.length<=1000/\g≠a/\h.get? a=some (PySem.W.instObj C g)/\
  ∃d,h.Ns1 g d/\(∀f,uj (fs.lookup f) (d f))/\PySem.Within d (fs.map (·.1))
 |.own _=>∃o,h.get? a=some o
 |.xd fs=>∃d,h.Ns1 a d/\∀f,uj (fs.lookup f) (d f)
 |.rng lo s=>∃t u v,h.get? a=some {cls:=.type "range",data:=.fields #[.int lo t,.int s u,.int 1 v]}
 |.frz o u=>h.get? a=some o/\ObjOk H h a u
 |.tbl y=>∃i:Array ae,h.get? a=some {cls:=.none,data:=.fields i}/\TriplesOk i.toList/\∀p∈y,gm p.1 i.toList=none\/∃c k e t,gm p.1 i.toList=some (.ref c)/\H c=some (.frz k (.own c))/\k.data=.fields e/\e[1]?=some (.str p.2 t)
 |.met f x=>h.get? a=some (PySem.W.methodObj (.ref f)<|.ref x)
 |.ext φ=>φ h/\(∃o,h.get? a=some o)/\∀l m:de,φ l->(∀o,l.get? a=some o->m.get? a=some o)->φ m
def WT:HO->Prop
 |.tup _=>True
 |.frz o _=>∃a,o.data=.fields a
 |_=>False
def fA (H:Hp)(h:de):Prop:=∀a o,H a=some o->ObjOk P w H h a o
end
section
variable{P:cu} {w:cz} {H H':Hp} {h h':de} {a:cp} {o:HO}
def ObjOk.lt (x:ObjOk P w H h a o):a<h.objs.size:=by
 cases o with
 |lst Y=>obtain⟨_,_,_,_,e⟩:=x;exact aAf e
 |tup Y=>obtain⟨_,_,_,p⟩:=x;exact p.lt
 |dK J=>obtain⟨_,_,_,_,o,_,_,e,_⟩:=x;exact aAf e
 |dT J=>obtain⟨_,_,_,_,o,_,_,e,_⟩:=x;exact aAf e
 |set S n=>obtain⟨o,_,_,_,e,_⟩:=x;exact aAf e
 |ins C b fs=>obtain⟨_,_,_,e,_⟩:=x;exact aAf e
 |own y=>obtain⟨_,e⟩:=x;exact aAf e
 |xd fs=>obtain⟨_,⟨_,_,_,e,_⟩,_⟩:=x;exact aAf e
 |rng lo d=>obtain⟨_,_,_,e⟩:=x;exact aAf e
 |frz g u=>obtain⟨e,_⟩:=x;exact aAf e
 |tbl i=>obtain⟨_,e,_⟩:=x;exact aAf e
 |met f y=>exact aAf (show h.get? a=some _ from x)
 |ext φ=>obtain⟨_,⟨_,e⟩,_⟩:=x;exact aAf e
theorem Paired.af7 {α β:Type}{F G:α->β->Prop}:∀{l₁:List α} {l₂:List β},Paired F l₁ l₂->(∀a b,F a b->G a b)->Paired G l₁ l₂
 |_,_,.nil,_=>.nil
 |_,_,.cons r t,f=>.cons (f _ _ r) (Paired.af7 t f)
def ObjOk.ab8 (x:ObjOk P w H h a o)(k:∀b u,(b=a\/H b=some (.own a))->h.get? b=some u->h'.get? b=some u)
  (L:∀b,H b=some (.own a)->H' b=some (.own a)) (E:∀b u,WT u->H b=some u->H' b=some u):ObjOk P w H' h' a o:=by
 induction o with
 |lst Y=>obtain⟨z,l,n,r,e⟩:=x;exact⟨z,l,n,r,k _ _ (.inl rfl) e⟩
 |tup Y=>obtain⟨z,l,r,g,e,c⟩:=x;exact⟨z,l,r,g,k _ _ (.inl rfl) e,c⟩
 |dK J=>obtain⟨z,y,m,r,g,i,j,e,c⟩:=x;exact⟨z,y,m,r,g,i,j,k _ _ (.inl rfl) e,c⟩
 |dT J=>obtain⟨z,y,Y,r,g,i,j,e,c⟩:=x;exact⟨z,y,Y,Paired.af7 r λp q z=>⟨z.1,E _ _ trivial z.2.1,z.2.2⟩,g,i,j,k _ _ (.inl rfl) e,c⟩
 |set S n=>obtain⟨g,i,j,t,e,c⟩:=x;exact⟨g,i,j,t,k _ _ (.inl rfl) e,c⟩
 |ins C dx fs=>obtain⟨d,z,ne,e,s,⟨A,i,j,B,c⟩,r⟩:=x;exact⟨L _ d,z,ne,k _ _ (.inl rfl) e,s,⟨A,i,j,k _ _ (.inr d) B,c⟩,r⟩
 |own y=>obtain⟨g,e⟩:=x;exact⟨g,k _ _ (.inl rfl) e⟩
 |xd fs=>obtain⟨s,⟨A,i,j,e,c⟩,r⟩:=x;exact⟨s,⟨A,i,j,k _ _ (.inl rfl) e,c⟩,r⟩
 |rng lo hi=>obtain⟨t,u,v,e⟩:=x;exact⟨t,u,v,k _ _ (.inl rfl) e⟩
 |frz g u N=>obtain⟨e,q⟩:=x;exact⟨k _ _ (.inl rfl) e,N q⟩
 |tbl tb=>obtain⟨O,e,t,f⟩:=x;exact⟨O,k a _ (.inl rfl) e,t,λp Q=>(f p Q).imp id λ⟨c,T,m,t,U,B,I⟩=>⟨c,T,m,t,U,E _ _ ⟨m,I.1⟩ B,I⟩⟩
 |met f y=>have e:h.get? a=some (PySem.W.methodObj (.ref f)<|.ref y):=x;show h'.get? a=some (PySem.W.methodObj (.ref f)<|.ref y);exact k a _ (.inl rfl) e
 |ext φ=>obtain⟨p,⟨o,e⟩,st⟩:=x;exact⟨st _ _ p λo q=>k _ _ (.inl rfl) q,⟨o,k _ _ (.inl rfl) e⟩,st⟩
def fA.lt (x:fA P w H h)(e:H a=some o):a<h.objs.size:=(x a o e).lt
def fA.fresh (x:fA P w H h)(e:h.objs.size<=a):H a=none:=by
 cases q:H a with
 |none=>rfl
 |some u=>exact absurd (aAw (x.lt q) e) (aBg _)
def fA.kept (x:fA P w H h)(k:∀b u,h.get? b=some u->h'.get? b=some u):fA P w H h':=λa o e=>(x a o e).ab8 (λb u _ q=>k b u q) (λ_ q=>q) λ_ _ _ q=>q
def fA.laid (x:fA P w H h)(k:∀b u,h.get? b=some u->h'.get? b=some u)(i:h.objs.size<=a)(d:ObjOk P w (upd H a o) h' a o):fA P w (upd H a o) h':=λb u e=>by
 have f:=x.fresh i;by_cases g:b=a
 .subst g;rw[j3]at e;cases e;exact d
 .rw[l4 g]at e;exact(x b u e).ab8 (λc v _ q=>k c v q) (λc q=>by rw[l4 (q9 q f)];exact q) λc Y _ q=>by rw[l4 (q9 q f)];exact q
end
def Rd (H:Hp)(a:cp)(u:HO):Prop:=H a=some u\/∃o,H a=some (.frz o u)
def Rd.ok (r:Rd H a u)(x:fA P w H h):ObjOk P w H h a u:=by
 rcases r with r|⟨o,r⟩
 .exact x a u r
 .obtain⟨_,q⟩:=x a _ r;exact q
def Mut:Option HO->Prop
 |some (.lst _)=>True
 |some (.dK _)=>True
 |some (.dT _)=>True
 |some (.set _ _)=>True
 |some (.ins _ _ _)=>True
 |some (.ext _)=>True
 |_=>False
section
variable{P:cu} {w:cz} {H:Hp} {h h':de} {x e:cp} {o':HO}
def fA.write (ok:fA P w H h)(g:Mut (H x))(o:e=x\/H e=some (.own x))(k:∀b u,b≠e->h.get? b=some u->h'.get? b=some u)(m:∃u,h'.get? e=some u)
  (n:ObjOk P w (upd H x o') h' x o'):fA P w (upd H x o') h':=λb u q=>by
 have a:∀c y,H c=some (.own y)->c≠x:=λc y r z=>by subst z;rw[r]at g;exact g
 have d:∀c u,WT u->H c=some u->c≠x:=λc u f r z=>by subst z;rw[r]at g;cases u<;>first|exact g|exact f
 by_cases i:b=x
 .subst i;rw[j3]at q;cases q;exact n
 .rw[l4 i]at q;by_cases j:b=e
  .have p:H b=some (.own x):=by
    rcases o with z|z
    .exact absurd (j.trans z) i
    .rw[j];exact z
   rw[q]at p;cases p;obtain⟨v,s⟩:=m;exact⟨v,by rw[j];exact s⟩
  .refine(ok b u q).ab8 (λc v l r=>k c v ?_ r) (λc r=>by rw[l4 (a c b r)];exact r) λc Y f r=>by rw[l4 (d c Y f r)];exact r
   rcases l with rfl|l
   .exact j
   .rintro rfl;rcases o with z|z
    .exact a c b l z
    .rw[l]at z;cases z;exact i rfl
end
structure Un (fs ex:List Addr)(H H':Hp)(h h':Heap):Prop where
 keep:∀b o,h.get? b=some o->H b=none->b∉fs->b∉ex->h'.get? b=some o
 slot:∀b o,h.get? b=some o->H b=none->b∈fs->b∉ex->∃sl,h'.get? b=some {o with slots:=sl}
 free:∀b o,h.get? b=some o->H b=none->b∉ex->H' b=none
 there:∀b o,h.get? b=some o->b∉ex->∃o',h'.get? b=some o'
 tups:∀b Y,H b=some (.tup Y)->H' b=some (.tup Y)
 frzs:∀b o u,H b=some (.frz o u)->H' b=some (.frz o u)
 tbls:∀b tb,H b=some (.tbl tb)->H' b=some (.tbl tb)
section
variable{fs xt ex ex':List cp} {H H1 H2:Hp} {h h1 h2 h':de} {a x e:cp} {o:HO}
def Un.any (u:Un fs ex H H1 h h1)(q:h.get? b=some d)(n:H b=none)(f:b∉ex):∃sl,h1.get? b=some {d with slots:=sl}:=by
 by_cases g:b∈fs
 .exact u.slot b d q n g f
 .exact⟨d.slots,u.keep b d q n g f⟩
def Un.kept (k:∀b u,h.get? b=some u->h'.get? b=some u):Un fs ex H H h h':=
 ⟨λb d q _ _ _=>k b d q,λb d q _ _ _=>⟨d.slots,k b d q⟩,λ_ _ _ n _=>n,λb d q _=>⟨d,k b d q⟩,λ_ _ q=>q,λ_ _ _ q=>q,λ_ _ q=>q⟩
def Un.refl:Un fs ex H H h h:=Un.kept λ_ _ q=>q
def Un.laid (k:∀b u,h.get? b=some u->h'.get? b=some u)(f:h.objs.size<=a)(d:H a=none):Un fs ex H (upd H a o) h h' where
 keep:=λb u q _ _ _=>k b u q
 slot:=λb u q _ _ _=>⟨u.slots,k b u q⟩
 free:=λb u q n _=>by rw[l4 (aAl<|aAw (aAf q) f)];exact n
 there:=λb u q _=>⟨u,k b u q⟩
 tups:=λb Y q=>by rw[l4 (q9 q d)];exact q
 frzs:=λb u Y q=>by rw[l4 (q9 q d)];exact q
 tbls:=λb g q=>by rw[l4 (q9 q d)];exact q
def Un.write (d:Mut (H x))(m:e=x\/H e=some (.own x))(k:∀b u,b≠e->h.get? b=some u->h'.get? b=some u)(f:∃u,h'.get? e=some u):Un fs ex H (upd H x o) h h':=by
 have i:∀b,H b=none->b≠x:=λb n z=>by subst z;rw[n]at d;exact d
 have j:∀b,H b=none->b≠e:=λb n z=>by
  subst z;rcases m with r|r
  .exact i b n r
  .rw[n]at r;cases r
 have g:∀b u,H b=some u->¬Mut (some u)->b≠x:=λb u q p z=>by subst z;rw[q]at d;exact p d
 refine⟨λb u q n _ _=>k b u (j b n) q,λb u q n _ _=>⟨u.slots,k b u (j b n) q⟩,λb u q n _=>by rw[l4 (i b n)];exact n,λb u q _=>?_,
  λb Y q=>by rw[l4 (g b _ q λz=>z)];exact q,λb u Y q=>by rw[l4 (g b _ q λz=>z)];exact q,λb s q=>by rw[l4 (g b _ q λz=>z)];exact q⟩
 by_cases l:b=e
 .subst l;exact f
 .exact⟨u,k b u l q⟩
end
def trk (h:de)(H:Hp):List cp:=(aBv h.objs.size).filter λa=>(H a).isSome
def qN (h:de)(H:Hp):de:=PySem.W.hideAll h (trk h H)
def IJ (h:de)(H:Hp):(qN h H).objs.size=h.objs.size:=PySem.W.hideAll_size _ _
def OW (e:h.get? b=some o)(n:H b=none):(qN h H).get? b=some o:=
 PySem.W.hideAll_get _ e λa=>by have q:(H b).isSome=true:=(aAQ.mp a).2;rw[n]at q;simp at q
def TJ (e:(qN h H).get? b=some o):h.get? b=some o/\H b=none:=by
 have a:h.get? b=some o:=PySem.W.of_hideAll (trk h H) e;refine⟨a,?_⟩;cases q:H b with
 |none=>rfl
 |some x=>have d:b∈trk h H:=aAQ.mpr ⟨aCC.mpr (aAf a),by simp[q]⟩;have z:(qN h H).get? b=none:=PySem.W.hideAll_none (trk h H) d;rw[z]at e;cases e
def TL (g h:de)(L:cp):List (cp×Obj):=(aBv h.objs.size).filterMap λa=>if a=L\/(g.get? a).isSome=true then none else(h.get? a).map λo=>(a,o)
def rest (g h:de)(L d:cp):List (cp×Obj):=(TL g h L).filter λp=>decide (p.1≠d)
structure Mod (K:PySem.W.Frag)(mg:cE)(base:Heap):Prop where
 kin:K.In base
 glob:base.Ns mainGlobals mg
 blt:∃mb,base.Ns builtinsNs mb/\∀x:Str,x≠ "__name__"->mb x=bootBuiltins x
 nolimit:base.NoLimit
structure Cx where
 prog:Program
 w:World
 K:PySem.W.Frag
 mg:Str->Option Value
 base:Heap
 A:Around
 N:List Str
 s9:Shared
 H9:Hp
 env:Env
 outer:List Env
 stack:List Env
 ex:List Addr
 fn:Str->Bool
 calm:Bool
 pn:List (Addr×Obj)
 xe:Value->Shared->Prop
def zG (l:List Env):List cp:=l.filterMap (·.frame)
abbrev Cx.fs (X:Cx):List cp:=zG X.outer
def vT (sc:kb)(x:Str):Prop:=sc.names.lookup x=some .local\/sc.names.lookup x=some .cell\/sc.names.lookup x=some .free
def Loc (sc:kb)(x:Str):Prop:=sc.names.lookup x=some .local\/sc.names.lookup x=some .cell
def Look (env:Env)(h:de)(m:cE)(x:Str)(u:ae):Prop:=
 (env.kindOf x=some .local/\m x=some u)\/((env.kindOf x=some .cell\/env.kindOf x=some .free)/\∃c,env.cells.lookup x=some c/\h.IsCell c (some u))
structure Cx.Ok (X:Cx):Prop where
 mod:Mod X.K X.mg X.base
 kind:X.env.scope.kind=.function
 glob:X.env.globals=mainGlobals
 blt:X.env.builtins=builtinsNs
 above:X.s9.heap.objs.size<=X.env.locals
 inj:∀x y c,X.env.cells.lookup x=some c->X.env.cells.lookup y=some c->x=y
 has:∀x,(X.env.kindOf x=some .cell\/X.env.kindOf x=some .free)->∃c,X.env.cells.lookup x=some c
 cab:∀x c,X.fn x=true->X.env.cells.lookup x=some c->X.s9.heap.objs.size<=c
 hd:X.calm=true->X.A.handled=none
 frames:X.A.frames=some X.stack
 stk:X.stack=X.outer\/(X.stack=X.env::X.outer/\X.env.frame=some X.env.locals)
 exf:∀b∈X.ex,b≠X.env.locals/\∀x c,X.env.cells.lookup x=some c->c≠b
 bs:∀b o,X.base.get? b=some o->X.s9.heap.get? b=some o/\X.H9 b=none
 bsz:X.base.objs.size<=X.s9.heap.objs.size
 noex:∀b o,X.base.get? b=some o->b∉X.ex
 exfs:∀b∈X.ex,b∉X.fs
 funs:X.s9.heap.FunFrames X.base X.outer
 frf:∀b∈X.fs,X.H9 b=none
structure Inv (X:Cx)(pins:N3)(σ:List (Option V))(H:Hp)(s:Shared):Prop where
 ok:X.Ok
 os:s.os=X.s9.os
 bare:AllBare s.gens
 base:Un X.fs X.ex X.H9 H X.s9.heap s.heap
 loc:∃m,s.heap.Ns X.env.locals m/\∀(i:Nat) (x:Str) (v:V),X.N[i]?=some x->σ[i]?=some (some v)->vT X.env.scope x->∃u,RelV v u/\Look X.env s.heap m x u
 cell:∀x c,X.env.cells.lookup x=some c->∃v,s.heap.IsCell c v
 free:H X.env.locals=none
 freeC:∀x c,X.env.cells.lookup x=some c->H c=none
 pin:∀p∈X.pn++pins,s.heap.get? p.1=some p.2/\H p.1=none/\p.1≠X.env.locals/\p.1∉X.fs/\∀v,p.2.data≠.cell v
 hok:fA X.prog X.w H s.heap
 len:σ.length=X.N.length
section
variable{X:Cx} {pins:N3} {σ:List (Option V)} {H H':Hp} {s:be} {h':de}
def Cx.Ok.nofr (ok:X.Ok)(e:X.base.get? b=some o):b∉X.fs:=λa=>by have:=(ok.funs.mem a).1;rw[e]at this;cases this
def Inv.bs (I:Inv X pins σ H s):∀b o,X.base.get? b=some o->s.heap.get? b=some o/\H b=none:=λb o e=>⟨I.base.keep b o (I.ok.bs b o e).1 (I.ok.bs b o e).2 (I.ok.nofr e) (I.ok.noex b o e),I.base.free b o (I.ok.bs b o e).1 (I.ok.bs b o e).2 (I.ok.noex b o e)⟩
def Inv.bk (I:Inv X pins σ H s):∀b o,X.base.get? b=some o->s.heap.get? b=some o:=λb o e=>(I.bs b o e).1
def Inv.mod (I:Inv X pins σ H s):Mod X.K X.mg X.base:=I.ok.mod
def Inv.kIn (I:Inv X pins σ H s):X.K.In s.heap:=I.ok.mod.kin.keeps I.bk
def Inv.lt (I:Inv X pins σ H s):X.env.locals<s.heap.objs.size:=let⟨_,a,_⟩:=I.loc;a.lt
def Inv.sz (I:Inv X pins σ H s):X.s9.heap.objs.size<=s.heap.objs.size:=aAp I.ok.above (aDB I.lt)
def Inv.ag1 (I:Inv X pins σ H s)(h:s.heap.objs.size<=a):a∉X.fs:=λb=>by obtain⟨_,o,d,_⟩:=I.ok.funs.mem b;exact absurd (aAw (aAf d)<|aAp I.sz h) (aBg _)
def Inv.cne (I:Inv X pins σ H s):∀x c,X.env.cells.lookup x=some c->c≠X.env.locals:=λx c e z=>by obtain⟨v,o,a,b⟩:=I.cell x c e;obtain⟨m,⟨g,h,i,d,f,_⟩,_⟩:=I.loc;rw[z,d]at a;cases a;rw[f]at b;cases b
def Inv.funs (I:Inv X pins σ H s):s.heap.FunFrames X.base X.outer:=by
 have all:∀(l:List Env),(∀b∈zG l,b∈X.fs)->X.s9.heap.FunFrames X.base l->s.heap.FunFrames X.base l:=by
  intro l;induction l with
  |nil=>intro _ _;trivial
  |cons h r i=>intro g j;obtain⟨k,⟨L,o,a,m,n,p⟩,q⟩:=j;have d:L∈X.fs:=g L (by unfold zG;rw[aCG,a];exact aAU);obtain⟨t,e⟩:=I.base.slot L o n (I.ok.frf L d) d λz=>I.ok.exfs L z d;exact⟨k,⟨L,_,a,m,e,p⟩,i (λb f=>g b (by unfold zG;rw[aCG,a];exact aAe _ f)) q⟩
 exact all X.outer (λ_ f=>f) I.ok.funs
def Inv.stack (I:Inv X pins σ H s):s.heap.FunFrames X.base X.stack:=by
 rcases I.ok.stk with e|⟨e,a⟩
 .rw[e];exact I.funs
 .rw[e];obtain⟨m,b,_⟩:=I.loc;refine .cons (by rw[I.ok.kind];decide) a b ?_ I.funs;exact aEx (aAp I.ok.bsz I.ok.above)
def Inv.ab6 (I:Inv X pins σ H s):∀b∈zG X.stack,b∈X.env.locals::X.fs:=λb a=>by
 rcases I.ok.stk with e|⟨e,d⟩
 .rw[e]at a;exact aAe _ a
 .rw[e]at a;unfold zG at a;rw[aCG,d]at a;exact a
def Inv.ad3 (I:Inv X pins σ H s):∀b∈zG X.stack,H b=none:=λb a=>by
 rcases aAd.mp (I.ab6 b a)with e|a
 .rw[e];exact I.free
 .obtain⟨_,o,d,_⟩:=I.ok.funs.mem a;exact I.base.free b o d (I.ok.frf b a) λz=>I.ok.exfs b z a
def Inv.step {g':Array GenState}{t':Nat}{d':Drawn}{ch:List cp}(I:Inv X pins σ H s)
  (E:∀b∈ch,(b∈X.ex\/X.s9.heap.objs.size<=b)/\b≠X.env.locals/\(∀x c,X.env.cells.lookup x=some c->c≠b)/\∀p∈X.pn++pins,p.1≠b)
  (g:∀b o,b≠X.env.locals->b∉X.fs->b∉ch->s.heap.get? b=some o->H b=none->h'.get? b=some o)
  (slot:∀b o,b≠X.env.locals->b∈X.fs->b∉ch->s.heap.get? b=some o->H b=none->∃sl,h'.get? b=some {o with slots:=sl}) (f:∀b o,b∉ch->s.heap.get? b=some o->H b=none->H' b=none)
  (y:∀b o,b∉ch->s.heap.get? b=some o->∃J,h'.get? b=some J)
  (L:∀b Y,H b=some (.tup Y)->H' b=some (.tup Y)) (N:∀b o u,H b=some (.frz o u)->H' b=some (.frz o u)) (O:∀b tb,H b=some (.tbl tb)->H' b=some (.tbl tb))
  (ns:∀m,s.heap.Ns X.env.locals m->h'.Ns X.env.locals m) (T:fA X.prog X.w H' h') (hg:AllBare g'):
  Inv X pins σ H' {s with heap:=h',gens:=g',drawn:=d',toks:=t'}:=by
 have Q:∀b o,X.s9.heap.get? b=some o->b≠X.env.locals:=λb o e=>aAl (aAw (aAf e) I.ok.above);have t:∀b o,X.s9.heap.get? b=some o->b∉X.ex->b∉ch:=λb o e a A=>by
  rcases(E b A).1 with z|z
  .exact a z
  .exact absurd (aAw (aAf e) z) (aBg _)
 have h:∀x c,X.env.cells.lookup x=some c->∀v,s.heap.IsCell c v->h'.IsCell c v:=λx c e v ⟨o,C,U⟩=>by
  have j:c∉ch:=λz=>(E c z).2.2.1 x c e rfl;by_cases hc:c∈X.fs
  .obtain⟨sl,q⟩:=slot c o (I.cne x c e) hc j C (I.freeC x c e);exact⟨_,q,U⟩
  .exact⟨o,g c o (I.cne x c e) hc j C (I.freeC x c e),U⟩
 refine⟨I.ok,I.os,hg,⟨λb o e n A a=>?_,λb o e n A a=>?_,λb o e n a=>?_,λb o e a=>?_,λb Y e=>L b Y (I.base.tups b Y e),λb o Y e=>N b o Y (I.base.frzs b o Y e),λb ps e=>?_⟩,?_,λx c e=>?_,?_,λx c e=>?_,λp hp=>?_,T,I.len⟩
 .exact g b o (Q b o e) A (t b o e a) (I.base.keep b o e n A a) (I.base.free b o e n a)
 .obtain⟨sl,B⟩:=I.base.slot b o e n A a;obtain⟨sl',e2⟩:=slot b _ (Q b o e) A (t b o e a) B (I.base.free b o e n a);exact⟨sl',e2⟩
 .obtain⟨J,B⟩:=I.base.there b o e a;exact f b J (t b o e a) B (I.base.free b o e n a)
 .obtain⟨J,B⟩:=I.base.there b o e a;exact y b J (t b o e a) B
 .exact O b ps (I.base.tbls b ps e)
 .obtain⟨m,hn,hl⟩:=I.loc;refine⟨m,ns m hn,λi x v B e2 e3=>?_⟩;obtain⟨u,r,l⟩:=hl i x v B e2 e3;refine⟨u,r,?_⟩;rcases l with l|⟨k,c,e,z⟩
  .exact .inl l
  .exact .inr ⟨k,c,e,h x c e _ z⟩
 .obtain⟨v,z⟩:=I.cell x c e;exact⟨v,h x c e v z⟩
 .obtain⟨m,⟨o,_,_,C,_⟩,_⟩:=I.loc;exact f _ o (λz=>(E _ z).2.1 rfl) C I.free
 .obtain⟨v,o,C,U⟩:=I.cell x c e;exact f c o (λz=>(E c z).2.2.1 x c e rfl) C (I.freeC x c e)
 .obtain⟨e,n,ne,nf,d⟩:=I.pin p hp;have j:p.1∉ch:=λz=>(E p.1 z).2.2.2 p hp rfl;exact⟨g p.1 p.2 ne nf j e n,f p.1 p.2 j e n,ne,nf,d⟩
def Inv.un {t':Nat}(I:Inv X pins σ H s)(u:Un X.fs [] H H' s.heap h')(a:fA X.prog X.w H' h'):Inv X pins σ H' {s with heap:=h',toks:=t'}:=by
 obtain⟨m,⟨o,p,q,h,r⟩,_⟩:=id I.loc;obtain⟨t,j⟩:=u.any h I.free (by simp);exact I.step (g':=s.gens) (d':=s.drawn) (ch:=[]) (λ_ z=>nomatch z) (λb o _ d _ e n=>u.keep b o e n d (by simp)) (λb o _ d _ e n=>u.slot b o e n d (by simp)) (λb o _ e n=>u.free b o e n (by simp)) (λb o _ e=>u.there b o e (by simp)) u.tups u.frzs u.tbls (λv k=>by obtain⟨x,f,g,i,l⟩:=k;rw[h]at i;cases i;exact⟨_,f,g,j,l⟩) a I.bare
def Inv.call {g':Array GenState}{t':Nat}{d':Drawn}{ch:List cp}(I:Inv X pins σ H s)(u:Un (zG X.stack) ch H H' s.heap h')(d:fA X.prog X.w H' h')(l:AllBare g')
  (i:∀b∈ch,(b∈X.ex\/X.s9.heap.objs.size<=b)/\b≠X.env.locals/\(∀x c,X.env.cells.lookup x=some c->c≠b)/\∀p∈X.pn++pins,p.1≠b):
  Inv X pins σ H' {s with heap:=h',gens:=g',drawn:=d',toks:=t'}:=by
 obtain⟨m,⟨o,y,A,j,r⟩,_⟩:=id I.loc;obtain⟨B,f⟩:=u.any j I.free λz=>(i _ z).2.1 rfl;exact I.step (ch:=ch) i (λb o f q a e n=>u.keep b o e n (λz=>(aAd.mp<|I.ab6 b z).elim f q) a) (λb o _ _ a e n=>u.any e n a) (λb o a e n=>u.free b o e n a) (λb o a e=>u.there b o e a) u.tups u.frzs u.tbls (λC t=>by obtain⟨E,g,h,k,v⟩:=t;rw[j]at k;cases k;exact⟨_,g,h,f,v⟩) d l
def Inv.turned {t':Nat}{it:cp}(I:Inv X pins σ H s)(k:∀b o,b≠it->s.heap.get? b=some o->h'.get? b=some o)(g:H it=none)(f:it≠X.env.locals)
  (h:it∈X.ex\/X.s9.heap.objs.size<=it) (i:∀x c,X.env.cells.lookup x=some c->c≠it) (j:∀p∈X.pn++pins,p.1≠it):Inv X pins σ H {s with heap:=h',toks:=t'}:=by
 have d:∀b u,H b=some u->b≠it:=λb u e z=>by rw[z,g]at e;cases e
 refine I.step (g':=s.gens) (d':=s.drawn) (ch:=[it]) (λb l=>?_) (λb o _ _ a e _=>k b o (λz=>a (by simp[z])) e) (λb o _ _ a e _=>⟨o.slots,k b o (λz=>a (by simp[z])) e⟩) (λ_ _ _ _ n=>n)
  (λb o a e=>⟨o,k b o (λz=>a (by simp[z])) e⟩) (λ_ _ e=>e) (λ_ _ _ e=>e) (λ_ _ e=>e) (λm t=>?_) (λb u e=>?_) I.bare
 .have e:b=it:=by simpa using l
  subst e;exact⟨h,f,i,j⟩
 .obtain⟨o,w,y,A,r⟩:=t;exact⟨o,w,y,k _ o (aBV f) A,r⟩
 .refine(I.hok b u e).ab8 (λc v a q=>k c v ?_ q) (λ_ q=>q) λ_ _ _ q=>q;rcases a with z|z
  .rw[z];exact d b u e
  .exact d c _ z
def Inv.tok (I:Inv X pins σ H s)(t:Nat):Inv X pins σ H {s with toks:=t}:=I.un (h':=s.heap) (t':=t) Un.refl I.hok
def Inv.kept (I:Inv X pins σ H s)(k:∀b u,s.heap.get? b=some u->h'.get? b=some u):Inv X pins σ H {s with heap:=h',toks:=t'}:=I.un (Un.kept k) (I.hok.kept k)
def Inv.laid (I:Inv X pins σ H s)(k:∀b u,s.heap.get? b=some u->h'.get? b=some u)(d:s.heap.objs.size<=a)(e:ObjOk X.prog X.w (upd H a o) h' a o):
 Inv X pins σ (upd H a o) {s with heap:=h',toks:=t'}:=I.un (Un.laid k d<|I.hok.fresh d) (I.hok.laid k d e)
def Inv.write (I:Inv X pins σ H s)(f:Mut (H x))(g:e=x\/H e=some (.own x))(k:∀b u,b≠e->s.heap.get? b=some u->h'.get? b=some u)(a:∃u,h'.get? e=some u)(d:ObjOk X.prog X.w (upd H x o) h' x o):Inv X pins σ (upd H x o) {s with heap:=h',toks:=t'}:=I.un (Un.write f g k a) (I.hok.write f g k a d)
def Inv.ad2 (I:Inv X pins σ H s)(h:∀p∈a,s.heap.get? p.1=some p.2/\H p.1=none/\p.1≠X.env.locals/\p.1∉X.fs/\∀v,p.2.data≠.cell v):Inv X a σ H s:=
 ⟨I.ok,I.os,I.bare,I.base,I.loc,I.cell,I.free,I.freeC,λp b=>(aAT.mp b).elim (λz=>I.pin p (aBq _ z)) (h p),I.hok,I.len⟩
def xH {N:List Str}(d:N.Nodup){i j:Nat}{x:Str}(a:N[i]?=some x)(b:N[j]?=some x):i=j:=by obtain⟨g,e⟩:=aAy.mp a;obtain⟨h,f⟩:=aAy.mp b;exact(List.getElem_inj d).mp (e.trans f.symm)
def rZ {M:Model}{A:cy}{E:A3}{i:Nat}{x:Str}{v:V}{u:ae}{Q:Unit->be->Prop}(I:Inv X pins σ H s)(hN:X.N.Nodup)(U:X.N[i]?=some x)(B:Loc X.env.scope x)(r:RelV v u)
  (h:∀s',Inv X pins (σ.set i (some v)) H s'->(∃a,Heap.SameBut a s.heap s'.heap/\(a=X.env.locals\/X.env.cells.lookup x=some a))->Q () s') (hf:X.fn x=true\/X.env.scope.names.lookup x=some .local:=by first|exact .inl rfl|exact .inr rfl|assumption):a9 M A (storeName X.env x u) Q E s:=by
 obtain⟨m,hn,hl⟩:=id I.loc;have Y:(X.env.scope.kind==.class||(X.env.scope.kind==.module&&X.env.locals !=X.env.globals))=false:=by rw[I.ok.kind];rfl
 have J:i<σ.length:=by rw[I.len];exact(aAy.mp U).1
 have cne:=I.cne;have g:∀{a:cp} {h':de},(∃o,s.heap.get? a=some o/\H a=none)->Heap.SameBut a s.heap h'->fA X.prog X.w H h':=λ{a h'} ha f b ob e=>by
  obtain⟨_,_,jv⟩:=ha;refine(I.hok b ob e).ab8 (λc w' t q=>(f.2 c ?_).trans q) (λ_ q=>q) λ_ _ _ q=>q;rintro rfl;rcases t with rfl|t
  .rw[jv]at e;cases e
  .rw[jv]at t;cases t
 rcases B with L|L
 .refine wpAny_storeName_local L hn (λh' hn' f=>?_) Y;obtain⟨oL,_,_,hoL,_⟩:=id hn;refine h _ ⟨I.ok,I.os,I.bare,⟨λb o e n O B=>?_,λb o e n O B=>?_,I.base.free,λb o e B=>?_,I.base.tups,I.base.frzs,I.base.tbls⟩,⟨_,hn',λj y v' l C e3=>?_⟩,λy c e=>?_,I.free,I.freeC,λp hp=>?_,g ⟨oL,hoL,I.free⟩ f,by simpa using I.len⟩ ⟨_,f,.inl rfl⟩
  .exact(f.2 b (aAl<|aAw (aAf e) I.ok.above)).trans (I.base.keep b o e n O B)
  .obtain⟨sl,l⟩:=I.base.slot b o e n O B;exact⟨sl,(f.2 b (aAl<|aAw (aAf e) I.ok.above)).trans l⟩
  .obtain⟨o',l⟩:=I.base.there b o e B;exact⟨o',(f.2 b (aAl<|aAw (aAf e) I.ok.above)).trans l⟩
  .by_cases T:j=i
   .subst T;rw[U]at l;cases l;rw[aBI J]at C;cases C;exact⟨u,r,.inl ⟨L,by simp⟩⟩
   .rw[aCy (aBV T)]at C;obtain⟨u',r',q⟩:=hl j y v' l C e3;refine⟨u',r',?_⟩;rcases q with⟨k,e⟩|⟨k,c,e,z⟩
    .refine .inl ⟨k,?_⟩;have:y≠x:=λe=>T (xH hN l<|e▸U);simp[this,e]
    .exact .inr ⟨k,c,e,z.sameBut f (cne y c e)⟩
  .obtain⟨w',z⟩:=I.cell y c e;exact⟨w',z.sameBut f (cne y c e)⟩
  .obtain⟨e,n,ne,nf,d⟩:=I.pin p hp;exact⟨(f.2 p.1 ne).trans e,n,ne,nf,d⟩
 .have xv:X.fn x=true:=by
   rcases hf with z|z
   .exact z
   .rw[z]at L;cases L
  obtain⟨c,t⟩:=I.ok.has x (.inl L);obtain⟨w',z⟩:=I.cell x c t;refine wpAny_storeName_cell I.ok.kind L t z (λh' ya f=>?_);obtain⟨oc,bo,hocd⟩:=id z;refine h {s with heap:=h'} ⟨I.ok,I.os,I.bare,⟨λb o e n O B=>?_,λb o e n O B=>?_,I.base.free,λb o e B=>?_,I.base.tups,I.base.frzs,I.base.tbls⟩,⟨m,hn.sameBut f (aBV<|cne x c t),λj y v' l C e3=>?_⟩,λy c' e=>?_,I.free,I.freeC,λp hp=>?_,g ⟨oc,bo,I.freeC x c t⟩ f,by simpa using I.len⟩ ⟨c,f,.inr t⟩
  .exact(f.2 b (aAl<|aAw (aAf e)<|I.ok.cab x c xv t)).trans (I.base.keep b o e n O B)
  .obtain⟨sl,l⟩:=I.base.slot b o e n O B;exact⟨sl,(f.2 b (aAl<|aAw (aAf e)<|I.ok.cab x c xv t)).trans l⟩
  .obtain⟨o',l⟩:=I.base.there b o e B;exact⟨o',(f.2 b (aAl<|aAw (aAf e)<|I.ok.cab x c xv t)).trans l⟩
  .by_cases T:j=i
   .subst T;rw[U]at l;cases l;rw[aBI J]at C;cases C;exact⟨u,r,.inr ⟨.inl L,c,t,ya⟩⟩
   .rw[aCy (aBV T)]at C;obtain⟨u',r',q⟩:=hl j y v' l C e3;refine⟨u',r',?_⟩;rcases q with q|⟨k,c',e,z'⟩
    .exact .inl q
    .refine .inr ⟨k,c',e,z'.sameBut f ?_⟩;rintro rfl;exact T (xH hN l<|I.ok.inj _ _ _ e t▸U)
  .by_cases hcc:c'=c
   .subst hcc;exact⟨_,ya⟩
   .obtain⟨w2,z2⟩:=I.cell y c' e;exact⟨w2,z2.sameBut f hcc⟩
  .obtain⟨e,n,ne,nf,d⟩:=I.pin p hp;refine⟨(f.2 p.1 ?_).trans e,n,ne,nf,d⟩;intro q;rw[q,bo]at e;have q':oc=p.2:=Option.some.inj e;exact d w' (by rw[<-q'];exact hocd)
def Q9 {E:A3}{Q:Unit->be->Prop}(I:Inv X pins σ H s)(a:X.N.Nodup)(b:X.N[i]?=some x)(d:Loc X.env.scope x)(r:RelV v u)(h:∀s',Inv X pins (σ.set i (some v)) H s'->Q () s')(e:X.fn x=true\/X.env.scope.names.lookup x=some .local:=by first|exact .inl rfl|exact .inr rfl|assumption):a9 M A (storeName X.env x u) Q E s:=
 rZ I a b d r (λs' f _=>h s' f) e
def Inv.af9 (I:Inv X pins σ H s)(d:s'.os=s.os)(u:Un (zG X.stack) ch H H' s.heap s'.heap)(a:fA X.prog X.w H' s'.heap)(f:AllBare s'.gens)(g:∀b∈ch,(b∈X.ex\/X.s9.heap.objs.size<=b)/\b≠X.env.locals/\(∀x c,X.env.cells.lookup x=some c->c≠b)/\∀p∈X.pn++pins,p.1≠b):Inv X pins σ H' s':=by obtain⟨h',g',d',t',h⟩:=s';have e:h=s.os:=d;subst e;exact I.call (g':=g') (t':=t') (d':=d') u a f g
end
abbrev XK:=ae->Option cp->Hp->Prop
abbrev St:=List (Option V)
abbrev VK:=V->Hp->Prop
abbrev TE:=St->Hp->VK->Prop
abbrev TT:=St->Hp->(Bool->Hp->Prop)->Prop
abbrev TA:=St->Hp->(List V->Hp->Prop)->Prop
structure Ends where
 nx:St->Hp->Prop
 rt:VK
 bk:St->Hp->Prop:=λ_ _=>False
 ct:St->Hp->Prop:=λ_ _=>False
abbrev TS:=Ends->St->Hp->Prop
def EP (X:Cx)(a:N3)(σ:St)(Q:VK)(u:ae)(s':be):Prop:=∃v b,Inv X a σ b s'/\RelV v u/\Q v b
def TP (X:Cx)(a:N3)(σ:St)(Q:Bool->Hp->Prop)(b:Bool)(s':be):Prop:=∃d,Inv X a σ d s'/\Q b d
def AP (X:Cx)(a:N3)(σ:St)(Q:List V->Hp->Prop)(e:List ae)(s':be):Prop:=∃b d,Inv X a σ d s'/\l9 b e/\Q b d
def SP (X:Cx)(a:N3)(D:Ends)(f:Flow)(s':be):Prop:=
 match f with
 |.next=>∃d b,Inv X a d b s'/\D.nx d b
 |.brk=>∃d b,Inv X a d b s'/\D.bk d b
 |.cont=>∃d b,Inv X a d b s'/\D.ct d b
 |.ret u=>∃v d b,Inv X a d b s'/\RelV v u/\D.rt v b
def PE (X:Cx)(e:dm)(t:TE):Prop:=
 ∀(a:N3) (s:be) (σ:St) (H:Hp) (Q:VK),Inv X a σ H s->t σ H Q->a9 (cq X.prog X.w) X.A (d3 e X.env) (EP X a σ Q) X.xe s
def PT (X:Cx)(e:dm)(t:TT):Prop:=
 ∀(a:N3) (s:be) (σ:St) (H:Hp) (Q:Bool->Hp->Prop),Inv X a σ H s->t σ H Q->a9 (cq X.prog X.w) X.A (isTrue e X.env<|d3 e X.env) (TP X a σ Q) X.xe s
def PW (X:Cx)(e:dm)(t:TT):Prop:=
 ∀(b:Sem ae) (a:N3) (s:be) (σ:St) (H:Hp) (Q:Bool->Hp->Prop),Inv X a σ H s->t σ H Q->a9 (cq X.prog X.w) X.A (isTrue e X.env b) (TP X a σ Q) X.xe s
def PW.pt (h:PW X e t):PT X e t:=h _
def PA (X:Cx)(es:List dm)(t:TA):Prop:=
 ∀(b:Pos) (a:N3) (s:be) (σ:St) (H:Hp) (Q:List V->Hp->Prop),Inv X a σ H s->t σ H Q->a9 (cq X.prog X.w) X.A (spliced<|dn b<|bb es X.env) (AP X a σ Q) X.xe s
def PS (X:Cx)(st:dC)(t:TS):Prop:=
 ∀(a:N3) (s:be) (σ:St) (H:Hp) (D:Ends),Inv X a σ H s->t D σ H->a9 (cq X.prog X.w) X.A (exec st X.env) (SP X a D) X.xe s
def tZ (X:Cx)(st:List dC)(t:TS):Prop:=
 ∀(a:N3) (s:be) (σ:St) (H:Hp) (D:Ends),Inv X a σ H s->t D σ H->a9 (cq X.prog X.w) X.A (execs st X.env) (SP X a D) X.xe s
def D4 {α:Type}{t:Sem α}{Q b:α->be->Prop}{M:Model}{A:cy}{E:A3}{s:be}(h:a9 M A t Q E s)(d:∀a s,Q a s->b a s):a9 M A t b E s:=aCt h d λ_ _ x=>x
section
variable{X:Cx}
def my (i:Nat):TE:=λσ H Q=>∃v,σ[i]?=some (some v)/\Q v H
def tC (v:V):TE:=λ_ H Q=>Q v H
def G6 (k:X.N[i]?=some x)(n:vT X.env.scope x)(f:(x==ll)=false:=by decide)(o:(x==lp)=false:=by decide):PE X (.Name x p) (my i):=by
 intro d s σ H Q I h;obtain⟨v,e,h⟩:=h;obtain⟨m,q,t⟩:=I.loc;obtain⟨u,r,l⟩:=t i x v k e n;have a:EP X d σ Q u s:=⟨v,H,I,r,h⟩;rcases l with⟨b,w⟩|⟨b,c,g,j⟩
 .exact wpAny_Name (wpAny_loadName_local I.ok.kind b q w a) f
 .rcases b with b|b
  .exact wpAny_Name (wpAny_loadName_cell I.ok.kind b g j a) f
  .exact wpAny_Name (wpAny_loadName_free I.ok.kind b g j a o) f
def YG {i j a}:PE X (.Constant (.int i) j a) (tC (.int i)):=λ_ _ _ H _ I h=>wpAny_Constant_int ⟨.int i,H,I.tok _,⟨_,rfl⟩,h⟩
def mz {b j a}:PE X (.Constant (.bool b) j a) (tC (.bl b)):=λ_ _ _ H _ I h=>Constant_bool ⟨.bl b,H,I,rfl,h⟩
def ZF {j a}:PE X (.Constant .none j a) (tC .non):=λ_ _ _ H _ I h=>Constant_none ⟨.non,H,I,rfl,h⟩
def Gl (X:Cx)(x:Str):Prop:=X.env.kindOf x=some .globalImplicit
def vE {E:A3}{Q:A3}(I:Inv X a σ H s)(b:Gl X x)(d:X.mg x=some u)(h:Q u s)(e:(x==ll)=false:=by decide):a9 (cq X.prog X.w) X.A (d3 (.Name x f) X.env) Q E s:=
 Calls.Name_function_global I.ok.kind b (Calls.loadGlobal_global (by rw[I.ok.glob];exact I.mod.glob.keeps I.bk) d h) e
def O6 {E:A3}{Q:A3}(I:Inv X a σ H s)(b:Gl X x)(d:X.mg x=none)(e:dq x=some u)(h:Q u s)(f:x≠ "__name__":=by decide)(g:(x==ll)=false:=by decide):a9 (cq X.prog X.w) X.A (d3 (.Name x i) X.env) Q E s:=by obtain⟨l,j,k⟩:=I.mod.blt;exact Calls.Name_function_global I.ok.kind b (Calls.loadGlobal_builtin (by rw[I.ok.glob];exact I.mod.glob.keeps I.bk) d (by rw[I.ok.blt];exact j.keeps I.bk) ((k x f).trans e) h) g
def TY (a:Gl X x)(b:X.mg x=some u)(r:RelV v u)(d:(x==ll)=false:=by decide):PE X (.Name x e) (tC v):=
 λ_ _ _ H _ I h=>vE I a b ⟨v,H,I,r,h⟩ d
variable{a b:dm} {ta tb:TE} {pos:Pos}
def tB (t:TE):TT:=λσ H Q=>t σ H λx d=>∃c,x=.bl c/\Q c d
def XY {e:dm}{t:TE}(h:PE X e t)(g:∀whole,isTrue e X.env whole=(do let v<-whole;standAt e.pos;gv [v] (truthy v)):=by intro _;rfl):PT X e (tB t):=by intro f s σ H Q I i;refine isTrue_plain (D4 (h f s σ H _ I i) λv n ⟨x,j,k,l,m⟩=>?_) (g _);obtain⟨d,rfl,q⟩:=m;cases l;exact aBO ⟨j,k,q⟩
variable{tA tB':TT} {rest:List dm}
def a1v (t u:TT):TT:=λσ H Q=>t σ H λc d=>if c=true then u σ d Q else Q false d
def tOr (t u:TT):TT:=λσ H Q=>t σ H λc d=>if c=true then Q true d else u σ d Q
def a2g (t:TT):TT:=λσ H Q=>t σ H λc d=>Q (!c) d
def RG (f:PT X a tA):PW X (.BoolOp .And [a] pos) tA:=by
 intro g d s σ H Q I h;refine isTrue_and (D4 (f d s σ H Q I h) λc i e=>?_);cases c with
 |true=>exact isTrue_and_nil e
 |false=>exact e
def YJ (f:PT X a tA):PW X (.BoolOp .Or [a] pos) tA:=by
 intro g d s σ H Q I h;refine isTrue_or (D4 (f d s σ H Q I h) λc i e=>?_);cases c with
 |false=>exact isTrue_or_nil e
 |true=>exact e
def YC (i:PT X a tA)(j:PW X (.BoolOp .And (b::rest) pos) tB'):PW X (.BoolOp .And (a::b::rest) pos) (a1v tA tB'):=by
 intro k d s σ H Q I h;refine isTrue_and (D4 (i d s σ H _ I h) λc l ⟨e,f,g⟩=>?_);cases c with
 |true=>exact j k d l σ e Q f g
 |false=>exact⟨e,f,g⟩
def yz (i:PT X a tA)(j:PW X (.BoolOp .Or (b::rest) pos) tB'):PW X (.BoolOp .Or (a::b::rest) pos) (tOr tA tB'):=by
 intro k d s σ H Q I h;refine isTrue_or (D4 (i d s σ H _ I h) λc l ⟨e,f,g⟩=>?_);cases c with
 |true=>exact⟨e,f,g⟩
 |false=>exact j k d l σ e Q f g
def ZN (e:PT X a tA):PT X (.UnaryOp .Not a pos) (a2g tA):=by intro d s σ H Q I h;exact isTrue_not (e d s σ H (λc f=>Q (!c) f) I h)
end
def N2 (K:lb)(H:Hp)(a:cp)(Y:List V):Prop:=
 Rd H a (.lst Y)\/
  ∃(o:Obj) (b:Array ae) (n:Nat),K.lookup a=some o/\o.cls=.type "list"/\o.dict=none/\o.data=.seq b n/\b.size<=sizeLine/\l9 Y b.toList
def T8 (K:lb)(H:Hp)(a:cp)(Y:List V):Prop:=
 Rd H a (.tup Y)\/
  ∃(o:Obj) (b:Array ae) (n:Nat),K.lookup a=some o/\o.cls=.type "tuple"/\o.data=.seq b n/\b.size<=sizeLine/\l9 Y b.toList
def a1o:ae->Option V
 |.none=>some .non
 |.bool b=>some (.bl b)
 |.int i _=>some (.int i)
 |.str x _=>some (.str x)
 |.bytes b _=>some (.byt b)
 |.float b _=>some (.flt b)
 |.ref a=>some (.ref a)
 |.type n=>some (.ty n)
 |_=>none
def RelV.abs (r:RelV x u):a1o u=some x:=by
 cases x with
 |non=>cases r;rfl
 |bl _=>cases r;rfl
 |int _=>obtain⟨t,rfl⟩:=r;rfl
 |str _=>obtain⟨t,rfl⟩:=r;rfl
 |byt _=>obtain⟨t,rfl⟩:=r;rfl
 |flt _=>obtain⟨t,rfl⟩:=r;rfl
 |ref _=>cases r;rfl
 |ty _=>cases r;rfl
def RelV.inj {x y:V}{u:ae}(r:RelV x u)(q:RelV y u):x=y:=Option.some.inj (r.abs.symm.trans q.abs)
theorem l9.inj:∀{Y a:List V} {b:List ae},l9 Y b->l9 a b->Y=a
 |_,_,_,.nil,.nil=>rfl
 |_,_,_,.cons r t,.cons d e=>by rw[r.inj d,l9.inj t e]
section
variable{X:Cx} {pins:N3} {σ:St} {H:Hp} {s:be} {a:cp} {Y ys:List V}
def N2.of {K:lb}(h:H a=some (.lst Y)):N2 K H a Y:=.inl (.inl h)
def T8.of {K:lb}(h:H a=some (.tup Y)):T8 K H a Y:=.inl (.inl h)
def Inv.list (I:Inv X pins σ H s)(h:N2 X.K H a Y):∃its:List ae,l9 Y its/\PlainL s.heap a its.toArray/\Y.length<=sizeLine:=by
 rcases h with h|⟨o,its,n,b,d,f,g,i,r⟩
 .obtain⟨z,its,n,r,e⟩:=h.ok I.hok;exact⟨its,r,⟨_,n,e,rfl,rfl,rfl⟩,z⟩
 .refine⟨its.toList,r,⟨o,n,I.kIn a o b,d,f,by simpa using g⟩,?_⟩;have e:=r.length;simp only[aAM]at e
  lia
def Inv.tuple (I:Inv X pins σ H s)(h:T8 X.K H a Y):∃its:List ae,l9 Y its/\IsTup s.heap a its.toArray/\Y.length<=sizeLine:=by
 rcases h with h|⟨o,its,n,b,d,f,g,r⟩
 .obtain⟨z,its,r,p⟩:=h.ok I.hok;exact⟨its,r,p,z⟩
 .refine⟨its.toList,r,⟨o,I.kIn a o b,d,n,by simpa using f⟩,?_⟩;have e:=r.length;simp only[aAM]at e
  lia
def Inv.ab3 (I:Inv X pins σ H s)(h:N2 X.K H a Y)(h':N2 X.K H a ys):Y=ys:=by
 obtain⟨f,r,⟨o,n,e,_,_,d⟩,_⟩:=I.list h;obtain⟨b,j,⟨l,m,g,_,_,i⟩,_⟩:=I.list h';rw[e]at g;cases g;rw[d]at i;injection i with k _;have:f=b:=by simpa using la aFX k
 subst this;exact r.inj j
def Inv.ab7 (I:Inv X pins σ H s)(h:T8 X.K H a Y)(h':T8 X.K H a ys):Y=ys:=by
 obtain⟨f,r,⟨o,e,_,n,d⟩,_⟩:=I.tuple h;obtain⟨b,j,⟨l,g,_,m,i⟩,_⟩:=I.tuple h';rw[e]at g;cases g;rw[d]at i;injection i with k _;have:f=b:=by simpa using la aFX k
 subst this;exact r.inj j
end
abbrev Cx.ac2 (X:Cx)(E:A3):Cx:={X with xe:=E}
abbrev Cx.nox (X:Cx):Cx:=X.ac2 λ_ _=>False
def Cx.Ok.ac2 {X:Cx}(ok:X.Ok)(E:A3):(X.ac2 E).Ok:=
 ⟨ok.mod,ok.kind,ok.glob,ok.blt,ok.above,ok.inj,ok.has,ok.cab,ok.hd,ok.frames,ok.stk,ok.exf,ok.bs,ok.bsz,ok.noex,ok.exfs,ok.funs,ok.frf⟩
def Cx.Ok.aa7 {X:Cx}{E:A3}(ok:(X.ac2 E).Ok):X.Ok:=
 ⟨ok.mod,ok.kind,ok.glob,ok.blt,ok.above,ok.inj,ok.has,ok.cab,ok.hd,ok.frames,ok.stk,ok.exf,ok.bs,ok.bsz,ok.noex,ok.exfs,ok.funs,ok.frf⟩
section
variable{X:Cx} {pins:N3} {σ:St} {H:Hp} {s:be} {E:A3}
def Inv.ac2 (I:Inv X pins σ H s)(E:A3):Inv (X.ac2 E) pins σ H s:=⟨I.ok.ac2 E,I.os,I.bare,I.base,I.loc,I.cell,I.free,I.freeC,I.pin,I.hok,I.len⟩
def Inv.aa7 (I:Inv (X.ac2 E) pins σ H s):Inv X pins σ H s:=⟨I.ok.aa7,I.os,I.bare,I.base,I.loc,I.cell,I.free,I.freeC,I.pin,I.hok,I.len⟩
def SP.aa7 (h:SP (X.ac2 E) pins D f s'):SP X pins D f s':=by
 cases f with
 |next=>obtain⟨a,b,I,q⟩:=h;exact⟨a,b,I.aa7,q⟩
 |brk=>obtain⟨a,b,I,q⟩:=h;exact⟨a,b,I.aa7,q⟩
 |cont=>obtain⟨a,b,I,q⟩:=h;exact⟨a,b,I.aa7,q⟩
 |ret u=>obtain⟨v,a,b,I,r,q⟩:=h;exact⟨v,a,b,I.aa7,r,q⟩
def tZ.nox {st:List dC}{t:TS}(h:tZ X.nox st t):tZ X st t:=λpins s σ H D I a=>aCt (h pins s σ H D (I.ac2 _) a) (λ_ _ q=>q.aa7) λ_ _ z=>aAh z
end
section
variable{X:Cx} {st:dC} {rest:List dC} {t u:TS} {e:dm} {te:TE} {pos:Pos}
def nj:TS:=λD σ H=>D.nx σ H
def a1u (t u:TS):TS:=λD σ H=>t {D with nx:=u D} σ H
def TH:tZ X [] nj:=λ_ _ σ H _ I h=>aED ⟨σ,H,I,h⟩
def QA (b:PS X st t)(d:tZ X rest u):tZ X (st::rest) (a1u t u):=by
 intro a s σ H D I h;refine aEs (D4 (b a s σ H {D with nx:=u D} I h) λf g q=>?_);cases f with
 |next=>obtain⟨i,j,k,q⟩:=q;exact d a g i j D k q
 |ret v=>exact q
 |brk=>exact q
 |cont=>exact q
def FI (b:PS X st t):tZ X [st] t:=by
 intro a s σ H D I h;refine aEs (D4 (b a s σ H D I h) λf d q=>?_);cases f with
 |next=>exact aED q
 |ret v=>exact q
 |brk=>exact q
 |cont=>exact q
def Inv.quiet (I:Inv X a σ H s):interactive X.env=false:=by simp[interactive,I.ok.kind]
def jq (te:TE):TS:=λD σ H=>te σ H λ_ a=>D.nx σ a
def mN (b:PE X e te)(d:ff e none pos.line X.env=pure false:=by rfl):PS X (.Expr e pos) (jq te):=by intro a s σ H D I h;exact wpAny_Expr_any (D4 (b a s σ H _ I h) λv j ⟨x,f,g,k,i⟩=>⟨σ,f,g,i⟩) I.quiet d
def a1d (te:TE):TS:=λD σ H=>te σ H D.rt
def MA (b:PE X e te):PS X (.Return (some e) pos) (a1d te):=by intro a s σ H D I h;exact wpAny_Return_some (D4 (b a s σ H _ I h) λv j ⟨x,d,f,g,i⟩=>⟨x,σ,d,f,g,i⟩)
def a1b (c:TT)(t u:TS):TS:=λD σ H=>c σ H λb a=>if b=true then t D σ a else u D σ a
def xj {c:dm}{a b:List dC}{g:TT}(m:PT X c g)(n:tZ X a t)(o:tZ X b u):PS X (.If c a b pos) (a1b g t u):=by
 intro f s σ H D I h;refine wpAny_If (D4 (m f s σ H _ I h) λd i ⟨j,k,l⟩=>?_);cases d with
 |true=>exact n f i σ j D k l
 |false=>exact o f i σ j D k l
def bz:TS:=λ_ _ _=>False
def OF:PS X st bz:=λ_ _ _ _ _ _ h=>h.elim
end
abbrev TG:=V->St->Hp->(St->Hp->Prop)->Prop
abbrev aj:=List V->St->Hp->(St->Hp->Prop)->Prop
def PG (X:Cx)(a:dm)(t:TG):Prop:=
 ∀(b:N3) (s:be) (σ:St) (H:Hp) (v:V) (u:ae) (Q:St->Hp->Prop),Inv X b σ H s->RelV v u->t v σ H Q->
  a9 (cq X.prog X.w) X.A (i5 a X.env u) (λ_ f=>∃d e,Inv X b d e f/\Q d e) X.xe s
def gz (X:Cx)(g:List dm)(t:aj):Prop:=
 ∀(a:N3) (s:be) (σ:St) (H:Hp) (b:List V) (d:List ae) (Q:St->Hp->Prop),Inv X a σ H s->l9 b d->t b σ H Q->
  a9 (cq X.prog X.w) X.A (assignInOrder ((et g X.env).map (·.2)) d) (λ_ h=>∃e f,Inv X a e f h/\Q e f) X.xe s
abbrev SE:=V->V->V->Hp->(Hp->Prop)->Prop
def YK (X:Cx)(t:SE):Prop:=
 ∀(a:N3) (s:be) (σ:St) (H:Hp) (o i v:V) (b d u:ae) (Q:Hp->Prop),Inv X a σ H s->RelV o b->RelV i d->RelV v u->t o i v H Q->
  a9 (cq X.prog X.w) X.A (setItem b d u) (λ_ f=>∃e,Inv X a σ e f/\Q e) X.xe s
section
variable{X:Cx} {pos:Pos}
def WI (i:Nat):TG:=λv σ H Q=>Q (σ.set i<|some v) H
def QM (b:X.N.Nodup)(d:X.N[i]?=some x)(e:Loc X.env.scope x)(f:X.fn x=true\/X.env.scope.names.lookup x=some .local:=by first|exact .inl rfl|exact .inr rfl|assumption):PG X (.Name x pos) (WI i):=by intro a s σ H v u Q I r h;exact wpAny_assign_Name (Q9 I b d e r (λj g=>⟨_,H,g,h⟩) f)
def a2a:aj:=λa σ H Q=>a=[]/\Q σ H
def a0g (t:TG)(u:aj):aj:=λa σ H Q=>∃v r,a=v::r/\t v σ H λb d=>u r b d Q
def SN:gz X [] a2a:=by intro a s σ H b d Q I r h;obtain⟨e,h⟩:=h;subst e;cases r;exact assignInOrder_nil ⟨σ,H,I,h⟩
def NI {e:dm}{es:List dm}{t:TG}{u:aj}(d:PG X e t)(f:gz X es u)
  (g:(et (e::es) X.env).map (·.2)=i5 e X.env::(et es X.env).map (·.2):=by rfl):gz X (e::es) (a0g t u):=by
 intro a s σ H o p Q I r h;obtain⟨v,q,i,h⟩:=h;subst i;cases r with
 |cons r j=>rw[g];refine aFa (D4 (d a s σ H _ _ _ I r h) λ_ k ⟨b,l,m,n⟩=>?_);exact f a k b l _ _ Q m j n
def a2i (a b:TE)(t:SE):TG:=λv σ H Q=>a σ H λo d=>b σ d λi e=>t o i v e λf=>Q σ f
def OR {o i:dm}{e f:TE}{t:SE}(g:PE X o e)(j:PE X i f)(k:YK X t)
  (l:∀v,i5 (.Subscript o i pos) X.env v=(do
   let b<-gv [v] (d3 o X.env)
   let d<-gv [v,b] (d3 i X.env)
   standAt pos
   gv [v,b,d] (setItem b d v)
   release [v,b,d] []):=by intro _;rfl):PG X (.Subscript o i pos) (a2i e f t):=by
 intro a s σ H v u Q I r h;rw[l];refine aAa (aAL<|D4 (g a s σ H _ I h) λb m ⟨x,n,p,q,w⟩=>?_);refine aAa (aAL<|D4 (j a m σ n _ p w) λd z ⟨y,A,B,C,E⟩=>?_);refine aAa (aEy<|aAa<|aAL<|D4 (k a z σ A x y v b d u _ B q C r E) λ_ O ⟨J,L,N⟩=>?_);exact wpAny_release ⟨σ,J,L,N⟩
def zj (a:TE)(g:TG):TS:=λD σ H=>a σ H λx b=>g x σ b D.nx
def CL {b e:dm}{d:TE}{g:TG}(f:PE X e d)(i:PG X b g)(j:hH [b] e pos.line X.env=pure false:=by rfl)(k:hV [b] e X.env=pure none:=by rfl)
  (l:(et [b] X.env).map (·.2)=[i5 b X.env]:=by rfl):PS X (.Assign [b] e pos) (zj d g):=by
 intro a s σ H D I h;refine wpAny_Assign_stores (D4 (f a s σ H _ I h) λv m ⟨x,n,o,p,r⟩=>?_) j k;rw[l];exact D4 (i a m σ n x v _ o p r) λ_ t q=>q
def KC {i:Nat}{x:Str}{e:dm}{d:TE}{a:Pos}(f:X.N.Nodup)(g:X.N[i]?=some x)(j:Loc X.env.scope x)(k:PE X e d)(l:ff e (some (.Name x a)) pos.line X.env=pure false:=by rfl)(m:X.fn x=true\/X.env.scope.names.lookup x=some .local:=by first|exact .inl rfl|exact .inr rfl|assumption):
  PS X (.Assign [.Name x a] e pos) (zj d (WI i)):=by
 intro b s σ H D I h;refine aFr (D4 (k b s σ H _ I h) λv t ⟨y,n,o,p,q⟩=>?_) l;exact Q9 o f g j p (λu r=>⟨_,n,r,q⟩) m
def a2e (i j:Nat)(ta:TA):TS:=λD σ H=>ta σ H λa b=>∃v w,a=[v,w]/\D.nx ((σ.set i<|some v).set j (some w)) b
def ZG {i j:Nat}{x y:Str}{a b:dm}{ta:TA}{l m pt:Pos}{n r AH}(O:X.calm=true)(z:X.N.Nodup)(Q:X.N[i]?=some x)(T:X.N[j]?=some y)(U:i≠j)
  (C:X.env.scope.names.lookup x=some .local) (E:X.env.scope.names.lookup y=some .local) (Y:PA X [a,b] ta)
  (hw:hV [.Tuple [.Name x l,.Name y m] n pt] (.Tuple [a,b] r AH) X.env=pure (some [x,y]))
  (hs:hH [.Tuple [.Name x l,.Name y m] n pt] (.Tuple [a,b] r AH) pos.line X.env=pure false:=by rfl):
  PS X (.Assign [.Tuple [.Name x l,.Name y m] n pt] (.Tuple [a,b] r AH) pos) (a2e i j ta):=by
 intro d s σ H D I h;rw[exec_Assign_arm];refine aAa (aEy ?_);rw[hs];refine aAa (aAb ?_);rw[ku (by decide)];refine aAa (Tuple_<|D4 (Y _ d s σ H _ I h) λus f ⟨vs,J,I1,r1,t⟩=>?_);obtain⟨v,w,e1,t⟩:=t;subst e1;obtain⟨g,k,rfl,rv,zc⟩:∃g k,us=[g,k]/\RelV v g/\RelV w k:=by
  cases r1 with
  |cons p q=>
   cases q with
   |cons p' q'=>cases q';exact⟨_,_,rfl,p,p'⟩
 refine aBb ?_ (by show 2<=sizeLine;decide);have I2:Inv X d σ J {f with heap:=f.heap.push {cls:=.type "tuple",data:=.seq [g,k].toArray}}:=I1.kept (t':=f.toks) λb o e=>aAc _ e;rw[hw];refine aAa (aAb ?_);show a9 (cq X.prog X.w) X.A (do rule "assign.swapped-stores";let B<-unpackItems (.ref f.heap.objs.size) 2 none;assignInOrder [λv=>bindName X.env y v,λv=>bindName X.env x v] B.reverse;pure Flow.next) _ _ _;refine aAa (aDG<|aAa<|unpackItems_tuple (items:=#[g,k]) (I.ok.hd O) (IsTup.new f.heap _) λh' u=>?_);have I3:=I2.kept (h':=h') (t':=f.toks) λb o e=>u b o (aAl<|aAf e) e;show a9 _ _ (assignInOrder [λv=>bindName X.env y v,λv=>bindName X.env x v] [k,g]>>=λ_=>pure Flow.next) _ _ _;refine aAa (aFa<|wpAny_bindName<|Q9 I3 z T (.inl E) zc (λs2 I4=>?_)<|.inr E);refine aFa (wpAny_bindName<|Q9 I4 z Q (.inl C) rv (λs3 L=>assignInOrder_nil (aAb ?_))<|.inr C);rw[List.set_comm _ _ (aBV U)]at L;exact⟨_,J,L,t⟩
end
section
variable{X:Cx} {pos:Pos}
def ZW (c:TT)(tb:TS):TS:=λD σ H=>∃W:Nat->St->Hp->Prop,(∃m,W m σ H)/\∀m σ H,W m σ H->
 c σ H λb a=>if b=true then∃N:St->Hp->Prop,(∀d e,N d e->∃f,f<m/\W f d e)/\tb {D with nx:=N,ct:=N,bk:=D.nx} σ a else D.nx σ a
def ON {c:dm}{body:List dC}{q:TT}{tb:TS}(r:PassesOwn (cq X.prog X.w) X.A X.env X.xe)(C:PT X c q)(E:tZ X body tb):PS X (.While c body [] pos) (ZW q tb):=by
 intro a s σ H D I h;obtain⟨W,⟨J,L⟩,turn⟩:=h;refine wpAny_While (codeAny_whileLoop (λn O=>∃t u,Inv X a t u O/\W n t u) ?_ J ⟨σ,H,I,L⟩);rintro n Q ⟨d,x,T,U⟩;refine aCX r (D4 (C a Q d x _ T<|turn n d x U) λb Y ⟨y,z,i⟩=>?_);cases b with
 |true=>
  obtain⟨N,B,i⟩:=i;rw[kn rfl];refine aCX r (D4 (E a Y d y _ z i) λf s3 j=>?_);cases f with
  |next=>obtain⟨e,g,k,l⟩:=j;obtain⟨m,o,p⟩:=B e g l;exact⟨m,o,e,g,k,p⟩
  |cont=>obtain⟨e,g,k,l⟩:=j;obtain⟨m,o,p⟩:=B e g l;exact⟨m,o,e,g,k,p⟩
  |brk=>exact j
  |ret v=>exact j
 |false=>rw[ku aBc];exact aED ⟨d,y,z,i⟩
end
structure It where
 go:Nat->Hp->Prop
 yld:Nat->Hp->V->Hp->Prop
 stop:Nat->Hp->Prop
def lD (X:Cx)(pins:N3)(H:Hp)(b:cp):Prop:=
 H b=none/\b≠X.env.locals/\b∉X.fs/\(b∈X.ex\/X.s9.heap.objs.size<=b)/\(∀x c,X.env.cells.lookup x=some c->c≠b)/\∀p∈X.pn++pins,p.1≠b
def Inv.ad8 (I:Inv X a σ H s)(d:s.heap.objs.size<=b)(f:H' b=none):lD X a H' b:=by
 refine⟨f,aDc (aAw I.lt d),I.ag1 d,.inr (aAp I.sz d),λx c e z=>?_,λp g z=>?_⟩
 .obtain⟨v,q⟩:=I.cell x c e;exact absurd (aAw q.lt (by rw[z];exact d)) (aBg _)
 .exact absurd (aAw (aAf (I.pin p g).1) (by rw[z];exact d)) (aBg _)
structure Turn (P:Program)(w:World)(K:PySem.W.Frag)(tg:Expr)(J:It)(fp:List Addr)(it:Addr)(tn:Nat->Heap->Prop):Prop where
 mem:it∈fp
 obj:∀i h,tn i h->∀b∈fp,∃o,h.get? b=some o/\∀v,o.data≠.cell v
 keep:∀i h h',tn i h->(∀b∈fp,∀o,h.get? b=some o->h'.get? b=some o)->tn i h'
 item:∀(X:Cx),X.prog=P->X.w=w->X.K=K->X.calm=true->∀(i:Nat) (pins:N3) (s:Shared) (σ:St) (H:Hp) (E:A3),Inv X pins σ H s->(∀b∈fp,lD X pins H b)->tn i s.heap->J.go i H->
  wpAny (model P w) X.A (pyNext (.ref it)) (λr s1=>∃u,r=some u/\
   wpAny (model P w) X.A (letOwnedTupleGo tg (.ref it) u) (λ_ s2=>∃x H',Inv X pins σ H' s2/\RelV x u/\J.yld i H x H'/\tn (i+1) s2.heap/\∀b∈fp,H' b=none) E s1) E s
 done:∀(X:Cx),X.prog=P->X.w=w->X.K=K->X.calm=true->∀(i:Nat) (pins:N3) (s:Shared) (σ:St) (H:Hp) (E:A3),Inv X pins σ H s->(∀b∈fp,lD X pins H b)->tn i s.heap->J.stop i H->
  wpAny (model P w) X.A (pyNext (.ref it)) (λr s1=>r=none/\Inv X pins σ H s1) E s
 self:∀(A:Around) (i:Nat) (s:Shared) (Q:A3) (E:A3),tn i s.heap->Q (.ref it) s->wpAny (model P w) A (pyIter (.ref it)) Q E s
abbrev TI:=St->Hp->(It->Hp->Prop)->Prop
def PIE (X:Cx)(a:N3)(σ:St)(j:dm)(R:It->Hp->Prop)(d:ae)(f:be):Prop:=
 ∃(g:cp) (h:List cp) (i:Nat->de->Prop) (J:It) (e:Hp),d=.ref g/\Inv X a σ e f/\Turn X.prog X.w X.K j J h g i/\i 0 f.heap/\(∀b∈h,lD X a e b)/\R J e
def PI (X:Cx)(b y8:dm)(d:TI):Prop:=
 ∀(a:N3) (s:be) (σ:St) (H:Hp) (R:It->Hp->Prop),Inv X a σ H s->d σ H R->
  a9 (cq X.prog X.w) X.A (d3 y8 X.env) (λv e=>a9 (cq X.prog X.w) X.A (pyIter v) (PIE X a σ b R) X.xe e) X.xe s
def GJ {E : ae → be → Prop} {Q : Unit → be → Prop} (b : s.heap.get? it = some o) (d : o.cls = .type n) (e : o.data = .fields vs) (f : ["enumerate", "zip", "dict_itemiterator", "dict_reverseitemiterator", "odict_iterator", "itertools.zip_longest", "itertools.pairwise"].contains n = false) (a : Q () s) : a9 M A (letOwnedTupleGo g (.ref it) u) Q E s := by
  unfold letOwnedTupleGo;cases g <;> first
    | exact aAb a
    | (cases u <;> first
        | exact aAb a
        | (refine aAa (wpAny_load b ?_)
           rw [d, e];show a9 M A (if (["enumerate", "zip", "dict_itemiterator", "dict_reverseitemiterator", "odict_iterator", "itertools.zip_longest", "itertools.pairwise"].contains n && vs[0]? == some (eh _)) = true then _ else _) Q E s;rw [ku (by intro h; rw [f, Bool.false_and] at h; cases h)];exact aAb a))
def Itl (K:lb)(a:cp):It:=
 ⟨λi H=>∃Y x,N2 K H a Y/\Y[i]?=some x,λi H x b=>b=H/\∀Y,N2 K H a Y->Y[i]?=some x,λi H=>∃Y,N2 K H a Y/\Y.length<=i⟩
def Itt (K:lb)(a:cp):It:=
 ⟨λi H=>∃Y x,T8 K H a Y/\Y[i]?=some x,λi H x b=>b=H/\∀Y,T8 K H a Y->Y[i]?=some x,λi H=>∃Y,T8 K H a Y/\Y.length<=i⟩
def IG {P:cu}{w:cz}{K:lb}{U:dm}(a it:cp):Turn P w K U (Itl K a) [it] it (λi h=>h.IsListIter it a i)where
 mem:=by simp
 obj:=λi h st b g=>by
  have e:b=it:=by simpa using g
  subst e;obtain⟨o,e,c,d⟩:=st;exact⟨o,e,λv z=>by rw[d]at z;cases z⟩
 keep:=λi h l st k=>st.at λo e=>k it (by simp) o e
 item:=by intro X q r t T i f s σ H E I m st y;subst q r t;obtain⟨Y,x,n,A⟩:=y;obtain⟨B,C,p,hz⟩:=I.list n;obtain⟨u,hu,ru⟩:=C.get A;obtain⟨J,L,f2,N,O,Q⟩:=m it (by simp);refine wpAny_pyNext_list_item st p.isList (x:=u) (by simpa using hu) λl j sb=>?_;have I1:Inv X f σ H {s with heap:=l}:=I.turned (t':=s.toks) (λb o g e=>(sb.2 b g).trans e) J L N O Q;obtain⟨o,e,c,d⟩:=id j;exact⟨u,rfl,GJ (s:={s with heap:=l}) e c d (by decide) ⟨x,H,I1,ru,⟨rfl,λys hy=>by rw[I.ab3 hy n];exact A⟩,j,λb g=>(m b g).1⟩⟩
 done:=by intro X q r t T i f s σ H E I m st y;subst q r t;obtain⟨Y,n,A⟩:=y;obtain⟨B,C,p,hz⟩:=I.list n;obtain⟨J,L,f2,N,O,Q⟩:=m it (by simp);have hl:=C.length;exact wpAny_pyNext_list_end (I.ok.hd T) st p.isList (by simp;lia) λl eb=>⟨rfl,I.turned (t':=s.toks) (λb o g e=>eb b o g e) J L N O Q⟩
 self:=λ_ _ _ _ _ st h=>wpAny_pyIter_listiter st h
def DI {P:cu}{w:cz}{K:lb}{U:dm}(a it:cp):Turn P w K U (Itt K a) [it] it (λi h=>h.IsTupleIter it a i)where
 mem:=by simp
 obj:=λi h st b g=>by
  have e:b=it:=by simpa using g
  subst e;obtain⟨o,e,c,d⟩:=st;exact⟨o,e,λv z=>by rw[d]at z;cases z⟩
 keep:=λi h m st k=>st.at λo e=>k it (by simp) o e
 item:=by intro X r t y T i f s σ H E I n st A;subst r t y;obtain⟨Y,x,q,B⟩:=A;obtain⟨j,C,p,hz⟩:=I.tuple q;obtain⟨u,hu,ru⟩:=C.get B;obtain⟨J,L,f2,N,O,Q⟩:=n it (by simp);refine wpAny_pyNext_tuple_item st (show s.heap.IsTuple a j.toArray from p) (x:=u) (by simpa using hu) λm l sb=>?_;have I1:Inv X f σ H {s with heap:=m}:=I.turned (t':=s.toks) (λb o g e=>(sb.2 b g).trans e) J L N O Q;obtain⟨o,e,c,d⟩:=id l;exact⟨u,rfl,GJ (s:={s with heap:=m}) e c d (by decide) ⟨x,H,I1,ru,⟨rfl,λys hy=>by rw[I.ab7 hy q];exact B⟩,l,λb g=>(n b g).1⟩⟩
 done:=by intro X r t y T i f s σ H E I n st A;subst r t y;obtain⟨Y,q,B⟩:=A;obtain⟨j,C,p,hz⟩:=I.tuple q;obtain⟨J,L,f2,N,O,Q⟩:=n it (by simp);have hl:=C.length;exact wpAny_pyNext_tuple_end (I.ok.hd T) st (show s.heap.IsTuple a j.toArray from p) (by simp;lia) λm eb=>⟨rfl,I.turned (t':=s.toks) (λb o g e=>eb b o g e) J L N O Q⟩
 self:=λ_ _ _ _ _ st h=>wpAny_pyIter_tupleiter st h
section
variable{X:Cx} {tg:dm}
def iz (K:lb)(d:TE):TI:=λσ H R=>d σ H λx b=>∃a,x=.ref a/\(∃Y,N2 K b a Y)/\R (Itl K a) b
def a0x (K:lb)(d:TE):TI:=λσ H R=>d σ H λx b=>∃a,x=.ref a/\(∃Y,T8 K b a Y)/\R (Itt K a) b
def UI (i:PE X l j):PI X tg l (iz X.K j):=by
 intro d s σ H R I h;refine D4 (i d s σ H _ I h) λv f ⟨x,k,g,m,n⟩=>?_;obtain⟨a,e,⟨Y,r⟩,q⟩:=n;subst e;cases m;obtain⟨t,w,p,y⟩:=g.list r;refine aDH p.isList ?_;refine⟨f.heap.objs.size,[f.heap.objs.size],_,_,k,rfl,g.kept (t':=f.toks) λb o e=>aAc _ e,IG a _,⟨_,aAn _ rfl,rfl,rfl⟩,λb u=>?_,q⟩;have e:b=f.heap.objs.size:=by simpa using u
 subst e;exact g.ad8 (aAg _) (g.hok.fresh<|aAg _)
def YE {l:dm}{j:TE}(k:PE X l j):PI X tg l (a0x X.K j):=by
 intro d s σ H R I h;refine D4 (k d s σ H _ I h) λv f ⟨x,m,g,n,r⟩=>?_;obtain⟨a,e,⟨Y,t⟩,q⟩:=r;subst e;cases n;obtain⟨i,w,p,y⟩:=g.tuple t;refine wpAny_pyIter_tuple (show f.heap.IsTuple a i.toArray from p) ?_;refine⟨f.heap.objs.size,[f.heap.objs.size],_,_,m,rfl,g.kept (t':=f.toks) λb o e=>aAc _ e,DI a _,⟨_,aAn _ rfl,rfl,rfl⟩,λb u=>?_,q⟩;have e:b=f.heap.objs.size:=by simpa using u
 subst e;exact g.ad8 (aAg _) (g.hok.fresh<|aAg _)
def a1w (e:TI)(g:TG)(tb:TS):TS:=λD σ H=>e σ H λJ f=>∃W:Nat->Nat->St->Hp->Prop,(∃m,W 0 m σ f)/\∀i m σ H,W i m σ H->
 (J.stop i H/\D.nx σ H)\/(J.go i H/\∃N:St->Hp->Prop,(∀b a,N b a->∃d,d<m/\W (i+1) d b a)/\∀x a,J.yld i H x a->g x σ a λh j=>tb {D with nx:=N,ct:=N,bk:=D.nx} h j)
def nF (a:List cp)(h:de):List (cp×Obj):=a.filterMap λb=>(h.get? b).map λo=>(b,o)
def bL (a:b∈d)(e:h.get? b=some o):(b,o)∈nF d h:=aCb.mpr ⟨b,a,by rw[e];rfl⟩
def IU (a:p∈nF d h):p.1∈d/\h.get? p.1=some p.2:=by
 obtain⟨b,f,e⟩:=aCb.mp a;cases q:h.get? b with
 |none=>rw[q]at e;cases e
 |some o=>rw[q]at e;have g:(b,o)=p:=Option.some.inj e;subst g;exact⟨f,q⟩
def Inv.pinned (I:Inv X a σ H s)(i:∀b∈f,lD X a H b)(j:∀b∈f,∃o,s.heap.get? b=some o/\∀v,o.data≠.cell v):Inv X (a++nF f s.heap) σ H s:=
 I.ad2 λp k=>(aAT.mp k).elim (λz=>I.pin p (aAH _ z)) λz=>by obtain⟨g,e⟩:=IU z;obtain⟨l,m,n,_⟩:=i p.1 g;obtain⟨o,h,d⟩:=j p.1 g;rw[e]at h;cases h;exact⟨e,l,m,n,d⟩
def Inv.ab4 (I:Inv X (a++d) σ H s):Inv X a σ H s:=I.ad2 λp b=>I.pin p (aAH _<|aBq _ b)
def XR (B:PassesOwn (cq X.prog X.w) X.A X.env X.xe)(hc:X.calm=true)(hi:PI X tg y8 wi)(hg:PG X tg g)(j:tZ X body tb)(hs:∀x,fg y8 X.env x=pure x:=by intro _;rfl):PS X (.For tg y8 body [] pos) (a1w wi g tb):=by
 intro a s σ H D I h;refine wpAny_For (D4 (hi a s σ H _ I h) λv s1 h1=>D4 h1 λitv s2 h2=>?_) hs;obtain⟨it,C,tn,J,H2,e,I2,T,ke,f2,W,⟨m0,w0⟩,turn⟩:=h2;subst e;have k:∀{t:Hp},(∀b∈C,t b=none)->∀b∈C,lD X a t b:=λhn b j=>⟨hn b j,(f2 b j).2⟩;refine codeAny_forLoop_any (λn s'=>∃i E t,Inv X a E t s'/\tn i s'.heap/\(∀b∈C,t b=none)/\W i n E t) ?_ m0 ⟨0,σ,H2,I2,ke,λb j=>(f2 b j).1,w0⟩;rintro n s3 ⟨i,L,Y,I3,O,Q,w3⟩;rcases turn i n L Y w3 with⟨stop,qn⟩|⟨go,N,hN,step⟩
 .refine aCX B (D4 (T.done X rfl rfl rfl hc i a s3 L Y X.xe I3 (k Q) O stop) λr s4 ⟨hr,I4⟩=>?_);subst hr;exact aED ⟨L,Y,I4,qn⟩
 .refine aCX B (D4 (T.item X rfl rfl rfl hc i a s3 L Y X.xe I3 (k Q) O go) λr s4 ⟨u,hr,h4⟩=>?_);subst hr;refine aCX B (D4 h4 λ_ s5 ⟨x,H5,I5,r5,y5,z,fr5⟩=>?_);have I5':=I5.pinned (k fr5) (T.obj _ _ z);refine aCX B (D4 (hg _ s5 L H5 x u _ I5' r5<|step x H5 y5) λ_ s6 ⟨σ6,H6,I6,q6⟩=>?_);refine aCX B (D4 (j _ s6 σ6 H6 _ I6 q6) λf s7 y=>?_);have again:∀{l:St} {p:Hp},Inv X (a++nF C s5.heap) l p s7->N l p->∃m,m<n/\∃i E t,Inv X a E t s7/\tn i s7.heap/\(∀b∈C,t b=none)/\W i m E t:=λ{l p} q U=>by obtain⟨m',hm,w7⟩:=hN l p U;refine⟨m',hm,i+1,l,p,q.ab4,T.keep _ _ _ z λb j o e=>(q.pin (b,o)<|aAH _<|aAH _<|bL j e).1,λb j=>?_,w7⟩;obtain⟨o,e,d⟩:=T.obj _ _ z b j;exact(q.pin (b,o)<|aAH _<|aAH _<|bL j e).2.1
  cases f with
  |next=>obtain⟨l,p,q,U⟩:=y;exact again q U
  |cont=>obtain⟨l,p,q,U⟩:=y;exact again q U
  |brk=>obtain⟨l,p,q,y⟩:=y;exact⟨l,p,q.ab4,y⟩
  |ret v=>obtain⟨x7,l,p,q,r7,y⟩:=y;exact⟨x7,l,p,q.ab4,r7,y⟩
end
abbrev R2:=V->V->Hp->VK->Prop
def lP (X:Cx)(f:ae->ae->Sem ae)(r:R2):Prop:=
 ∀(a:N3) (s:be) (σ:St) (H:Hp) (x y:V) (v u:ae) (Q:VK),Inv X a σ H s->RelV x v->RelV y u->r x y H Q->
  a9 (cq X.prog X.w) X.A (f v u) (EP X a σ Q) X.xe s
def UnR (X:Cx)(f:ae->Sem ae)(r:V->Hp->VK->Prop):Prop:=
 ∀(a:N3) (s:be) (σ:St) (H:Hp) (x:V) (v:ae) (Q:VK),Inv X a σ H s->RelV x v->r x H Q->
  a9 (cq X.prog X.w) X.A (f v) (EP X a σ Q) X.xe s
def xA (X:Cx)(f:ae)(r:List V->Hp->VK->Prop):Prop:=
 ∀(a:N3) (s:be) (σ:St) (H:Hp) (Y:List V) (b:List ae) (Q:VK),Inv X a σ H s->l9 Y b->r Y H Q->
  a9 (cq X.prog X.w) X.A (call f b) (EP X a σ Q) X.xe s
def tUn (r:V->Hp->VK->Prop)(ta:TE):TE:=λσ H Q=>ta σ H λx a=>r x a Q
def rI (C:Int->Int->Prop)(g:Int->Int->V):R2:=λx y H Q=>∃i j,x=.int i/\y=.int j/\C i j/\Q (g i j) H
def WM (g:Int->Int->V):R2:=λx y H Q=>∃i j,x=.int i/\y=.int j/\Q (g i j) H
def rU (g:Int->V):V->Hp->VK->Prop:=λx H Q=>∃i,x=.int i/\Q (g i) H
section
variable{X:Cx} {a b c:dm} {ta tb tc:TE} {pos:Pos}
def LQ (j:PE X a ta)(k:PE X b tb){d:N3}{s:be}{σ:St}{H:Hp}{R:V->V->Hp->Prop}(I:Inv X d σ H s)
  (h:ta σ H λx i=>tb σ i λy e=>R x y e) {Q:A3} {f:ae->ae->Sem ae}
  (l:∀v u g x y e,Inv X d σ e g->RelV x v->RelV y u->R x y e->a9 (cq X.prog X.w) X.A (f v u) Q X.xe g):
  a9 (cq X.prog X.w) X.A (d3 a X.env) (λv m=>a9 (cq X.prog X.w) X.A (d3 b X.env) (λu n=>a9 (cq X.prog X.w) X.A (f v u) Q X.xe n) X.xe m) X.xe s:=by
 refine D4 (j d s σ H _ I h) λv o ⟨x,i,p,q,r⟩=>?_;refine D4 (k d o σ i _ p r) λu g ⟨y,e,t,z,B⟩=>?_;exact l v u g x y e t q z B
def qz {r:V->Hp->VK->Prop}(e:UnR X (unaryOp op) r)(f:PE X a ta):PE X (.UnaryOp op a pos) (tUn r ta):=by intro d s σ H Q I h;exact UnaryOp_ (D4 (f d s σ H _ I h) λv g ⟨x,i,j,k,l⟩=>e d g σ i x v Q j k l)
def opI {f:ae->ae->Sem ae}{C:Int->Int->Prop}{g:Int->Int->Int}
  (rule:∀(i j:Int) (t u:Tok) (s:be) (Q:A3) (E:A3),C i j->Q (.int (g i j) s.toks) {s with toks:=s.toks+1}->a9 (cq X.prog X.w) X.A (f (.int i t) (.int j u)) Q E s):
  lP X f (rI C λi j=>.int (g i j)):=by
 intro d s σ H x y v u Q I e k h;obtain⟨i,j,rfl,rfl,l,q⟩:=h;obtain⟨t,rfl⟩:=e;obtain⟨m,rfl⟩:=k;exact rule i j t m s _ _ l ⟨.int (g i j),H,I.tok _,⟨_,rfl⟩,q⟩
def yk {f:ae->ae->Sem ae}{g:Int->Int->Int}
  (rule:∀(i j:Int) (t u:Tok) (s:be) (Q:A3) (E:A3),Q (.int (g i j) s.toks) {s with toks:=s.toks+1}->a9 (cq X.prog X.w) X.A (f (.int i t) (.int j u)) Q E s):
  lP X f (WM λi j=>.int (g i j)):=by
 intro d s σ H x y v u Q I e k h;obtain⟨i,j,rfl,rfl,q⟩:=h;obtain⟨t,rfl⟩:=e;obtain⟨l,rfl⟩:=k;exact rule i j t l s _ _ ⟨.int (g i j),H,I.tok _,⟨_,rfl⟩,q⟩
def XM {f:ae->ae->Sem ae}{g:Int->Int->Bool}
  (rule:∀(i j:Int) (t u:Tok) (s:be) (Q:A3) (E:A3),Q (.bool (g i j)) s->a9 (cq X.prog X.w) X.A (f (.int i t) (.int j u)) Q E s):
  lP X f (WM λi j=>.bl (g i j)):=by
 intro d s σ H x y v u Q I e k h;obtain⟨i,j,rfl,rfl,q⟩:=h;obtain⟨t,rfl⟩:=e;obtain⟨l,rfl⟩:=k;exact rule i j t l s _ _ ⟨.bl (g i j),H,I,rfl,q⟩
def a2m (i j:Int):Prop:=0<=j/\j<=1000000/\i.natAbs<2^64
def XU:lP X (eR .Add) (WM λi j=>.int (i+j)):=yk λ_ _ _ _ _ _ _ q=>add_int q
def YX:lP X (eR .Sub) (WM λi j=>.int (i-j)):=yk λ_ _ _ _ _ _ _ q=>sub_int q
def QK:lP X (eR .Mod) (rI (λ_ j=>j≠0) λi j=>.int (i.fmod j)):=opI λ_ _ _ _ _ _ _ d q=>mod_int' d q
def fw:lP X (eR .Pow) (rI a2m λi j=>.int (i^j.toNat)):=opI λ_ _ _ _ _ _ _ d q=>pow_int_small d.1 d.2.1 d.2.2 q
def unI {f:ae->Sem ae}{g:Int->Int}
  (rule:∀(i:Int) (t:Tok) (s:be) (Q:A3) (E:A3),Q (.int (g i) s.toks) {s with toks:=s.toks+1}->a9 (cq X.prog X.w) X.A (f (.int i t)) Q E s):
  UnR X f (rU λi=>.int (g i)):=by
 intro d s σ H x v Q I e h;obtain⟨i,rfl,q⟩:=h;obtain⟨t,rfl⟩:=e;exact rule i t s _ _ ⟨.int (g i),H,I.tok _,⟨_,rfl⟩,q⟩
def ZU:UnR X (unaryOp .USub) (rU λi=>.int (-i)):=unI λ_ _ _ _ _ q=>neg_int q
end
section
variable{X:Cx} {a b c:dm} {ta tb tc:TE} {pos:Pos}
def ay (I:Inv X d σ H s)(q:Q (.bl k) H)(e:k=f):EP X d σ Q (.bool f) s:=by subst e;exact⟨.bl k,H,I,rfl,q⟩
def yx:lP X (d9 .Lt) (WM λi j=>.bl (decide (i<j))):=XM λ_ _ _ _ _ _ _ q=>lt_int q
def uz:lP X (d9 .LtE) (WM λi j=>.bl (decide (i<=j))):=XM λ_ _ _ _ _ _ _ q=>le_int q
def qk:lP X (d9 .Gt) (WM λi j=>.bl (decide (j<i))):=XM λ_ _ _ _ _ _ _ q=>gt_int q
def ZI:lP X (d9 .Is) (λx y H Q=>y=.non/\Q (.bl (decide (x=.non))) H):=by
 intro d s σ H x y v u Q I e f h;obtain⟨rfl,q⟩:=h;cases f;refine is_none_gen (ay I q ?_);cases x<;>first
  |(cases e;rfl)
  |(obtain⟨t,rfl⟩:=e;rfl)
def KI (b:dm)(h:op≠.In:=by decide)(d:op≠.NotIn:=by decide):jd op b=false:=by
 have e:(op==CmpOp.In)=false:=by cases op<;>first|rfl|exact absurd rfl h
 have f:(op==CmpOp.NotIn)=false:=by cases op<;>first|rfl|exact absurd rfl d
 cases b<;>simp[jd,e,f]
def vI:(sizeLine:Nat)<2^63:=by rw[aFB];decide
def vals1 (r:l9 [x] d):∃u,d=[u]/\RelV x u:=by
 cases r with
 |cons e f=>cases f;exact⟨_,rfl,e⟩
def vals2 (r:l9 [x,y] e):∃u d,e=[u,d]/\RelV x u/\RelV y d:=by
 cases r with
 |cons f g=>
  cases g with
  |cons h i=>cases i;exact⟨_,_,rfl,f,h⟩
def NU:xA X (.builtin "abs") (λY H Q=>∃i,Y=[.int i]/\Q (.int (if i<0 then-i else i)) H):=by intro d s σ H Y e Q I r h;obtain⟨i,rfl,q⟩:=h;obtain⟨u,rfl,t,rfl⟩:=vals1 r;exact call_abs_int λu f=>⟨.int (if i<0 then-i else i),H,I.tok _,⟨_,rfl⟩,q⟩
end
section
variable{prog:cu} {w:cz} {A:cy} {E:A3} {s:be} {K:lb} {x dx C f:cp} {mA:cE} {name:Str} {v:ae}
end
section
variable{P:cu} {w:cz} {H H':Hp} {h h':de} {a C dx:cp} {fs xt:List (Str×V)}
end
section
variable{X:Cx} {pins:N3} {σ:St} {H:Hp} {s:be} {a C dx:cp} {fs:List (Str×V)} {f:Str} {v:V} {A:cy} {E:A3}
end
section
variable{X:Cx} {o e value:dm} {f:Str} {pos pos' tpos:Pos} {ta tv:TE}
end
section
variable{X:Cx} {pins:N3} {σ:St} {H:Hp} {s:be} {A:cy} {E:A3} {Q:A3} {c:ae} {b:Bool}
end
structure Room (k:Nat)(A:Around):Prop where
 hd:A.handled=none
 dp:A.depth+3*k+5<recursionLimit
 un:A.units+16*k+200<cLine
def Room.mono (r:Room k A)(h:j<=k):Room j A:=⟨r.hd,by have:=r.dp;lia,by have:=r.un;lia⟩
def Room.deeper (r:Room (k+1) A)(env:Env):Room k (A.deeper env):=
 ⟨r.hd,by have:=r.dp;show A.depth+1+3*k+5<_;lia,by have:=r.un;show A.units+3+16*k+200<_;lia⟩
def Room.depth (r:Room k A):A.depth<recursionLimit:=by have:=r.dp;lia
def Room.units (r:Room k A):A.units+64<df:=by have:=r.un;lia
def a2s:TA:=λ_ H Q=>Q [] H
def xk (ta:TE)(tr:TA):TA:=λσ H Q=>ta σ H λx a=>tr σ a λY b=>Q (x::Y) b
section
variable{X:Cx} {e:dm} {es:List dm} {te:TE} {t:TA} {pos:Pos}
def bH:PA X [] a2s:=λ_ _ _ _ H Q I h=>aFs ⟨[],H,I,.nil,h⟩
def N1 (b:PE X e te)(d:PA X es t)(f:bb (e::es) X.env=(false,d3 e X.env)::bb es X.env:=by rfl):PA X (e::es) (xk te t):=by intro pos a s σ H Q I h;rw[f];show a9 _ _ (spliced ((false,d3 e X.env)::dn pos (bb es X.env))) _ _ s;refine aFb (D4 (b a s σ H _ I h) λu g ⟨x,i,j,k,l⟩=>?_);exact D4 (d pos a g σ i _ j l) λq r ⟨Y,m,n,o,p⟩=>⟨x::Y,m,n,.cons k o,p⟩
def a1g (t:TA):TE:=λσ H Q=>t σ H λY a=>Y.length<=sizeLine/\∀p,a p=none->Q (.ref p) (upd a p<|.tup Y)
def a1a (t:TA):TE:=λσ H Q=>t σ H λY a=>Y.length<=sizeLine/\∀p,a p=none->Q (.ref p) (upd a p<|.lst Y)
def YZ {i}(h:PA X es t):PE X (.Tuple es i pos) (a1g t):=by intro a s σ H Q I j;refine wpAny_Tuple_spliced (D4 (h pos a s σ H _ I j) λk d ⟨Y,f,g,r,z,q⟩=>⟨by rw[<-r.length];exact z,?_⟩);have l:f d.heap.objs.size=none:=g.hok.fresh (aAg _);refine⟨.ref d.heap.objs.size,upd f d.heap.objs.size (.tup Y),g.laid (t':=d.toks) (λb u e=>aAc _ e) (aAg _) ?_,rfl,q _ l⟩;exact⟨z,k,r,⟨_,aAn _ rfl,rfl,_,rfl⟩⟩
def PN (h:PA X es t):PE X (.List es pos) (a1a t):=by intro a s σ H Q I i;refine wpAny_List_spliced (D4 (h pos a s σ H _ I i) λj d ⟨Y,f,g,r,z,q⟩=>⟨by rw[<-r.length];exact z,?_⟩);have k:f d.heap.objs.size=none:=g.hok.fresh (aAg _);refine⟨.ref d.heap.objs.size,upd f d.heap.objs.size (.lst Y),g.laid (t':=d.toks) (λb u e=>aAc _ e) (aAg _) ?_,rfl,q _ k⟩;exact⟨z,j,0,r,aAn _ rfl⟩
end
abbrev Sp:=List V->Hp->VK->XK->Prop
abbrev QG:=List Env->Hp->be->XK->ae->be->Prop
structure Env0 (P:Program)(w:World)(K:PySem.W.Frag)(mg:cE)(base:Heap)(A:Around)(outer:List Env)(s:Shared)(H:Hp):Prop where
 frames:A.frames=some outer
 mod:Mod K mg base
 bs:∀b o,base.get? b=some o->s.heap.get? b=some o/\H b=none
 bsz:base.objs.size<=s.heap.objs.size
 funs:s.heap.FunFrames base outer
 frf:∀b∈zG outer,H b=none
 hok:fA P w H s.heap
 bare:AllBare s.gens
def CE (a:List Env)(P:cu)(w:cz)(H:Hp)(s:be)(Q:VK)(u:ae)(s':be):Prop:=
 ∃v b,s'.os=s.os/\AllBare s'.gens/\Un (zG a) [] H b s.heap s'.heap/\fA P w b s'.heap/\RelV v u/\Q v b
def CR (b:QG)(a:List Env)(P:cu)(w:cz)(H:Hp)(s:be)(Q:VK)(E:XK)(r:Result)(s':be):Prop:=
 match r with
 |.ok (.ret u)=>CE a P w H s Q u s'
 |.ok _=>False
 |.error e=>b a H s E e s'
structure FnOk (P:Program)(w:World)(K:PySem.W.Frag)(mg:cE)(base:Heap)(CX:QG)(k:Nat)(f:Addr)(fd:FuncData)(ps:List Str)(sp:Sp):Prop where
 len:∀vs H Q E,sp vs H Q E->vs.length=ps.length
 run:∀(A:Around) (outer:List Env) (s:Shared) (H:Hp) (args:Args) (us:List Value) (vs:List V) (Q:VK) (E:XK),Room k A->Env0 P w K mg base A outer s H->BindsTo s fd args (ps.zip us)->l9 vs us->sp vs H Q E->
  codeAny (model P w) A (.call (.ref f) args) (CR CX outer P w H s Q E) s
def FnOk.imp {P:cu}{w:cz}{K:lb}{mg:cE}{base:de}{e:QG}{k:Nat}{f:cp}{fd:ek}{ps:List Str}{g b:Sp}(F:FnOk P w K mg base e k f fd ps g)
  (h:∀vs H Q E,b vs H Q E->g vs H Q E):FnOk P w K mg base e k f fd ps b:=
 ⟨λvs H Q E q=>F.len vs H Q E (h _ _ _ _ q),λA a s H d i vs Q E j l m n o=>F.run A a s H d i vs Q E j l m n (h _ _ _ _ o)⟩
section
variable{X:Cx} {pins:N3} {σ:St} {H:Hp} {s s':be}
def Inv.af2 (I:Inv X pins σ H s):Env0 X.prog X.w X.K X.mg X.base X.A X.stack s H:=
 ⟨I.ok.frames,I.ok.mod,I.bs,aAp I.ok.bsz I.sz,I.stack,I.ad3,I.hok,I.bare⟩
def Inv.after (I:Inv X pins σ H s)(h:CE X.stack X.prog X.w H s Q u s'):EP X pins σ Q u s':=by obtain⟨v,i,os,a,un,e,r,q⟩:=h;obtain⟨j,g,d,t,f⟩:=s';obtain rfl:f=s.os:=os;exact⟨v,i,I.call (h':=j) (g':=g) (d':=d) (t':=t) (ch:=[]) un e a (λb z=>absurd z (by simp)),r,q⟩
end
def jx (b:Sp)(a:List V)(E:XK)(t:TA):TE:=λσ H Q=>t σ H λd e=>b (d++a) e Q E
def Binds (K:lb)(fd:ek)(ps:List Str)(ds:List ae):Prop:=
 ∀(s:be) (us:List ae),K.In s.heap->(us++ds).length=ps.length->BindsTo s fd ⟨us,[]⟩ (ps.zip<|us++ds)
def Binds.all {K:lb}{fd:ek}{ps:List Str}(h:∀a:List ae,a.length=ps.length->bindArgs fd ⟨a,[]⟩=pure (ps.zip a)):Binds K fd ps []:=λs a _ b=>by rw[aBR]at b⊢;exact .of_eq (h a b)
def CF (d:QG)(X:Cx)(E:XK):Prop:=∀(a:N3) (σ:St) (H:Hp) (s:be) (e:ae) (b:be),Inv X a σ H s->d X.stack H s E e b->X.xe e b
section
variable{X:Cx} {CX:QG} {k:Nat} {f C:cp} {fd:ek} {ps:List Str} {sp:Sp} {dvs:List V} {ds:List ae} {E:XK} {x m:Str} {p pos apos:Pos} {e o:dm} {es:List dm} {ta:TE} {t:TA}
def YI (F:FnOk X.prog X.w X.K X.mg X.base CX k f fd ps sp)(i:Room k X.A)(j:Binds X.K fd ps ds)(l:l9 dvs ds)(n:CF CX X E)(I:Inv X a σ H s)(r:l9 vs b)(h:sp (vs++dvs) H Q E):a9 (cq X.prog X.w) X.A (call (.ref f) b) (EP X a σ Q) X.xe s:=by
 have g:l9 (vs++dvs) (b++ds):=r.append l;have q:(b++ds).length=ps.length:=by rw[<-g.length];exact F.len _ _ _ _ h
 refine wpAny_call (aDS (F.run X.A X.stack s H ⟨b,[]⟩ (b++ds) (vs++dvs) Q E i I.af2 (j s b I.kIn q) g h) λr v d=>?_);cases r with
 |error e=>exact n a σ H s e v I d
 |ok y=>
  cases y with
  |ret u=>exact I.after d
  |next=>exact aAh d
  |brk=>exact aAh d
  |cont=>exact aAh d
def SX (F:FnOk X.prog X.w X.K X.mg X.base CX k f fd ps sp)(d:Room k X.A)(g:Gl X x)(i:X.mg x=some (.ref f))(j:PySem.W.keepIn X.K (.ref f)=true)(l:Binds X.K fd ps ds)(n:l9 dvs ds)(u:CF CX X E)
  (v:PA X (e::es) t) (y:(x==ll)=false:=by decide) (z:bb (e::es) X.env=(false,d3 e X.env)::bb es X.env:=by rfl) (B:(dn pos (bb es X.env)).any (·.1)=false:=by rfl):
  PE X (.Call (.Name x p) (e::es) [] pos) (jx sp dvs E t):=by
 intro a s σ H Q I h;refine aAW (vE I g i ?_ y);refine PySem.W.callWith_K (h₀:=X.base) I.ok.mod.kin j (D4 (v pos a s σ H _ I h) λJ L ⟨N,O,b,r,q⟩=>⟨b.kIn,?_⟩) z B;exact YI F d l n u b r q
end
section
variable{X:Cx} {CX:QG} {k:Nat} {f C:cp} {fd:ek} {ps ks:List Str} {sp:Sp} {E:XK} {x m:Str} {p pos apos kpos:Pos} {e o:dm} {es:List dm} {kws:List ka} {te ta:TE} {t tk:TA} {nm:Option Str}
variable{g:List ae->List ae->List ae} {gV:List V->List V->List V}
end
structure FnScope (N P:List Str)(sc:Scope):Prop where
 kind:sc.kind=.function
 co:sc.isCoroutine=false
 gen:sc.isGenerator=false
 nd:N.Nodup
 pre:N.take P.length=P
 par:∀x∈P,sc.names.lookup x=some .local\/sc.names.lookup x=some .cell
 nofree:∀y∈sc.names,y.2≠.free
theorem sI {kindOf:Str->Option eY}{x:Str}:∀{binds:List (Str×ae)} {m:cE},(∀v,(x,v)∉binds)->bindL kindOf binds m x=m x
 |[],_,_=>rfl
 |(n,v)::r,m,h=>by
  unfold bindL;rw[sI λw a=>h w (aAe _ a)];split
  .have:x≠n:=by rintro rfl;exact h v aAU
   simp[this]
  .rfl
theorem tK {kindOf:Str->Option eY}{x:Str}:∀{binds:List (Str×ae)} {m:cE},(∀v,(x,v)∉binds)->bindC kindOf binds m x=m x
 |[],_,_=>rfl
 |(n,v)::r,m,h=>by
  unfold bindC;rw[tK λw a=>h w (aAe _ a)];split
  .rfl
  .have:x≠n:=by rintro rfl;exact h v aAU
   simp[this]
theorem sQ {kindOf:Str->Option eY}{x:Str}{v:ae}:∀{P:List Str} {vs:List ae} {i:Nat} {m:cE},P.Nodup->P[i]?=some x->vs[i]?=some v->kindOf x=some .local->
  bindL kindOf (P.zip vs) m x=some v
 |[],_,_,_,_,h,_,_=>by simp at h
 |_::_,[],_,_,_,_,h,_=>by simp at h
 |p::P,w::vs,0,m,d,a,b,e=>by simp at a b;subst a;subst b;show bindL kindOf ((p,w)::P.zip vs) m p=_;unfold bindL;rw[sI λv f=>(aAG.mp d).1 (aDW f).1,kn e];simp
 |p::P,w::vs,i+1,m,d,a,b,e=>by show bindL kindOf ((p,w)::P.zip vs) m x=_;unfold bindL;exact sQ (i:=i) (aAG.mp d).2 (by simpa using a) (by simpa using b) e
theorem rC {kindOf:Str->Option eY}{x:Str}{v:ae}:∀{P:List Str} {vs:List ae} {i:Nat} {m:cE},P.Nodup->P[i]?=some x->vs[i]?=some v->kindOf x≠some .local->
  bindC kindOf (P.zip vs) m x=some v
 |[],_,_,_,_,h,_,_=>by simp at h
 |_::_,[],_,_,_,_,h,_=>by simp at h
 |p::P,w::vs,0,m,d,a,b,e=>by simp at a b;subst a;subst b;show bindC kindOf ((p,w)::P.zip vs) m p=_;unfold bindC;rw[tK λv f=>(aAG.mp d).1 (aDW f).1,ku e];simp
 |p::P,w::vs,i+1,m,d,a,b,e=>by show bindC kindOf ((p,w)::P.zip vs) m x=_;unfold bindC;exact rC (i:=i) (aAG.mp d).2 (by simpa using a) (by simpa using b) e
def start (N:List Str)(vs:List V):St:=vs.map some++aCS (N.length-vs.length) none
def CG (d:QG)(P:cu)(w:cz)(K:lb)(mg:cE)(base:de)(N:List Str)(qual:Str)(a:kb)(f:cp)(cd:ae)(A:cy)(outer:List Env)(s:be)(H:Hp)(E:XK):Cx where
 prog:=P
 w:=w
 K:=K
 mg:=mg
 base:=base
 A:=A.deeper (envOfC qual a s.heap.objs.size f cd)
 N:=N
 s9:=s
 H9:=H
 env:=envOfC qual a s.heap.objs.size f cd
 outer:=outer
 stack:=envOfC qual a s.heap.objs.size f cd::outer
 ex:=[]
 calm:=true
 fn:=λ_=>true
 pn:=[]
 xe:=λe g=>a9 (cq P w) (A.deeper<|envOfC qual a s.heap.objs.size f cd) (leaving (envOfC qual a s.heap.objs.size f cd) e) (λ_ b=>d outer H s E e b) (λh b=>d outer H s E h b) g
def yP {sc:kb}{n:Nat}{x:Str}(h:sc.names.lookup x=some .cell):∃c,(eQ n sc.names []).lookup x=some c:=by have q:=PySem.W.cellsFrom_some sc.names n [] (.inl h);exact aFt.mp q
def JB {L:QG}{P:cu}{w:cz}{K:lb}{mg:cE}{base:de}{N ps:List Str}{qual:Str}{d:kb}{f:cp}{cd:ae}{A:cy}{g:List Env}{s O:be}{H:Hp}{E:XK}{J:List ae}{vs:List V}
  (S:FnScope N ps d) (U:A.handled=none) (l:Env0 P w K mg base A g s H) (hl:vs.length=ps.length) (r:l9 vs J)
  (x:InCallC s s.heap.objs.size (bindL (envOfC qual d s.heap.objs.size f cd).kindOf (ps.zip J) λ_=>none) (eQ (s.heap.objs.size+1) d.names []) (bindC (envOfC qual d s.heap.objs.size f cd).kindOf (ps.zip J) λ_=>none) O):
  Inv (CG L P w K mg base N qual d f cd A g s H E) [] (start N vs) H O:=by
 have bc:ps.length<=N.length:=by have:=la aGt S.pre;rw[aBU]at this;lia
 obtain⟨C,tk,rfl,Q⟩:=x.done;have m:∀b:cp,b∉(CG L P w K mg base N qual d f cd A g s H E).ex:=λb z=>absurd (show b∈([]:List cp)from z) (by simp);refine⟨⟨l.mod,S.kind,rfl,rfl,aAg _,λy z c C j=>?_,λy o=>?_,λy c _ h=>?_,λ_=>U,aGf l.frames,.inr ⟨rfl,rfl⟩,λb z=>absurd z (m b),l.bs,l.bsz,λb _ _=>m b,λb z=>absurd z (m b),l.funs,l.frf⟩,
  rfl,l.bare,Un.kept Q,⟨_,x.toInCall.ns,λi y v C j h3=>?_⟩,λy c h=>⟨_,x.cell y c h⟩,l.hok.fresh (aAg _),λy c h=>?_,λp t=>absurd (show p∈([]:N3)from t) (by simp),l.hok.kept Q,?_⟩
 .exact name_of_addr x.apart (PySem.mem_of_lookup C) (PySem.mem_of_lookup j)
 .have o:d.names.lookup y=some .cell\/d.names.lookup y=some .free:=o;rcases o with o|o
  .exact yP o
  .exact absurd rfl (S.nofree _<|PySem.mem_of_lookup o)
 .exact aDB (x.above y c<|PySem.mem_of_lookup h)
 .have I:i<vs.length:=by
   unfold start at j;by_cases I:i<vs.length
   .exact I
   .rw[aAB (by simpa using I)]at j;rw[aBy]at j;split at j<;>cases j
  have Y:vs[i]?=some v:=by
   unfold start at j;rw[aAZ (by simpa using I),aAF]at j;cases e:vs[i]? with
   |none=>rw[e]at j;cases j
   |some a=>rw[e]at j;cases j;rfl
  obtain⟨u,T,rv⟩:=r.get Y;have t:ps[i]?=some y:=by rw[<-S.pre,List.getElem?_take_of_lt (by lia)];exact C
  have B:ps.Nodup:=by rw[<-S.pre];exact S.nd.sublist (aFp _ _)
  refine⟨u,rv,?_⟩;rcases S.par y (aAr t)with k|k
  .exact .inl ⟨k,sQ B t T k⟩
  .obtain⟨c,e⟩:=yP (n:=s.heap.objs.size+1) k;refine .inr ⟨.inl k,c,e,?_⟩;have q:=x.cell y c e;rw[rC B t T (by show d.names.lookup y≠_;rw[k];decide)]at q;exact q
 .exact l.hok.fresh (aDB<|x.above y c<|PySem.mem_of_lookup h)
 .unfold start;show _=N.length;rw[aAC,aAi,aCr]
  lia
def WO {p:QG}{P:cu}{w:cz}{K:lb}{mg:cE}{base:de}{k:Nat}{f:cp}{name qual:Str}{g:Arguments}{body:List dC}{a:kb}{dV kV i pm L ct oc:ae}{an od:Option cp}
  {B:Array (Option ae)} {N ps:List Str} {C:Sp} (lk:K.lookup f=some ⟨oc,od,.func (PySem.W.fnOf name qual g body a dV kV i pm an L ct),B⟩) (cg:PySem.W.codeIn K L qual=true) (S:FnScope N ps a)
  (len:∀vs H Q E,C vs H Q E->vs.length=ps.length)
  (wg:∀(A:cy) (d:List Env) (s:be) (H:Hp) (vs:List V) (Q:VK) (E:XK),Room k (A.deeper (envOfC qual a s.heap.objs.size f L))->C vs H Q E->
   ∃t,tZ (CG p P w K mg base N qual a f L A d s H E) body t/\t {nx:=λ_ H'=>Q .non H',rt:=Q} (start N vs) H):
  FnOk P w K mg base p (k+1) f (PySem.W.fnOf name qual g body a dV kV i pm an L ct) ps C:=by
 refine⟨len,λA d s H args us vs Q E O j hb r l=>?_⟩;have hl:=len _ _ _ _ l;have KX:K.In s.heap:=j.mod.kin.keeps λb o e=>(j.bs b o e).1;have T:s.heap.NoLimit:=j.mod.nolimit.keeps λb o e=>(j.bs b o e).1;have pf:∀y∈ps.zip us,a.names.lookup y.1=some .local\/(a.names.lookup y.1=some .cell/\((eQ (s.heap.objs.size+1) a.names []).lookup y.1).isSome=true):=λ⟨n,v⟩ hy=>by
  rcases S.par n (aDW hy).1 with q|q
  .exact .inl q
  .exact .inr ⟨q,PySem.W.cellsFrom_some _ _ _ (.inl q)⟩
 refine codeAny_call_function O.depth (KX _ _ lk) rfl S.co S.gen rfl (PySem.W.codeRec_of KX cg) (hb _ _ _ _ ?_);refine wpAny_newFunctionEnv_cells S.kind pf λenv he s1 x=>?_;subst he;refine⟨T.keeps x.toInCall.keep,codeAny_func ?_⟩;obtain⟨t,ht,hq⟩:=wg A d s H vs Q E (O.deeper _) l;have I:Inv (CG p P w K mg base N qual a f L A d s H E) [] (start N vs) H s1:=JB S O.hd j hl r x;refine aCt (ht [] s1 (start N vs) H _ I hq) (λfl U h=>?_) λe U h=>h;have m:∀{z:St} {H':Hp} {v:V} {u:ae},Inv (CG p P w K mg base N qual a f L A d s H E) [] z H' U->RelV v u->Q v H'->CE d P w H s Q u U:=
  λ{z H' v u} J Y q=>⟨v,H',J.os,J.bare,J.base,J.hok,Y,q⟩
 cases fl with
 |ret u=>obtain⟨v,z,H',J,Y,q⟩:=h;exact m J Y q
 |next=>obtain⟨z,H',J,q⟩:=h;exact m (v:=V.non) (u:=Value.none) J rfl q
 |brk=>obtain⟨_,_,_,q⟩:=h;exact aAh q
 |cont=>obtain⟨_,_,_,q⟩:=h;exact aAh q
section
variable{X:Cx} {x:Str} {p pos:Pos} {e:dm} {es:List dm} {t:TA} {id T:String} {r:List V->Hp->VK->Prop}
end
end L2
namespace HT
open PySem PyProof.Rows
def lexLt:List Int->List Int->Bool
 |[],[]=>false
 |[],_::_=>true
 |_::_,[]=>false
 |x::Y,y::a=>if x=y then lexLt Y a else decide (x<y)
def lexLt_cons (x y:Int)(Y a:List Int):lexLt (x::Y) (y::a)=if x=y then lexLt Y a else decide (x<y):=rfl
def lexLt_nil_nil:lexLt [] []=false:=rfl
def F7 (y:Int)(a:List Int):lexLt [] (y::a)=true:=rfl
def z8 (x:Int)(Y:List Int):lexLt (x::Y) []=false:=rfl
def nR (A:cy)(s:be)(a:Int)(t:Tok)(c:Int)(u:Tok):∃e,SeqAt.EqAt A s (.int a t) (.int c u) e/\(e=true↔a=c):=
 ⟨(a==c),aFc a t c u,by simp⟩
def xV (A:cy)(s:be)(a:Int)(t:Tok)(c:Int)(u:Tok)(prog:cu)(w:cz)(E:A3)(Q:A3)(h:Q (.bool (decide (a<c))) s):
  a9 (cq prog w) A (i6 .Lt (.int a t) (.int c u)) Q E s:=
 (PyProof.Rows.lt_int h:a9 (cq prog w) A (d9 .Lt (.int a t) (.int c u)) Q E s)
section
open PySem.SeqAt
open PySem.AutoSeq1 (wpAny_loadPart')
open PySem.MeetsSeq PySem.MeetsSeq2 PySem.MeetsSeq3
def qX (l b:cp)(B m:Array ae)(n n2:Nat)(dd qt:Option cp)(sl qg:Array (Option ae))(ns z:List Int)(T:IntsAre B.toList ns)(U:IntsAre m.toList z):
  Meets (Builtin.«tuple.__lt__» ⟨[.ref l,.ref b],[]⟩)
   (λ_ R s=>s.heap.get? l=some {cls:=.type "tuple",dict:=dd,data:=.seq B n,slots:=sl}/\s.heap.get? b=some {cls:=.type "tuple",dict:=qt,data:=.seq m n2,slots:=qg}/\
    R (.ok (.ret (.bool (lexLt ns z)))) s):=
 .of_wp λj w A R s h=>by
  obtain⟨C,g,d,E,os⟩:=s;obtain⟨hl,hb,h⟩:=h;have f2:=aFu;have z1:B.size=ns.length:=by rw[<-T.length];simp
  have z2:m.size=z.length:=by rw[<-U.length];simp
  wp_walk using aDD hl,aDD hb,aCh _ (λrest b L=>b.1=none/\L=⟨C,g,d,E,os⟩/\∃(H I:List ae) (o p:List Int),rest=H.zip I/\
   IntsAre H o/\IntsAre I p/\o.length+m.size=p.length+B.size/\R (.ok (.ret (.bool (lexLt o p)))) ⟨C,g,d,E,os⟩) _
  case turn=>
   rintro⟨y,x⟩ rest b L ⟨N,rfl,H,I,o,p,i,O,J,f,k⟩;cases O with
   |nil=>rw[aFv]at i;cases i
   |cons a t r=>
    cases J with
    |nil=>rw[aFd]at i;cases i
    |cons c u v=>
     rw[aBJ]at i;injection i with xp af;injection xp with hy hx;subst hy hx;rw[lexLt_cons]at k;simp only[aAt]at f;obtain⟨e,he,Y⟩:=nR A.in1 ⟨C,g,d,E,os⟩ a t c u;refine aAa (he j w _ _ ?_);cases e with
     |true=>
      rw[kn (Y.mp rfl)]at k
      wp_walk
      exact⟨rfl,rfl,_,_,_,_,af,r,v,by lia,k⟩
     |false=>
      rw[ku (λq=>absurd (Y.mpr q) aBc)]at k;have Q:=xV A.in1 ⟨C,g,d,E,os⟩ a t c u j w
      wp_walk using Q
      exact⟨_,rfl,by simpa using k⟩
  case fin=>
   rintro⟨b1,b2⟩ L ⟨N,rfl,H,I,o,p,i,O,J,f,k⟩;simp only at N;subst N;have hv:lexLt o p=decide (B.size<m.size):=by
    cases O with
    |nil=>
     cases J with
     |nil=>simp only[aBL]at f;rw[lexLt_nil_nil];exact(decide_eq_false (by lia)).symm
     |cons c u hw=>simp only[aBL,aAt]at f;rw[F7];exact(decide_eq_true (by lia)).symm
    |cons a t hv=>
     cases J with
     |nil=>simp only[aBL,aAt]at f;rw[z8];exact(decide_eq_false (by lia)).symm
     |cons c u hw=>rw[aBJ]at i;cases i
   rw[hv]at k
   wp_walk
   exact⟨_,rfl,by simpa[aEg]using k⟩
  case h=>exact⟨rfl,rfl,B.toList,m.toList,ns,z,rfl,T,U,by lia,h⟩
end
section
variable{prog:cu} {w:cz} {A:cy} {E:A3} {s:be}
def lt_tupInts {Q:A3}(o:IsTup s.heap l B)(p:IsTup s.heap b e)(q:IntsAre B.toList ns)(r:IntsAre e.toList d)(t:A.units<df)(h:Q (.bool (lexLt ns d)) s):a9 (cq prog w) A (d9 .Lt (.ref l) (.ref b)) Q E s:=by
 obtain⟨⟨u,v,f,y⟩,g,i,n,j⟩:=id o;obtain⟨⟨I,z,data2,C⟩,k,m,H,a⟩:=id p;simp only at i j m a;subst i j m a;exact richCompare_meets_room (op:=.Lt) ⟨_,g,rfl⟩ ⟨_,k,rfl⟩ PySem.F.slot_tuple_lt PySem.F.entry_tuple_lt (PySem.F.args_tuple_lt_2 _ _) (qX l b B e n H v z y C ns d q r)
  ⟨g,k,show aDm (lexLt ns d)≠aGg/\Q (.bool (lexLt ns d)) s from⟨(λx=>nomatch x),h⟩⟩ t
def cat_tup {Q:A3}(u:IsTup s.heap t vs.toArray)(v:IsTup s.heap b ws.toArray)(i:vs≠[])(x:ws=[]->Q (.ref t) s)(y:ws≠[]->Q (.ref s.heap.objs.size) {s with heap:=s.heap.push {cls:=.type "tuple",data:=.seq (vs++ws).toArray}})(h:vs.length+ws.length<=sizeLine):a9 (cq prog w) A (eR .Add (.ref t) (.ref b)) Q E s:=by
 obtain⟨⟨cls,j,data,k⟩,d,l,n,m⟩:=id u;obtain⟨⟨z,o,data2,p⟩,f,q,r,a⟩:=id v;simp only at l m q a;subst l m q a;have e:vs.toArray++ws.toArray=(vs++ws).toArray:=by simp
 by_cases g:ws=[]
 .exact aFY ⟨_,d,rfl⟩ ⟨_,f,rfl⟩ aFG seq_tuple_add PySem.F.slot_tuple_add PySem.F.entry_tuple_add (PySem.F.args_tuple_add_2 _ _)
   (tuple_addW1 t b vs.toArray ws.toArray n r j o k p (by simpa using i) (by simp[g])) ⟨d,f,x g⟩
 .refine aFY ⟨_,d,rfl⟩ ⟨_,f,rfl⟩ aFG seq_tuple_add PySem.F.slot_tuple_add PySem.F.entry_tuple_add (PySem.F.args_tuple_add_2 _ _)
   (tuple_addW2 t b vs.toArray ws.toArray n r j o k p (by simpa using i) (by simpa using g) (by rw[aAm,aAm];exact h)) ⟨d,f,?_⟩
  rw[e];exact y g
def sIx (n d:Nat):Option Int->Nat
 |none=>d
 |some v=>if v<0 then(v+(n:Int)).toNat else min v.toNat n
def jj (n d:Nat):sIx n d none=d:=rfl
def WZ (n d:Nat)(b:d<=n)(o:Option Int):sIx n d o<=n:=by
 cases o with
 |none=>exact b
 |some v=>
  show(if v<0 then(v+(n:Int)).toNat else min v.toNat n)<=n;by_cases a:v<0
  .rw[kn a];lia
  .rw[ku a];exact Nat.min_le_right _ _
def GB (v:Int)(n d:Nat):(if v<0 then max (v+(n:Int)) 0 else min v (n:Int))=((sIx n d (some v):Nat):Int):=by
 show(if v<0 then max (v+(n:Int)) 0 else min v (n:Int))=(((if v<0 then(v+(n:Int)).toNat else min v.toNat n):Nat):Int);by_cases a:v<0
 .simp only[kn a];lia
 .simp only[ku a];lia
def CQ (lo a:Option Int)(n:Nat):aDM lo a 1 (n:Int)=(((sIx n 0 lo:Nat):Int),((sIx n n a:Nat):Int)):=by
 have b:¬((1:Int)<0):=by lia
 unfold aDM;simp only[b,if_false];refine aGc ?_ ?_
 .cases lo with
  |none=>rfl
  |some v=>exact GB v n 0
 .cases a with
  |none=>rfl
  |some v=>exact GB v n n
def CJ (i j:Nat):aCT (i:Int) (j:Int) 1=j-i:=by
 unfold aCT;have a:(1:Int)>0:=by lia
 simp only[a,if_true,Int.ediv_one];split<;>lia
def pA {Q:Option Int->be->Prop}(p:IsPart v o)(h:Q o s):a9 (cq prog w) A (Builtin.Slice.slicePartIndex v) Q E s:=by
 cases p with
 |none=>exact slicePart_none h
 |int i t=>exact slicePart_int h
def iM {sl:cp}{d e:ae}{lo a:Option Int}{n:Nat}{Q:Int×Int×Nat->be->Prop}(g:s.heap.IsSliceOf sl d e .none)(i:IsPart d lo)(j:IsPart e a)
  (h:Q (((sIx n 0 lo:Nat):Int),1,sIx n n a-sIx n 0 lo) s):a9 (cq prog w) A (aES (.ref sl) (pure (n:Int))) Q E s:=by
 obtain⟨os,b,k,f⟩:=id g;unfold aES Builtin.Slice.sliceFields;refine aAa (aAa<|aCU b f (x:=d) rfl<|aAa<|aCU b f (x:=e) rfl<|aAa<|aCU b f (x:=.none) rfl<|aAb ?_);refine aAa (slicePart_none ?_);show a9 _ _ (if((1:Int)==0)=true then _ else _) _ _ s;rw[ku (by decide)];refine aAa (pA i<|aAa<|pA j<|aAa<|aAb ?_);show a9 _ _ (match aDM lo a 1 (n:Int)with|(lo,a)=>pure (lo,(1:Int),aCT lo a 1)) _ _ s;rw[CQ lo a n];show a9 _ _ (pure (((sIx n 0 lo:Nat):Int),(1:Int),aCT ((sIx n 0 lo:Nat):Int) ((sIx n n a:Nat):Int) 1)) _ _ s;rw[CJ];exact aAb h
def LS (Y:Array ae)(i k:Nat):((aBv k).filterMap λ(m:Nat)=>Y[((i:Int)+(m:Int)*1).toNat]?).toArray=((Y.toList.drop i).take k).toArray:=by
 have e:(λ(m:Nat)=>Y[((i:Int)+(m:Int)*1).toNat]?)=λm=>Y[i+m]?:=by
  funext m
  have:((i:Int)+(m:Int)*1).toNat=i+m:=by lia
  rw[this]
 rw[e];have:=pick_run Y i k;rw[aDs]at this;have a:((λx=>Y[x]?)∘λx=>i+x)=λm=>Y[i+m]?:=rfl;rw[a]at this;rw[this]
def getItem_tuple_cut {t sl:cp}{B:Array ae}{i j:ae}{lo a:Option Int}{Q:A3}(b:IsTup s.heap t B)(k:s.heap.IsSliceOf sl i j .none)(l:IsPart i lo)(n:IsPart j a)
  (o:¬(sIx B.size 0 lo=0/\sIx B.size B.size a=B.size))
  (h:Q (.ref s.heap.objs.size) {s with heap:=s.heap.push {cls:=.type "tuple",data:=.seq ((B.toList.drop (sIx B.size 0 lo)).take (sIx B.size B.size a-sIx B.size 0 lo)).toArray}})
  (p:B.size<=sizeLine):a9 (cq prog w) A (getItem (.ref t) (.ref sl)) Q E s:=by
 have d:sizeOk (.seq ((B.toList.drop<|sIx B.size 0 lo).take (sIx B.size B.size a-sIx B.size 0 lo)).toArray):=by
  show((B.toList.drop<|sIx B.size 0 lo).take (sIx B.size B.size a-sIx B.size 0 lo)).toArray.size<=sizeLine;rw[aAm,aBU,aDQ,aAM]
  lia
 have u:sIx B.size B.size a<=B.size:=WZ _ _ (aAg _) a;obtain⟨os,e,r,v⟩:=id k;have f:s.TypeIs (.ref sl) "slice":=⟨os,e,r⟩;unfold getItem;try with_reducible refine aAL ?_
 first|refine aAa (aAb ?_)|skip
 refine aAa (wpAny_sequenceKey b.typeIs (by decide) ?_);refine aAa (aBP (name:=aCD "__getitem__") b.typeIs aCE
  (aBe aCE b.typeIs entry_tuple_getitem ?_ (args_tuple_getitem _ _)))
 show a9 _ _ (aDJ (.ref t)>>=_) _ _ s;refine aAa (tupleItemsOf_ b ?_);refine aAa (aDT f ?_);rw[kn (by decide)];refine aAa (iM k l n ?_);have g:¬((((sIx B.size 0 lo:Nat):Int)==0&&(1:Int)==1&&(sIx B.size B.size a-sIx B.size 0 lo)==B.size)=true):=by intro q;rw[aAK,aAK]at q;have x:((sIx B.size 0 lo:Nat):Int)=0:=eq_of_beq q.1.1;have y:sIx B.size B.size a-sIx B.size 0 lo=B.size:=eq_of_beq q.2;exact o ⟨by lia,by lia⟩
 show a9 _ _ (if(((sIx B.size 0 lo:Nat):Int)==0&&(1:Int)==1&&(sIx B.size B.size a-sIx B.size 0 lo)==B.size)=true then _ else _) _ _ s;rw[ku g,LS];first
  |exact aAa (m:=aCY _) (aBb (aAb ⟨_,rfl,aAb h⟩) d)
  |exact aAa (m:=aCY _) (aBb (aAa<|aAb<|aAb ⟨_,rfl,aAb h⟩) d)
  |exact aAa (aAa (m:=aCY _)<|aBb (aAb<|aAb ⟨_,rfl,aAb h⟩) d)
  |exact aAa (aAa (m:=aCY _)<|aBb (aAb ⟨_,rfl,aAb h⟩) d)
end
end HT
namespace L2
open PySem PySem.Spec PyProof.Rows
abbrev TO:=St->Hp->(Option Int->Hp->Prop)->Prop
def PO (X:Cx)(e:Option dm)(t:TO):Prop:=
 ∀(a:N3) (s:be) (σ:St) (H:Hp) (Q:Option Int->Hp->Prop),Inv X a σ H s->t σ H Q->
  a9 (cq X.prog X.w) X.A (evalPart e X.env) (λu d=>∃o b,Inv X a σ b d/\IsPart u o/\Q o b) X.xe s
def RA:TO:=λ_ H Q=>Q none H
def a0d (t:TE):TO:=λσ H Q=>t σ H λx a=>∃i,x=.int i/\Q (some i) a
section
variable{X:Cx} {e:dm} {te:TE} {lo hi:Option dm} {tl th:TO} {pos p2:Pos}
def TR:PO X none RA:=by intro a s σ H Q I h;rw[evalPart_none];exact aAb ⟨none,H,I,.none,h⟩
def SO (h:PE X e te):PO X (some e) (a0d te):=by intro a s σ H Q I b;rw[evalPart_some];refine D4 (h a s σ H _ I b) λu k ⟨x,d,f,g,j⟩=>?_;obtain⟨i,rfl,q⟩:=j;obtain⟨t,rfl⟩:=g;exact⟨some i,d,f,.int i t,q⟩
def YW (X:Cx)(r:V->Option Int->Option Int->Hp->VK->Prop):Prop:=
 ∀(a:N3) (s:be) (σ:St) (H:Hp) (x:V) (v b d:ae) (lo hi:Option Int) (f:cp) (Q:VK),Inv X a σ H s->RelV x v->s.heap.IsSliceOf f b d .none->IsPart b lo->IsPart d hi->r x lo hi H Q->
  ∃T id,typeLookup (.type T) "__getitem__"=pure (some<|.builtin id)/\s.TypeIs v T/\a9 (cq X.prog X.w) X.A (getItem v<|.ref f) (EP X a σ Q) X.xe s
def YW.or {r b:V->Option Int->Option Int->Hp->VK->Prop}(h:YW X r)(h':YW X b):YW X (λx lo hi H Q=>r x lo hi H Q\/b x lo hi H Q):=by
 intro a s σ H x v d f lo hi g Q I i j k l q;rcases q with q|q
 .exact h a s σ H x v d f lo hi g Q I i j k l q
 .exact h' a s σ H x v d f lo hi g Q I i j k l q
def tSl (r:V->Option Int->Option Int->Hp->VK->Prop)(te:TE)(tl th:TO):TE:=λσ H Q=>te σ H λx a=>tl σ a λl b=>th σ b λu d=>r x l u d Q
def KZ {r:V->Option Int->Option Int->Hp->VK->Prop}(j:YW X r)(k:PE X e te)(m:PO X lo tl)(n:PO X hi th):PE X (.Subscript e (.Slice lo hi none p2) pos) (tSl r te tl th):=by intro a s σ H Q I h;refine Subscript_ (D4 (k a s σ H _ I h) λv o ⟨x,p,t,y,z⟩=>?_);refine wpAny_Slice (D4 (m a o σ p _ t z) λf B ⟨l,C,E,J,L⟩=>D4 (n a B σ C _ E L) λg d ⟨u,i,N,O,U⟩=>?_);rw[evalPart_none];refine aAb ?_;have Y:Inv X a σ i {d with heap:=d.heap.push {cls:=.type "slice",data:=.fields #[f,g,.none]}}:=N.kept (t':=d.toks) λb ob q=>aAc _ q;obtain⟨T,id,hT,ht,hg⟩:=j a {d with heap:=d.heap.push {cls:=.type "slice",data:=.fields #[f,g,.none]}} σ i x v f g l u d.heap.objs.size Q Y y (Heap.IsSliceOf.new ..) J O U;show a9 (cq X.prog X.w) X.A (subscriptTail e (.Slice lo hi none p2) v<|.ref d.heap.objs.size) (EP X a σ Q) X.xe {d with heap:=d.heap.push {cls:=.type "slice",data:=.fields #[f,g,.none]}};exact tail_any (ops:=[.ref d.heap.objs.size,v]) ht hT hg (by with_unfolding_all rfl)
def zF (Y:List V)(lo hi:Option Int):List V:=(Y.drop<|HT.sIx Y.length 0 lo).take (HT.sIx Y.length Y.length hi-HT.sIx Y.length 0 lo)
def kK (Y:List V)(lo hi:Option Int):(zF Y lo hi).length<=Y.length:=by
 unfold zF;rw[aBU,aDQ]
 lia
def kq (K:lb):V->Option Int->Option Int->Hp->VK->Prop:=λx lo hi H Q=>∃a Y,x=.ref a/\T8 K H a Y/\
 ¬(HT.sIx Y.length 0 lo=0/\HT.sIx Y.length Y.length hi=Y.length)/\∀p,H p=none->Q (.ref p) (upd H p<|.tup (zF Y lo hi))
def XF:YW X (kq X.K):=by
 intro g s σ H x v u w lo hi y Q I k l m n h;obtain⟨a,Y,rfl,p,t,q⟩:=h;cases k;obtain⟨f,r,i,j⟩:=I.tuple p;have d:f.toArray.size=Y.length:=by rw[aAm];exact r.length.symm
 refine⟨"tuple",_,aCE.lookup,i.typeIs,?_⟩;refine HT.getItem_tuple_cut i l m n (by rw[d];exact t) ?_ (by rw[d];exact j);rw[d];refine⟨.ref s.heap.objs.size,_,I.laid (t':=s.toks) (o:=.tup (zF Y lo hi)) (λb z q=>aAc _ q) (aAg _) ?_,rfl,q _ (I.hok.fresh<|aAg _)⟩;exact⟨aAp (kK Y lo hi) j,_,(r.drop<|HT.sIx Y.length 0 lo).take (HT.sIx Y.length Y.length hi-HT.sIx Y.length 0 lo),IsTup.new _ _⟩
def kw (K:lb):R2:=λx y H Q=>∃a b Y d,x=.ref a/\y=.ref b/\T8 K H a Y/\T8 K H b d/\Y≠[]/\Y.length+d.length<=sizeLine/\
 (d=[]->Q (.ref a) H)/\(d≠[]->∀p,H p=none->Q (.ref p) (upd H p<|.tup (Y++d)))
def l9.ac3 (r:l9 Y a):a=[]↔Y=[]:=by
 cases r with
 |nil=>simp
 |cons _ _=>simp
def FQ:lP X (eR .Add) (kw X.K):=by intro g s σ H x y v u Q I j k h;obtain⟨a,b,Y,l,rfl,rfl,m,n,p,i,r,t⟩:=h;cases j;cases k;obtain⟨A,f,B,_⟩:=I.tuple m;obtain⟨C,d,p2,_⟩:=I.tuple n;refine HT.cat_tup B p2 (λz=>p (f.ac3.mp z)) (λz=>⟨.ref a,H,I,rfl,r (d.ac3.mp z)⟩) (λz=>?_) (by rw[<-f.length,<-d.length];exact i);refine⟨.ref s.heap.objs.size,_,I.laid (t':=s.toks) (o:=.tup (Y++l)) (λb E q=>aAc _ q) (aAg _) ?_,rfl,t (λw=>z (d.ac3.mpr w)) _ (I.hok.fresh<|aAg _)⟩;exact⟨by rw[aAC];exact i,_,f.append d,IsTup.new _ _⟩
end
def BU (n:Nat)(i:Int):Option Nat:=if 0<=i then(if i<n then some i.toNat else none)else if-(n:Int)<=i then some (i+n).toNat else none
def pD {α:Type}(Y:List α)(i:Int):Option α:=(BU Y.length i).bind λj=>Y[j]?
def ES (h:BU n i=some j):seqIndex? i n=some j/\j<n/\-(n:Int)<=i/\i<n:=by
 unfold BU at h;by_cases b:0<=i
 .rw[kn b]at h;by_cases a:i<n
  .rw[kn a]at h;have e:i.toNat=j:=Option.some.inj h;exact⟨by rw[seqIndex_of b a,e],by lia,by lia,a⟩
  .rw[ku a]at h;cases h
 .rw[ku b]at h;by_cases a:-(n:Int)<=i
  .rw[kn a]at h;have e:(i+n).toNat=j:=Option.some.inj h;exact⟨by rw[seqIndex_neg (by lia) a,e],by lia,a,by lia⟩
  .rw[ku a]at h;cases h
def EU {α:Type}{Y:List α}{i:Int}{v:α}(h:pD Y i=some v):∃j,seqIndex? i Y.length=some j/\Y[j]?=some v/\j<Y.length/\-(Y.length:Int)<=i/\i<Y.length:=by
 unfold pD at h;cases e:BU Y.length i with
 |none=>rw[e]at h;cases h
 |some j=>rw[e]at h;obtain⟨a,b,d,f⟩:=ES e;exact⟨j,a,h,b,d,f⟩
def UV (b:dm):Prop:=∀o i,subscripted b false o i=operate [o,i] (getItem o i)
def IxR (X:Cx)(r:R2):Prop:=
 ∀(d a:dm) (b:N3) (s:be) (σ:St) (H:Hp) (x y:V) (v u:ae) (Q:VK),Inv X b σ H s->RelV x v->RelV y u->r x y H Q->
  subscripted a false v u=operate [v,u] (getItem v u)->a9 (cq X.prog X.w) X.A (subscriptTail d a v u) (EP X b σ Q) X.xe s
def MtR (X:Cx)(id:String)(r:V->List V->Hp->VK->Prop):Prop:=
 ∀(a:N3) (s:be) (σ:St) (H:Hp) (x:V) (Y:List V) (v:ae) (b:List ae) (Q:VK),Inv X a σ H s->RelV x v->l9 Y b->r x Y H Q->
  a9 (cq X.prog X.w) X.A (call (.builtin id) (v::b)) (EP X a σ Q) X.xe s
section
variable{X:Cx} {a b:dm} {ta tb:TE} {pos:Pos}
def a1i (K:lb):R2:=λx y H Q=>∃p Y i v,x=.ref p/\y=.int i/\N2 K H p Y/\pD Y i=some v/\Q v H
def a1e (K:lb):R2:=λx y H Q=>∃p Y i v,x=.ref p/\y=.int i/\T8 K H p Y/\pD Y i=some v/\Q v H
def VJ:IxR X (a1i X.K):=by
 intro g k d s σ H x y v u Q I C E h o;obtain⟨p,Y,i,z,rfl,rfl,J,L,q⟩:=h;cases C;obtain⟨t,rfl⟩:=E;obtain⟨l,r,m,hz⟩:=I.list J;obtain⟨j,f,N,h3,O,T⟩:=EU L;obtain⟨w,A,U⟩:=r.get N;have hl:=r.length;have hn:=vI;have e:EP X d σ Q w s:=⟨z,H,I,U,q⟩;by_cases B:0<=i
 .have n:i.toNat=j:=by rw[seqIndex_of B T]at f;exact Option.some.inj f
  exact item_listR m.isList B (by lia) (by rw[n];simpa using A) e o
 .have n:(i+(l.toArray.size:Int)).toNat=j:=by rw[seqIndex_neg (by lia) O]at f;rw[aAm,<-hl];exact Option.some.inj f
  exact subscriptTail_builtinR (x:=w) m.isList.typeIs slot_list_getitem.lookup
   (wpAny_getItem_list_neg (Q:=λr s'=>r=w/\EP X d σ Q r s') m.isList (by lia) (by rw[aAm]<;>lia) (by lia) (by rw[n];simpa using A) ⟨rfl,e⟩) o
def ZD:IxR X (a1e X.K):=by
 intro e f d s σ H x y v u Q I l m h n;obtain⟨p,Y,i,z,rfl,rfl,o,A,q⟩:=h;cases l;obtain⟨t,rfl⟩:=m;obtain⟨B,r,k,T⟩:=I.tuple o;obtain⟨j,C,E,U,h4,h5⟩:=EU A;obtain⟨w,J,L⟩:=r.get E;have N:=r.length;have hn:=vI;have g:EP X d σ Q w s:=⟨z,H,I,L,q⟩;exact subscriptTail_builtinR (x:=w) k.typeIs aCE.lookup
  (getItem_tuple (j:=j) (Q:=λr O=>r=w/\EP X d σ Q r O) k (by lia) (by lia) (by rw[aAm,<-N];exact C) (by simpa using J) ⟨rfl,g⟩) n
def AN (its:List ae)(n j:Nat)(u:ae):aBG (·.setIfInBounds j u) {cls:=.type "list",data:=.seq its.toArray n}={cls:=.type "list",data:=.seq (its.set j u).toArray n}:=by simp[aBG]
def Inv.lst {d:N3}{σ:St}{H:Hp}{s:be}{p:cp}{Y:List V}(I:Inv X d σ H s)(h:H p=some (.lst Y)):
  ∃(its:List ae) (n:Nat),l9 Y its/\s.heap.get? p=some {cls:=.type "list",data:=.seq its.toArray n}/\Y.length<=sizeLine:=by
 obtain⟨z,its,n,r,e⟩:=I.hok p _ h;exact⟨its,n,r,e,z⟩
def Inv.af5 {d:N3}{σ:St}{H:Hp}{s:be}{p:cp}{Y g:List V}{its its':List ae}{n i:Nat}{f:Obj->Obj}(I:Inv X d σ H s)(h:H p=some (.lst Y))
  (k:s.heap.get? p=some {cls:=.type "list",data:=.seq its.toArray n}) (j:f {cls:=.type "list",data:=.seq its.toArray n}={cls:=.type "list",data:=.seq its'.toArray i}) (r:l9 g its') (hz:g.length<=sizeLine) (t:Nat):
  Inv X d σ (upd H p (.lst g)) {s with heap:=s.heap.update p f,toks:=t}:=by
 have e:(s.heap.update p f).get? p=some {cls:=.type "list",data:=.seq its'.toArray i}:=by rw[aAV f k (by rw[j]<;>rfl),j]
 refine I.write (x:=p) (e:=p) (by rw[h];trivial) (.inl rfl) (λb u l q=>(aAx _ _<|aBV l).trans q) ⟨_,e⟩ ?_;exact⟨hz,its',i,r,e⟩
def iy:V->V->V->Hp->(Hp->Prop)->Prop:=λo i v H Q=>∃p Y k j,o=.ref p/\i=.int k/\H p=some (.lst Y)/\BU Y.length k=some j/\Q (upd H p<|.lst (Y.set j v))
def OL:YK X iy:=by
 intro d s σ H o i v N O u Q I B C E h;obtain⟨p,Y,k,j,rfl,rfl,w,J,q⟩:=h;cases B;obtain⟨t,rfl⟩:=C;obtain⟨e,n,r,g,L⟩:=I.lst w;obtain⟨f,T,x,y⟩:=ES J;have l:=r.length;have U:=vI;have z:Inv X d σ (upd H p<|.lst (Y.set j v)) {s with heap:=s.heap.update p (aBG (·.setIfInBounds j u))}:=
  I.af5 w g (AN e n j u) (r.set E j) (by rw[aFZ];exact L) s.toks
 by_cases A:0<=k
 .have m:k.toNat=j:=by rw[seqIndex_of A y]at f;exact Option.some.inj f
  exact PySem.W.ki_setAt g A (by lia) (by rw[aAm,<-l];exact y) (by rw[m];exact⟨_,z,q⟩)
 .have m:(k+(e.toArray.size:Int)).toNat=j:=by rw[seqIndex_neg (by lia) x]at f;rw[aAm,<-l];exact Option.some.inj f
  exact PySem.W.ki_setBack g (by lia) (by rw[aAm,<-l];exact x) (by lia) (by rw[m];exact⟨_,z,q⟩)
def uJ (lo d:Option Int)(n:Nat):(jc lo d none n).1=((HT.sIx n 0 lo:Nat):Int)/\(jc lo d none n).2.1=((HT.sIx n n d:Nat):Int)/\(jc lo d none n).2.2=1:=by
 refine⟨?_,?_,rfl⟩
 .cases lo with
  |none=>simp[jc,HT.sIx]
  |some i=>
   simp only[jc,HT.sIx,Option.getD_none,show(1:Int)>0 by decide,if_true];by_cases h:i<0
   .simp only[h,if_true]<;>lia
   .simp only[h,if_false]<;>lia
 .cases d with
  |none=>simp[jc,HT.sIx]
  |some i=>
   simp only[jc,HT.sIx,Option.getD_none,show(1:Int)>0 by decide,if_true];by_cases h:i<0
   .simp only[h,if_true]<;>lia
   .simp only[h,if_false]<;>lia
def qM (its:List ae)(lo d:Option Int):slicePick its.toArray lo d none=((its.drop (HT.sIx its.length 0 lo)).take (HT.sIx its.length its.length d-HT.sIx its.length 0 lo)).toArray:=by obtain⟨e,f,g⟩:=uJ lo d its.toArray.size;unfold slicePick;rw[e,f,g];simp only[sliceRange_one,pick_run,aAm]<;>rfl
def tw (K:lb):V->Option Int->Option Int->Hp->VK->Prop:=λx lo d H Q=>∃a Y,x=.ref a/\N2 K H a Y/\∀p,H p=none->Q (.ref p) (upd H p<|.lst (zF Y lo d))
def RO:YW X (tw X.K):=by intro e s σ H x v p t lo d u Q I g i j k h;obtain⟨a,Y,rfl,l,q⟩:=h;cases g;obtain⟨m,r,f,n⟩:=I.list l;have hlen:=r.length;refine⟨"list",_,slot_list_getitem.lookup,f.isList.typeIs,?_⟩;refine wpAny_getItem_list_slice f.isList i j k .none (by simp) ?_ (by rw[aAm]<;>lia);rw[qM,<-hlen];refine⟨.ref s.heap.objs.size,_,I.laid (t':=s.toks) (o:=.lst (zF Y lo d)) (λb w q=>aAc _ q) (aAg _) ?_,rfl,q _ (I.hok.fresh<|aAg _)⟩;exact⟨aAp (kK Y lo d) n,_,0,(r.drop<|HT.sIx Y.length 0 lo).take (HT.sIx Y.length Y.length d-HT.sIx Y.length 0 lo),aAn _ rfl⟩
def qj:V->Bool
 |.non=>true
 |.bl _=>true
 |.int _=>true
 |.str _=>true
 |_=>false
def gG:xA X (.builtin "len") (λY H Q=>∃p e,Y=[.ref p]/\(N2 X.K H p e\/T8 X.K H p e)/\Q (.int e.length) H):=by
 intro k s σ H Y n Q I r h;obtain⟨p,e,rfl,f,q⟩:=h;obtain⟨u,rfl,l⟩:=vals1 r;cases l;have o:=vI;rcases f with f|f
 .obtain⟨g,i,j,m⟩:=I.list f;have d:=i.length;exact Calls.call_len_list j.isList (by simp only[aAm]<;>lia) ⟨.int e.length,H,I.tok _,⟨s.toks+1,by rw[aAm,d]⟩,q⟩
 .obtain⟨g,i,j,m⟩:=I.tuple f;have d:=i.length;exact len_tuple j (by simp only[aAm]<;>lia) ⟨.int e.length,H,I.tok _,⟨s.toks+1,by rw[aAm,d]⟩,q⟩
def gR:xA X (.type "list") (λY H Q=>∃p g,Y=[.ref p]/\(N2 X.K H p g\/T8 X.K H p g)/\∀l,H l=none->Q (.ref l) (upd H l (.lst g))):=by
 intro k s σ H Y L Q I r h;obtain⟨p,g,rfl,m,q⟩:=h;obtain⟨u,rfl,J⟩:=vals1 r;cases J;have t:∀(d:List ae),l9 g d->g.length<=sizeLine->∀(f:de) (i:Nat),(∀b E,s.heap.get? b=some E->f.get? b=some E)->
   f.get? s.heap.objs.size=some {cls:=.type "list",dict:=none,data:=.seq d.toArray i,slots:=#[]}->EP X k σ Q (.ref s.heap.objs.size) {s with heap:=f}:=λd j v f i x e=>
  ⟨.ref s.heap.objs.size,_,I.laid (t':=s.toks) x (aAg _) (show ObjOk X.prog X.w _ f _ (.lst g)from⟨v,d,i,j,e⟩),rfl,q _ (I.hok.fresh<|aAg _)⟩
 rcases m with m|m
 .obtain⟨d,j,z,v⟩:=I.list m;have y:=j.length;obtain⟨o,A,B,n,C⟩:=z.isList;exact call_list_seq p (.inl rfl) A B C (λf i x e=>t d j v f i x e) (by simp only[aAm]<;>lia)
 .obtain⟨d,j,z,v⟩:=I.tuple m;have y:=j.length;obtain⟨o,A,B,n,C⟩:=z;exact call_list_seq p (.inr rfl) A B C (λf i x e=>t d j v f i x e) (by simp only[aAm]<;>lia)
def eU:xA X (.type "tuple") (λY H Q=>∃p g,Y=[.ref p]/\((N2 X.K H p g/\∀l,H l=none->Q (.ref l) (upd H l (.tup g)))\/(T8 X.K H p g/\Q (.ref p) H))):=by
 intro d s σ H Y A Q I r h;obtain⟨p,g,rfl,h⟩:=h;obtain⟨u,rfl,x⟩:=vals1 r;cases x;rcases h with⟨j,q⟩|⟨j,q⟩
 .obtain⟨f,k,m,n⟩:=I.list j;have t:=k.length;refine call_tuple_list m.isList (λi y=>?_) (by simp only[aAm]<;>lia);have v:Inv X d σ H {s with heap:=i}:=I.kept (t':=s.toks) y;have z:Inv X d σ (upd H i.objs.size<|.tup g) {s with heap:=i.push {cls:=.type "tuple",data:=.seq f.toArray}}:=
   v.laid (t':=s.toks) (λb o e=>aAc _ e) (aAg _) (show ObjOk X.prog X.w _ _ _ (.tup g)from⟨n,f,k,IsTup.new _ _⟩)
  exact⟨.ref i.objs.size,_,z,rfl,q _ (v.hok.fresh<|aAg _)⟩
 .obtain⟨f,k,m,n⟩:=I.tuple j;exact call_tuple_same m ⟨.ref p,H,I,rfl,q⟩
def tyV (K : lb) (T : String) (x : V) (H : Hp) : Prop := match x with
  | .str _ => T = "str"
  | .int _ => T = "int"
  | .ref p => (T = "list" ∧ ∃ Y, N2 K H p Y) ∨ (T = "tuple" ∧ ∃ o, K.lookup p = some o ∧ o.cls = .type "tuple" ∧ o.dict = none) ∨
      (T = "dict" ∧ ((∃ J, H p = some (.dK J)) ∨ ∃ J, H p = some (.dT J))) ∨ (T = "set" ∧ ∃ S n, H p = some (.set S n))
  | _ => False
def PV (I:Inv X k σ H s)(r:RelV x v)(g:tyV X.K T x H):
  s.TypeIs v T/\∀a,v=.ref a->∃l,s.heap.get? a=some l/\l.dict=none:=by
 cases x with
 |str z=>obtain⟨t,rfl⟩:=r;cases(show T= "str"from g);exact⟨typeIs_str s z t,λ_ e=>nomatch e⟩
 |int i=>obtain⟨t,rfl⟩:=r;cases(show T= "int"from g);exact⟨typeIs_int s i t,λ_ e=>nomatch e⟩
 |ref p=>
  cases r;rcases g with⟨rfl,Y,q⟩|⟨rfl,o,d,u,h⟩|⟨rfl,d⟩|⟨rfl,S,n,d⟩
  .obtain⟨w,_,m,_⟩:=I.list q;refine⟨m.isList.typeIs,λa e=>?_⟩;cases e;obtain⟨o,n,e,c,h,_⟩:=m;exact⟨o,e,h⟩
  .refine⟨⟨o,I.kIn p o d,u⟩,λa e=>?_⟩;cases e;exact⟨o,I.kIn _ o d,h⟩
  .have z:∃o,s.heap.get? p=some o/\o.ExactDict:=by
    rcases d with⟨J,d⟩|⟨J,d⟩
    .obtain⟨_,_,_,_,o,_,_,e,f,_⟩:=I.hok p _ d;exact⟨o,e,f⟩
    .obtain⟨_,_,_,_,o,_,_,e,f,_⟩:=I.hok p _ d;exact⟨o,e,f⟩
   obtain⟨o,e,f⟩:=z;refine⟨⟨o,e,f.1⟩,λa j=>?_⟩;cases j;exact⟨o,e,f.2.1⟩
  .obtain⟨o,_,_,_,e,f,_⟩:=I.hok p _ d;refine⟨⟨o,e,f.1⟩,λa j=>?_⟩;cases j;exact⟨o,e,f.2.1⟩
 |_=>exact aAh g
def a1j (K:lb)(T:String)(r:V->List V->Hp->VK->Prop)(e:TE):TE:=λσ H Q=>e σ H λx d=>tyV K T x d/\r x [] d Q
def tBM (K:lb)(T:String)(r:V->List V->Hp->VK->Prop)(e:TE)(t:TA):TE:=λσ H Q=>e σ H λx d=>tyV K T x d/\t σ d λY f=>r x Y f Q
variable{o e:dm} {es:List dm} {to:TE} {t:TA} {name:Str} {apos ag:Pos} {T id:String} {r:V->List V->Hp->VK->Prop}
def JT (j:PlainAttrs T)(slot:Slot T name id)(f:typeOf (.builtin id)=pure (.type "method_descriptor"))(k:MtR X id r)(l:PE X o to)
  (m:fh o name X.env (d3 o X.env)=d3 o X.env:=by rfl) (n:(apos.endLine==ag.line)=true:=by rfl):PE X (.Call (.Attribute o name apos) [] [] ag) (a1j X.K T r to):=by
 intro d s σ H Q I h;refine wpAny_Call_method0_late m n (D4 (l d s σ H _ I h) λv p ⟨x,q,g,i,u,w⟩=>?_);obtain⟨y,z⟩:=PV g i u;exact⟨T,id,j,slot,f,y,z,aEc rfl (PySem.evalArgs_none<|k d p σ q x [] v [] Q g i .nil w)⟩
def VR (k:PlainAttrs T)(slot:Slot T name id)(f:typeOf (.builtin id)=pure (.type "method_descriptor"))(l:MtR X id r)(m:PE X o to)(n:PA X (e::es) t)
  (p:fh o name X.env (d3 o X.env)=d3 o X.env:=by rfl)
  (q:((dn ag (bb (e::es) X.env)).all (λx=>!x.1)&&(backToKw ag (keywordEach [] X.env)).all (λx=>x.1.isSome)
   &&decide ((e::es).length+([]:List ka).length+(if([]:List ka).isEmpty then 0 else 1)<30))=true:=by rfl)
  (u:(apos.endLine==ag.line)=true:=by rfl) (w:bb (e::es) X.env=(false,d3 e X.env)::bb es X.env:=by rfl) (y:(dn ag (bb es X.env)).any (·.1)=false:=by rfl):
  PE X (.Call (.Attribute o name apos) (e::es) [] ag) (tBM X.K T r to t):=by
 intro d s σ H Q I h;refine wpAny_Call_method_late p q u rfl (D4 (m d s σ H _ I h) λv z ⟨x,A,g,i,B,C⟩=>?_);obtain⟨E,J⟩:=PV g i B;refine⟨T,id,k,slot,f,E,J,?_⟩;have j:=n ag d z σ A _ g C;rw[w]at j⊢;refine aEc (by show(false||(dn ag<|bb es X.env).any (·.1))=false;rw[y]<;>rfl) (aGh ?_);exact D4 j λL N ⟨O,U,Y,r2,q2⟩=>l d N σ U x O v L Q Y i r2 q2
end
def MtM (X:Cx)(id:String)(r:V->List V->Hp->VK->Prop):Prop:=
 ∀(a:N3) (s:be) (σ:St) (H:Hp) (x:V) (Y:List V) (v:ae) (b:List ae) (Q:VK),Inv X a σ H s->RelV x v->l9 Y b->r x Y H Q->
  a9 (cq X.prog X.w) X.A (call (.builtin id) (v::b)) (EP X a σ Q) X.xe s
theorem l9.one:∀{x:V} {a:List ae},l9 [x] a->∃u,a=[u]/\RelV x u
 |_,_,.cons r .nil=>⟨_,rfl,r⟩
theorem l9.zero:∀{a:List ae},l9 [] a->a=[]
 |_,.nil=>rfl
def l9.dropLast (h:l9 Y a):l9 Y.dropLast a.dropLast:=by
 induction h with
 |nil=>exact .nil
 |cons r t b=>
  cases t with
  |nil=>exact .nil
  |cons q d=>exact .cons r b
def AL {α:Type}(l:List α):l.eraseIdx (l.length-1)=l.dropLast:=by
 induction l with
 |nil=>rfl
 |cons a r d=>
  cases r with
  |nil=>rfl
  |cons b r=>
   have e:(a::b::r).length-1=((b::r).length-1)+1:=by
    have f:(a::b::r).length=r.length+2:=rfl;have g:(b::r).length=r.length+1:=rfl
    lia
   rw[e,aFC,d]
   all_goals rfl
section
variable{X:Cx} {pins:N3} {σ:St} {H:Hp} {s:be} {l b:cp} {Y ys zs:List V}
def Inv.af3 {its its':List ae}{n:Nat}{f:Array ae->Array ae}{t':Nat}(I:Inv X pins σ H s)(a:H l=some (.lst Y))
  (e:s.heap.get? l=some {cls:=.type "list",data:=.seq its.toArray n}) (d:f its.toArray=its'.toArray) (g:l9 ys its') (hz:ys.length<=sizeLine):
  Inv X pins σ (upd H l (.lst ys)) {s with heap:=s.heap.update l (aBG f),toks:=t'}:=by
 have q:=PySem.IsL.update e f;rw[d]at q;refine I.write (x:=l) (e:=l) (by rw[a];exact trivial) (.inl rfl) (λj u h i=>(aAx s.heap (aBG f)<|aBV h).trans i) ⟨_,q⟩ ?_;exact⟨hz,its',_,g,q⟩
def Inv.ag2 (I:Inv X pins σ H s)(a:l9 ys its)(hz:ys.length<=sizeLine):
  Inv X pins σ (upd H s.heap.objs.size (.lst ys)) {s with heap:=s.heap.push {cls:=.type "list",data:=.seq its.toArray},toks:=t'}:=
 I.laid (λ_ _ q=>aAc _ q) (aAg _) ⟨hz,its,0,a,aAn _ rfl⟩
def Inv.fresh (I:Inv X pins σ H s):H s.heap.objs.size=none:=I.hok.fresh (aAg _)
def Inv.af6 (I:Inv X pins σ H s)(a:H l=some (.lst Y)):Y.length<=sizeLine/\∃(its:List ae) (n:Nat),l9 Y its/\Y.length=its.length/\s.heap.get? l=some {cls:=.type "list",data:=.seq its.toArray n}:=by obtain⟨z,its,n,r,e⟩:=I.hok l _ a;exact⟨z,its,n,r,r.length,e⟩
def KQ (h:n<=sizeLine):aCZ n=false:=by unfold aCZ;exact decide_eq_false (by lia)
end
section
variable{X:Cx}
def QQ:V->List V->Hp->VK->Prop:=λx a H Q=>∃l Y y,x=.ref l/\a=[y]/\H l=some (.lst Y)/\Y.length<sizeLine/\Q .non (upd H l<|.lst (Y++[y]))
def tQ:MtM X "list.append" QQ:=by
 intro b s σ H x j v k Q I f g h;obtain⟨l,Y,y,rfl,rfl,d,m,q⟩:=h;cases f;obtain⟨u,rfl,i⟩:=g.one;obtain⟨z,a,n,r,o,e⟩:=I.af6 d;refine call_meets F.slot_list_append ⟨_,e,rfl⟩ F.entry_list_append (F.args_list_append_2 _ _) (PySem.list_append l a.toArray n u (by rw[aAm];lia)) ⟨e,?_⟩;refine⟨.non,_,I.af3 (its':=a++[u]) d e (by simp) (r.append<|.cons i .nil) ?_,rfl,q⟩;rw[aAC,aFR]
 lia
def a1x:V->List V->Hp->VK->Prop:=λx a H Q=>∃l Y y,x=.ref l/\a=[]/\H l=some (.lst Y)/\Y[Y.length-1]?=some y/\Q y (upd H l<|.lst Y.dropLast)
def PQ:MtM X "list.pop" a1x:=by
 intro f s σ H x t v w Q I i j h;obtain⟨l,Y,y,rfl,rfl,g,k,q⟩:=h;cases i;have b:=j.zero;subst b;obtain⟨z,a,n,r,m,e⟩:=I.af6 g;obtain⟨u,o,p⟩:=r.get k;have d:a.toArray[a.toArray.size-1]?=some u:=by show a.toArray[a.length-1]?=some u;rw[<-aAE,<-m];exact o
 refine call_meets F.slot_list_pop ⟨_,e,rfl⟩ F.entry_list_pop (F.args_list_pop_1 _) (MeetsSeq.list_pop_last l a.toArray n u d (by rw[aAm];lia)) ⟨e,?_⟩;refine⟨y,_,I.af3 (its':=a.dropLast) g e ?_ r.dropLast ?_,p,q⟩
 .show a.toArray.eraseIdxIfInBounds (a.toArray.size-1)=a.dropLast.toArray;rw[aAm,List.eraseIdxIfInBounds_toArray,AL]
 .rw[aGi]
  lia
end
section
variable{prog:cu} {w:cz} {A:cy} {E:A3} {s:be}
end
section
variable{X:Cx}
end
end L2
namespace Att
open PySem PySem.W PySem.Calls PyProof.Rows
def lO:∀(ns:List Int) (vs:List ae),WellAll P h vs (ns.map WData.int)->IntsAre vs ns:=by
 intro ns;induction ns with
 |nil=>intro vs w;rw[aGa]at w;cases w;exact .nil
 |cons n ns d=>
  intro vs w;rw[aAv]at w;cases w with
  |cons a b=>cases a;exact .cons _ _ (d _ b)
def script_of {l:OpenLaw}{n:Nat}(m:l.most=some n){P:Params}{h:de}{args:List WData}{b:List ae}
  (j:l.row.toRowW.claim.pre args=true) (o:WellAll P h b args):
  ∃a vs ns,b=[aDC a]/\args=[WData.list (ns.map WData.int)]/\h.get? a=some {cls:=.type "list",data:=.seq vs.toArray}/\IntsAre vs ns/\ns.length<=n:=by
 have i:WShape.hasAll [] args [.list .int]=true:=(pre_splitW j).1;have k:l.pre.holds [] {args:=args}=true:=(pre_splitW j).2;obtain⟨d,r,rfl,p,s⟩:=hasAllW_cons i;obtain rfl:=hasAllW_nil s;obtain⟨Y,rfl,t⟩:=hasW_list p;obtain⟨ns,rfl⟩:=items_int t;have e:ns.length<=n:=by
  unfold OpenLaw.pre at k;have f:(WTm.not<|.lt (.lit (.int (n:Int))) (.len (.arg 0))).holds [] {args:=[.list (ns.map .int)]}=true:=by have f:=(holds_andW k).1;rw[m]at f;exact f
  have g:=condW_of f (w_not<|w_lt w_lit<|w_len_list<|w_arg rfl);rw[aAi]at g;refine aEt λq=>?_;have u:(n:Int)<((ns.length:Nat):Int):=by lia
  first
   |(rw[decide_eq_true u]at g;exact absurd g (by decide))
   |(simp at g;lia)
 cases o with
 |cons v w=>
  cases w;cases v with
  |list x y=>exact⟨_,_,ns,rfl,rfl,x,lO ns _ y,e⟩
def post_true (l:OpenLaw)(args:List WData):l.row.toRowW.claim.post args (.bool true) args=true:=
 postW_of (r:=l.row.toRowW) (X:=(true==true))
  (show WShape.has [] (.bool true) .bool=true by first|rfl|decide|simp[WShape.has,WShape.arms,WShape.armsAll])
  (show(WTm.eq .res (.lit (.bool true))).value [] {args:=args,res:=some (.bool true),after:=args}=some (.bool (true==true))from w_eq_bool (w_res rfl) w_lit) rfl
section
variable{prog:cu} {w:cz} {A:cy} {E:A3} {s:be} {K:Frag}
def a1m (h:de)(L d:cp):List (cp×Obj):=(aBv h.objs.size).filterMap λa=>if a=L\/a=d then none else(h.get? a).map λo=>(a,o)
end
end Att
namespace L2
open PySem PySem.Spec PyProof.Rows
theorem rL:∀{vs:List ae} {ns:List Int},IntsAre vs ns->l9 (ns.map V.int) vs
 |_,_,.nil=>.nil
 |_,_,.cons n t h=>.cons ⟨t,rfl⟩ (rL h)
def E8 (s:dC):Arguments:=match s with
 |.FunctionDef _ a _ _ _ _ _ _ _ _=>a
 |_=>{posonlyargs:=[],args:=[],vararg:=none,kwonlyargs:=[],kw_defaults:=[],kwarg:=none,defaults:=[]}
def t5 (s:dC):List dC:=match s with
 |.FunctionDef _ _ b _ _ _ _ _ _ _=>b
 |_=>[]
def c9 (s:dC):kb:=match s with
 |.FunctionDef _ _ _ _ _ _ a _ _ _=>a
 |_=>{kind:=.function,names:=[],isGenerator:=false,isCoroutine:=false}
abbrev wG:QG:=λ_ _ _ _ _ _=>False
abbrev E0:XK:=λ_ _ _=>False
def zk:CF wG X E0:=λ_ _ _ _ _ _ _ h=>h.elim
structure Fun (K:PySem.W.Frag)(x qual:Str)(st:Stmt)(f:Addr)(fd:FuncData):Prop where
 ex:∃(oc:Value) (od:Option Addr) (kV doc pm:Value) (an:Option Addr) (L ct:Value) (osl:Array (Option Value)),
  fd=PySem.W.fnOf x qual (E8 st) (t5 st) (c9 st) .none kV doc pm an L ct/\K.lookup f=some ⟨oc,od,.func fd,osl⟩/\PySem.W.codeIn K L qual=true
 kp:PySem.W.keepIn K (.ref f)=true
section
variable{P:cu} {w:cz} {K:lb} {mg:cE} {base:de}
def Fun.ok {x qual:Str}{st:dC}{f:cp}{fd:ek}{N ps:List Str}{k:Nat}{b:Sp}(F:Fun K x qual st f fd)(S:FnScope N ps (c9 st))(len:∀vs H Q E,b vs H Q E->vs.length=ps.length)
  (e:∀(L:ae) (A:cy) (a:List Env) (s:be) (H:Hp) (vs:List V) (Q:VK) (E:XK),Room k (A.deeper (envOfC qual (c9 st) s.heap.objs.size f L))->b vs H Q E->
   ∃t,tZ (CG wG P w K mg base N qual (c9 st) f L A a s H E).nox (t5 st) t/\t {nx:=λ_ H'=>Q .non H',rt:=Q} (start N vs) H):FnOk P w K mg base wG (k+1) f fd ps b:=by
 obtain⟨m,n,kV,g,o,p,L,r,i,rfl,lk,j⟩:=F.ex;refine WO lk j S len λA a s H vs Q E l d=>?_;obtain⟨t,h,q⟩:=e L A a s H vs Q E l d;exact⟨t,h.nox,q⟩
def Fun.binds {x qual:Str}{st:dC}{f:cp}{fd:ek}{ps:List Str}(F:Fun K x qual st f fd)
  (h:∀(kV a b:ae) (d:Option cp) (L ct:ae) (e:List ae),e.length=ps.length->bindArgs (PySem.W.fnOf x qual (E8 st) (t5 st) (c9 st) .none kV a b d L ct) ⟨e,[]⟩=pure (ps.zip e)):Binds K fd ps []:=by
 obtain⟨i,j,kV,a,b,d,L,ct,g,rfl,lk,k⟩:=F.ex;exact .all (h kV a b d L ct)
def LK {x qual:Str}{st:dC}{f:cp}{g:ae}{h d:Option cp}{b:Array (Option ae)}{kV a e L ct:ae}(l:K.lookup f=some ⟨g,h,.func (PySem.W.fnOf x qual (E8 st) (t5 st) (c9 st) .none kV a e d L ct),b⟩)
 (c:PySem.W.codeIn K L qual=true) (k:PySem.W.keepIn K (.ref f)=true):Fun K x qual st f (PySem.W.fnOf x qual (E8 st) (t5 st) (c9 st) .none kV a e d L ct):=⟨⟨g,h,kV,a,e,d,L,ct,b,rfl,l,c⟩,k⟩
end
section
variable{X:Cx}
end
def Same (H H':Hp):Prop:=∀b o,H b=some o->H' b=some o
def Same.refl (H:Hp):Same H H:=λ_ _ h=>h
def Same.trans (a:Same H d)(b:Same d e):Same H e:=λc o h=>b c o (a c o h)
def Same.seq {K:lb}{H H':Hp}{a:cp}{Y:List V}(e:Same H H')(h:N2 K H a Y):N2 K H' a Y:=by
 rcases h with(h|⟨o,h⟩)|h
 .exact .inl (.inl (e _ _ h))
 .exact .inl (.inr ⟨o,e _ _ h⟩)
 .exact .inr h
end L2
namespace DL
open PySem PySem.Spec L2
open PyProof.Rows hiding St
section
inductive D where
 |non|bl (b:Bool)|int (i:Int)|str (x:Str)|tup (Y:List D)|lst (Y:List D)|dct
mutual
def n9:D->Int
 |.int i=>hashInt i
 |.tup Y=>reduceHash (aAS (vW Y))
 |_=>0
def vW:List D->List Int
 |[]=>[]
 |x::Y=>n9 x::vW Y
end
def L5:Nat->D->Bool
 |_,.int _=>true
 |n+1,.tup Y=>Y.all (L5 n)
 |_,_=>false
inductive R (α:Type)where
 |ok (a:α)|ex (e:Str)|bad
def R.bind {α β:Type}:R α->(α->R β)->R β
 |.ok a,f=>f a
 |.ex e,_=>.ex e
 |.bad,_=>.bad
@[simp]def R.aa0 {α β:Type}(a:α)(f:α->R β):(R.ok a).bind f=f a:=rfl
section
variable(K:lb) (H:Hp) (O:cp->Prop)
mutual
inductive Rep:V->D->Prop
 |non:Rep .non .non
 |bl {b:Bool}:Rep (.bl b) (.bl b)
 |int {i:Int}:Rep (.int i) (.int i)
 |str {x:Str}:Rep (.str x) (.str x)
 |tup {a:Addr} {vs:List V} {ds:List D} (h:T8 K H a vs) (r:Reps vs ds):Rep (.ref a) (.tup ds)
 |lst {a:Addr} {vs:List V} {ds:List D} (h:N2 K H a vs) (n:¬O a) (r:Reps vs ds):Rep (.ref a) (.lst ds)
 |dct {a:Addr} {o:Obj} (h:H a=some (.ext λh=>h.get? a=some o)) (x:o.ExactDict) (n:¬O a):Rep (.ref a) .dct
inductive Reps:List V->List D->Prop
 |nil:Reps [] []
 |cons {v:V} {d:D} {vs:List V} {ds:List D} (h:Rep v d) (t:Reps vs ds):Reps (v::vs) (d::ds)
end
end
section
variable{K:lb}
def _root_.L2.Same.tup {a:cp}{Y:List V}(e:Same H H')(h:T8 K H a Y):T8 K H' a Y:=by
 rcases h with(h|⟨o,h⟩)|h
 .exact .inl (.inl (e _ _ h))
 .exact .inl (.inr ⟨o,e _ _ h⟩)
 .exact .inr h
mutual
theorem Rep.mono (f:∀a Y,T8 K H a Y->T8 K H' a Y)(b:∀a Y,¬O a->N2 K H a Y->¬g a/\N2 K H' a Y)(e:∀a φ,¬O a->H a=some (.ext φ)->¬g a/\H' a=some (.ext φ)):∀{v:V} {d:D},Rep K H O v d->Rep K H' g v d
 |_,_,.non=>.non
 |_,_,.bl=>.bl
 |_,_,.int=>.int
 |_,_,.str=>.str
 |_,_,.tup h r=>.tup (f _ _ h) (Reps.mono f b e r)
 |_,_,.lst h n r=>.lst (b _ _ n h).2 (b _ _ n h).1 (Reps.mono f b e r)
 |_,_,.dct h x n=>.dct (e _ _ n h).2 x (e _ _ n h).1
theorem Reps.mono (b:∀a Y,T8 K H a Y->T8 K H' a Y)(d:∀a Y,¬O a->N2 K H a Y->¬e a/\N2 K H' a Y)(f:∀a φ,¬O a->H a=some (.ext φ)->¬e a/\H' a=some (.ext φ)):∀{vs:List V} {ds:List D},Reps K H O vs ds->Reps K H' e vs ds
 |_,_,.nil=>.nil
 |_,_,.cons h t=>.cons (Rep.mono b d f h) (Reps.mono b d f t)
end
def Rep.same (e:Same H H')(r:Rep K H O v d):Rep K H' O v d:=r.mono (λ_ _ h=>e.tup h) (λ_ _ n h=>⟨n,e.seq h⟩) λ_ _ n h=>⟨n,e _ _ h⟩
def Reps.same (e:Same H H')(r:Reps K H O v d):Reps K H' O v d:=r.mono (λ_ _ h=>e.tup h) (λ_ _ n h=>⟨n,e.seq h⟩) λ_ _ n h=>⟨n,e _ _ h⟩
def Rep.sub (e:∀a,b a->O a)(r:Rep K H O v d):Rep K H b v d:=r.mono (λ_ _ h=>h) (λ_ _ n h=>⟨λz=>n (e _ z),h⟩) λ_ _ n h=>⟨λz=>n (e _ z),h⟩
def Reps.sub (e:∀a,b a->O a)(r:Reps K H O v d):Reps K H b v d:=r.mono (λ_ _ h=>h) (λ_ _ n h=>⟨λz=>n (e _ z),h⟩) λ_ _ n h=>⟨λz=>n (e _ z),h⟩
theorem Reps.length:∀{vs:List V} {ds:List D},Reps K H O vs ds->vs.length=ds.length
 |_,_,.nil=>rfl
 |_,_,.cons _ t=>by simp[Reps.length t]
theorem Reps.get:∀{vs:List V} {ds:List D} {i:Nat} {d:D},Reps K H O vs ds->ds[i]?=some d->∃v,vs[i]?=some v/\Rep K H O v d
 |_,_,_,_,.nil,e=>by simp at e
 |_,_,0,_,.cons r _,e=>by simp at e;subst e;exact⟨_,rfl,r⟩
 |_,_,i+1,d,.cons _ t,e=>by obtain⟨u,a,b⟩:=Reps.get (i:=i) (d:=d) t (by simpa using e);exact⟨u,by simpa using a,b⟩
theorem Reps.append:∀{vs ws:List V} {ds es:List D},Reps K H O vs ds->Reps K H O ws es->Reps K H O (vs++ws) (ds++es)
 |_,_,_,_,.nil,s=>s
 |_,_,_,_,.cons r t,s=>.cons r (Reps.append t s)
theorem Reps.take:∀{vs:List V} {ds:List D} (n:Nat),Reps K H O vs ds->Reps K H O (vs.take n) (ds.take n)
 |_,_,0,_=>.nil
 |_,_,_+1,.nil=>.nil
 |_,_,n+1,.cons r t=>.cons r (Reps.take n t)
theorem Reps.drop:∀{vs:List V} {ds:List D} (n:Nat),Reps K H O vs ds->Reps K H O (vs.drop n) (ds.drop n)
 |_,_,0,r=>r
 |_,_,_+1,.nil=>.nil
 |_,_,n+1,.cons _ t=>Reps.drop n t
theorem Reps.set (r:Rep K H O v d):∀{vs:List V} {ds:List D} (i:Nat),Reps K H O vs ds->Reps K H O (vs.set i v) (ds.set i d)
 |_,_,_,.nil=>.nil
 |_,_,0,.cons _ t=>.cons r t
 |_,_,i+1,.cons q t=>.cons q (Reps.set r i t)
def Reps.dropLast (r:Reps K H O vs ds):Reps K H O vs.dropLast ds.dropLast:=by rw[aEq,aEq,r.length];exact r.take _
def Reps.snoc (r:Reps K H O vs ds)(h:Rep K H O v d):Reps K H O (vs++[v]) (ds++[d]):=r.append (.cons h .nil)
theorem Reps.ints:∀(ns:List Int),Reps K H O (ns.map V.int) (ns.map D.int)
 |[]=>.nil
 |_::ns=>.cons .int (Reps.ints ns)
theorem Reps.reverse:∀{vs:List V} {ds:List D},Reps K H O vs ds->Reps K H O vs.reverse ds.reverse
 |_,_,.nil=>.nil
 |_,_,.cons r t=>by rw[aAP,aAP];exact(Reps.reverse t).snoc r
end
def Kp (H:Hp)(O:cp->Prop)(H':Hp)(a:cp->Prop):Prop:=∀b o,H b=some o->¬O b->H' b=some o/\¬a b
section
def Kp.refl (H:Hp)(O:cp->Prop):Kp H O H O:=λ_ _ h n=>⟨h,n⟩
def Kp.of (s:Same H H'):Kp H O H' O:=λb o h n=>⟨s b o h,n⟩
def Kp.trans (a:Kp H O H' f)(b:Kp H' f d e):Kp H O d e:=λc o h n=>let⟨g,i⟩:=a c o h n;b c o g i
end
class Tabs where
 tbs:List (Addr×List (Pos×Str))
inductive Sl where
 |no|v (d:D)|o (Y:List D)|x (C:Value)|c (m:List D->R D) (φ:Hp->(Addr->Prop)->Addr->Prop)|d (J:List (D×D))
abbrev Ev:=List Sl
def Mt:HO->Prop
 |.lst _=>True
 |.dK _=>True
 |.dT _=>True
 |.ext _=>True
 |_=>False
def iS (K:lb)(H:Hp)(O:cp->Prop)(es:List gn)(J:List (D×D)):Prop:=
 Paired (λ(e:gn) (p:D×D)=>(∃a,e.key=.ref a/\Rep K H O (.ref a) p.1)/\(∃v,RelV v e.val/\Rep K H O v p.2)/\e.hash=n9 p.1/\L5 7 p.1=true) es J
def AX (a:cp)(o:Obj)(es:List gn):Prop:=(a==h9)=false/\o.ExactDict/\∃b d,o.data=.dict b d/\b.toList=es
def IE:Sl->Prop
 |.o _=>True
 |.d _=>True
 |_=>False
section
variable(K:lb) (H9 H:Hp) (O:cp->Prop)
def bP (x:Option (Option V)):Sl->Prop
 |.no=>True
 |.v d=>∃v,x=some (some v)/\Rep K H O v d
 |.o Y=>∃a b,x=some (some (V.ref a))/\O a/\H9 a=none/\H a=some (.lst b)/\Reps K H O b Y
 |.x C=>∃a o,x=some (some (V.ref a))/\H a=some (.frz o (.own a))/\o.cls=C
 |.c m φ=>∃a,x=some (some (V.ref a))/\∀e f,Kp H O e f->φ e f a
 |.d J=>∃a o g,x=some (some (V.ref a))/\O a/\H9 a=none/\H a=some (.ext λh=>h.get? a=some o)/\AX a o g/\iS K H O g J/\(J.map (·.1)).Nodup
end
variable [Tabs]
def Tb (H:Hp):Prop:=∀p∈Tabs.tbs,H p.1=some (.tbl p.2)
structure EnvOk (K:PySem.W.Frag)(H9:Hp)(O0:Addr->Prop)(H:Hp)(O:Addr->Prop)(σ:St)(ρ:Ev):Prop where
 len:σ.length=ρ.length
 same:Same H9 H
 sub:∀a,O0 a->O a
 trk:∀a,O a->∃o,H a=some o/\Mt o
 trk0:∀a,O0 a->∃o,H9 a=some o
 tab:Tb H
 slot:∀(i:Nat) (sl:Sl),ρ[i]?=some sl->bP K H9 H O σ[i]? sl
 inj:∀(i j:Nat) (x y:Sl) (a:Addr),ρ[i]?=some x->ρ[j]?=some y->IE x->IE y->σ[i]?=some (some (V.ref a))->σ[j]?=some (some (V.ref a))->i=j
section
variable{K:lb} {O0 O O':cp->Prop}
def Tb.same (h:Tb H)(s:Same H H'):Tb H':=λp a=>s _ _ (h p a)
def EnvOk.val (E:EnvOk K a O0 H O σ ρ)(i:Nat)(d:D)(h:ρ[i]?=some (Sl.v d)):∃v,σ[i]?=some (some v)/\Rep K H O v d:=E.slot i _ h
def EnvOk.own (E:EnvOk K b O0 H O σ ρ)(i:Nat)(Y:List D)(h:ρ[i]?=some (Sl.o Y)):∃a vs,σ[i]?=some (some (V.ref a))/\O a/\b a=none/\H a=some (.lst vs)/\Reps K H O vs Y:=E.slot i _ h
def iS.mono (f:∀{v:V} {d:D},Rep K H O v d->Rep K H' O' v d):∀{J:List (D×D)},iS K H O es J->iS K H' O' es J:=λ{_} r=>Paired.af7 r λ_ _ ⟨⟨v,a,b⟩,⟨w,e,g⟩,h⟩=>⟨⟨v,a,f b⟩,⟨w,e,f g⟩,h⟩
def bP.move (h:bP K y H O x sl)(i:∀a Y,T8 K H a Y->T8 K H' a Y)(j:∀a Y,¬O a->N2 K H a Y->¬O' a/\N2 K H' a Y)(z:∀a o u,H a=some (.frz o u)->H' a=some (.frz o u))(l:Kp H O H' O')(w:IE sl->∀a o,x=some (some (V.ref a))->O a->H a=some o->O' a/\H' a=some o):bP K y H' O' x sl:=by
 have p:∀a φ,¬O a->H a=some (.ext φ)->¬O' a/\H' a=some (.ext φ):=λa φ n h=>⟨(l a _ h n).2,(l a _ h n).1⟩;cases sl with
 |no=>trivial
 |v d=>obtain⟨v,b,e⟩:=h;exact⟨v,b,e.mono i j p⟩
 |o Y=>obtain⟨a,A,b,e,f,q,s⟩:=h;obtain⟨g,t⟩:=w trivial a _ b e q;exact⟨a,A,b,g,f,t,s.mono i j p⟩
 |x C=>obtain⟨a,o,b,e,f⟩:=h;exact⟨a,o,b,z _ _ _ e,f⟩
 |c m φ=>obtain⟨a,b,e⟩:=h;exact⟨a,b,λB E k=>e B E (l.trans k)⟩
 |d J=>obtain⟨a,o,I,b,e,f,q,s,g⟩:=h;obtain⟨t,L⟩:=w trivial a _ b e q;exact⟨a,o,I,b,t,f,L,s,g.1.mono λr=>r.mono i j p,g.2⟩
def bP.grow (h:bP K a H O x sl)(e:Same H H'):bP K a H' O x sl:=
 h.move (λ_ _ q=>e.tup q) (λ_ _ n q=>⟨n,e.seq q⟩) (λ_ _ _ q=>e _ _ q) (Kp.of e) λ_ _ _ _ b d=>⟨b,e _ _ d⟩
def EnvOk.grow (E:EnvOk K b O0 H O σ ρ)(e:Same H H'):EnvOk K b O0 H' O σ ρ where
 len:=E.len
 same:=E.same.trans e
 sub:=E.sub
 trk:=λa h=>let⟨o,q,m⟩:=E.trk a h;⟨o,e a o q,m⟩
 trk0:=E.trk0
 tab:=E.tab.same e
 slot:=λi d h=>(E.slot i d h).grow e
 inj:=E.inj
def EnvOk.fresh (E:EnvOk K a O0 H O σ ρ)(h:H p=none):¬O p:=λz=>by obtain⟨o,q,_⟩:=E.trk p z;rw[h]at q;cases q
def u8 {α:Type}{l:List α}{i j:Nat}{x:α}(h:i≠j):(l.set i x)[j]?=l[j]?:=aCy h
def A9 {α:Type}{l:List α}{i:Nat}{x y:α}(h:(l.set i x)[i]?=some y):y=x/\i<l.length:=by
 have a:i<l.length:=by have:=(aAy.mp h).1;simpa using this
 rw[aBI a]at h;exact⟨(Option.some.inj h).symm,a⟩
def EnvOk.put (E:EnvOk K f O0 H O σ ρ){v:Option V}{sl:Sl}(i:Nat)(no:¬IE sl)(r:bP K f H O (some v) sl):EnvOk K f O0 H O (σ.set i v) (ρ.set i sl)where
 len:=by simpa using E.len
 same:=E.same
 sub:=E.sub
 trk:=E.trk
 trk0:=E.trk0
 tab:=E.tab
 slot:=λj s h=>by
  by_cases g:i=j
  .subst g;obtain⟨e,u⟩:=A9 h;subst e;rw[aBI (by rw[E.len];exact u)];exact r
  .rw[u8 g]at h⊢;exact E.slot j s h
 inj:=λj k x y a b d m n p t=>by
  have ne:∀(l:Nat) (z:Sl),(ρ.set i sl)[l]?=some z->IE z->i≠l:=λl z q o e=>by subst e;obtain⟨e,_⟩:=A9 q;subst e;exact no o
  have w:=ne j x b m;have A:=ne k y d n;rw[u8 w]at b p;rw[u8 A]at d t;exact E.inj j k x y a b d m n p t
def EnvOk.set (E:EnvOk K a O0 H O σ ρ)(i:Nat)(r:Rep K H O v d):EnvOk K a O0 H O (σ.set i (some v)) (ρ.set i (.v d)):=E.put i (λz=>z) ⟨v,rfl,r⟩
def bP.at_ (h:bP K i H O x sl)(o:IE sl):∃a u,x=some (some (V.ref a))/\O a/\i a=none/\H a=some u/\Mt u:=by
 cases sl with
 |o Y=>obtain⟨a,j,b,e,f,g,_⟩:=h;exact⟨a,_,b,e,f,g,trivial⟩
 |d J=>obtain⟨a,u,k,b,e,f,g,_⟩:=h;exact⟨a,_,b,e,f,g,trivial⟩
 |_=>exact o.elim
def EnvOk.af4 (E:EnvOk K t O0 H O σ ρ){a:cp}{sl:Sl}(i:Nat)(u:∀(j:Nat) (y:Sl),i≠j->ρ[j]?=some y->IE y->σ[j]?≠some (some (V.ref a)))(r:bP K t H O (some (some (V.ref a))) sl):
  EnvOk K t O0 H O (σ.set i (some (V.ref a))) (ρ.set i sl)where
 len:=by simpa using E.len
 same:=E.same
 sub:=E.sub
 trk:=E.trk
 trk0:=E.trk0
 tab:=E.tab
 slot:=λj s h=>by
  by_cases d:i=j
  .subst d;obtain⟨e,z⟩:=A9 h;subst e;rw[aBI (by rw[E.len];exact z)];exact r
  .rw[u8 d]at h⊢;exact E.slot j s h
 inj:=λj k x y b n o v w g m=>by
  have at_:∀(l:Nat),i=l->(σ.set i<|some<|V.ref a)[l]?=some (some<|V.ref b)->b=a:=λl e q=>by subst e;obtain⟨e,_⟩:=A9 q;injection e with e;injection e
  by_cases d:i=j
  .by_cases f:i=k
   .exact d.symm.trans f
   .exfalso;have p:=at_ j d g;subst p;rw[u8 f]at o m;exact u k y f o w m
  .by_cases f:i=k
   .exfalso;have p:=at_ k f m;subst p;rw[u8 d]at n g;exact u j x d n v g
   .rw[u8 d]at n g;rw[u8 f]at o m;exact E.inj j k x y b n o v w g m
def j7 (h:H p=none)(o:HO):Same H (upd H p o):=λb u q=>by rw[l4 (q9 q h)];exact q
def EnvOk.ab9 (E:EnvOk K f O0 H O σ ρ)(h:H a=none)(g:K.lookup a=none)(m:Mt u):EnvOk K f O0 (upd H a u) (λb=>O b\/b=a) σ ρ:=by
 have s:=j7 h u;have ne:∀b Y,N2 K H b Y->b≠a:=λb Y q z=>by
  subst z;rcases q with(q|⟨o,q⟩)|⟨o,_,_,q,_⟩
  .rw[h]at q;cases q
  .rw[h]at q;cases q
  .rw[g]at q;cases q
 refine⟨E.len,E.same.trans s,λb z=>.inl (E.sub b z),λb z=>?_,E.trk0,E.tab.same s,λi j e=>?_,E.inj⟩
 .rcases z with z|z
  .obtain⟨o,q,m⟩:=E.trk b z;exact⟨o,s b o q,m⟩
  .subst z;exact⟨_,j3,m⟩
 .exact(E.slot i j e).move (λ_ _ q=>s.tup q) (λb Y n q=>⟨λz=>z.elim n (ne b Y q),s.seq q⟩) (λ_ _ _ q=>s _ _ q) (λb o d n=>⟨s b o d,λz=>z.elim n λe=>by subst e;rw[h]at d;cases d⟩) λ_ b o _ k l=>⟨.inl k,s _ _ l⟩
def ZL (h:H a=none)(d:K.lookup a=none)(q:N2 K H b Y):b≠a:=λz=>by
 subst z;rcases q with(q|⟨o,q⟩)|⟨o,_,_,q,_⟩
 .rw[h]at q;cases q
 .rw[h]at q;cases q
 .rw[d]at q;cases q
def Reps.ab9 (h:H a=none)(e:K.lookup a=none)(r:Reps K H O v d):Reps K (upd H a u) (λb=>O b\/b=a) v d:=
 r.mono (λ_ _ q=>(j7 h u).tup q) (λb Y n q=>⟨λz=>z.elim n (ZL h e q),(j7 h u).seq q⟩) λb φ n q=>⟨λz=>z.elim n (q9 q h),j7 h u _ _ q⟩
def EnvOk.ae0 (E:EnvOk K f O0 H O σ ρ)(i:Nat)(h:H a=none)(k:K.lookup a=none)(m:Mt u)(r:f a=none->bP K f (upd H a u) (λb=>O b\/b=a) (some (some (V.ref a))) sl):
  EnvOk K f O0 (upd H a u) (λb=>O b\/b=a) (σ.set i (some (.ref a))) (ρ.set i sl):=by
 have l:f a=none:=by
  cases e:f a with
  |none=>rfl
  |some o=>have:=E.same a o e;rw[h]at this;cases this
 refine(E.ab9 h k m).af4 i (λj y _ e o q=>?_) (r l);obtain⟨b,w,d,_,_,g,_⟩:=(E.slot j y e).at_ o;rw[q]at d;injection d with d;injection d with d;injection d with d;subst d;rw[h]at g;cases g
def tV (h:H a=some u)(m:Mt u)(q:T8 K H b Y):T8 K (upd H a u') b Y:=by
 have ne:∀w,H b=some w->¬Mt w->b≠a:=λw e n z=>by subst z;rw[h]at e;cases e;exact n m
 rcases q with(q|⟨o,q⟩)|q
 .exact .inl (.inl (by rw[l4 (ne _ q λz=>z)];exact q))
 .exact .inl (.inr ⟨o,by rw[l4 (ne _ q λz=>z)];exact q⟩)
 .exact .inr q
def uU (d:O a)(n:¬O b)(q:N2 K H b Y):N2 K (upd H a u') b Y:=by
 have ne:b≠a:=λz=>by subst z;exact n d
 rcases q with(q|⟨o,q⟩)|q
 .exact .inl (.inl (by rw[l4 ne];exact q))
 .exact .inl (.inr ⟨o,by rw[l4 ne];exact q⟩)
 .exact .inr q
def Rep.upd (h:H a=some u)(m:Mt u)(e:O a)(r:Rep K H O v d):Rep K (upd H a u') O v d:=r.mono (λ_ _ q=>tV h m q) (λ_ _ n q=>⟨n,uU e n q⟩) λb _ n q=>⟨n,by rw[l4 (λz=>n (by rw[z];exact e))];exact q⟩
def Reps.upd (h:H a=some u)(m:Mt u)(e:O a)(r:Reps K H O v d):Reps K (upd H a u') O v d:=r.mono (λ_ _ q=>tV h m q) (λ_ _ n q=>⟨n,uU e n q⟩) λb _ n q=>⟨n,by rw[l4 (λz=>n (by rw[z];exact e))];exact q⟩
def EnvOk.ad6 {i:Nat}{sl sl':Sl}{a:cp}{u u':HO}(E:EnvOk K t O0 H O σ ρ)(e:ρ[i]?=some sl)(v:IE sl)(A:σ[i]?=some (some (V.ref a)))(B:H a=some u)(m':Mt u')(ow':IE sl')
  (r:O a->t a=none->Mt u->bP K t (upd H a u') O (some (some (V.ref a))) sl'):EnvOk K t O0 (upd H a u') O σ (ρ.set i sl')/\Kp H O (upd H a u') O:=by
 obtain⟨b,w,d,C,U,Y,m⟩:=(E.slot i sl e).at_ v;rw[A]at d;injection d with d;injection d with d;injection d with d;subst d;rw[B]at Y;cases Y;have kp:Kp H O (upd H a u') O:=λb o g n=>⟨by rw[l4 (λz=>by subst z;exact n C)];exact g,n⟩;have nf:∀b w,H b=some w->¬Mt w->upd H a u' b=some w:=λb w q n=>by rw[l4 (λz=>by subst z;rw[B]at q;cases q;exact n m)];exact q
 refine⟨⟨by simpa using E.len,λb o q=>?_,E.sub,λb z=>?_,E.trk0,λp hp=>nf _ _ (E.tab p hp) λz=>z,λj s h=>?_,λj k x y b I J o1 o2 L q4=>?_⟩,kp⟩
 .rw[l4 (λz=>by subst z;rw[U]at q;cases q)];exact E.same b o q
 .by_cases g:b=a
  .subst g;exact⟨_,j3,m'⟩
  .obtain⟨o,q,m⟩:=E.trk b z;exact⟨o,by rw[l4 g];exact q,m⟩
 .by_cases N:i=j
  .subst N;obtain⟨e',_⟩:=A9 h;subst e';rw[A];exact r C U m
  .rw[u8 N]at h;refine(E.slot j s h).move (λ_ _ q=>tV B m q) (λ_ _ n q=>⟨n,uU C n q⟩) (λb o w q=>nf _ _ q λz=>z) kp λo b w I J L=>⟨J,?_⟩;rw[l4 (λz=>by subst z;exact N (E.inj i j sl s b e h v o A I))];exact L
 .have f:∀l z,(ρ.set i sl')[l]?=some z->IE z->∃z',ρ[l]?=some z'/\IE z':=λl z q o=>by
   by_cases hl:i=l
   .subst hl;exact⟨sl,e,v⟩
   .rw[u8 hl]at q;exact⟨z,q,o⟩
  obtain⟨x',u1,Q⟩:=f j x I o1;obtain⟨y',u2,T⟩:=f k y J o2;exact E.inj j k x' y' b u1 u2 Q T L q4
def EnvOk.ae6 {i:Nat}{sl sl':Sl}{a:cp}(E:EnvOk K v O0 H O σ ρ)(e:ρ[i]?=some sl)(A:IE sl)(p:σ[i]?=some (some (V.ref a)))(no:¬IE sl')(r:bP K v H (λb=>O b/\b≠a) (some (some (V.ref a))) sl'):
  EnvOk K v O0 H (λb=>O b/\b≠a) σ (ρ.set i sl'):=by
 obtain⟨b,w,d,T,I,U,m⟩:=(E.slot i sl e).at_ A;rw[p]at d;injection d with d;injection d with d;injection d with d;subst d;have sub:∀b,(O b/\b≠a)->O b:=λb z=>z.1;refine⟨by simpa using E.len,E.same,λb z=>⟨E.sub b z,λq=>?_⟩,λb z=>E.trk b z.1,E.trk0,E.tab,λj s h=>?_,λj k x y b f g B C t J=>?_⟩
 .subst q;obtain⟨o,q⟩:=E.trk0 b z;rw[I]at q;cases q
 .by_cases u:i=j
  .subst u;obtain⟨l,_⟩:=A9 h;subst l;rw[p];exact r
  .rw[u8 u]at h;refine(E.slot j s h).move (λ_ _ q=>q) (λ_ _ n q=>⟨λz=>n z.1,q⟩) (λ_ _ _ q=>q) (λb o L n=>⟨L,λz=>n z.1⟩) λo b w f g t=>⟨⟨g,λz=>?_⟩,t⟩;subst z;exact u (E.inj i j sl s b e h A o p f)
 .have N:i≠j:=λz=>by subst z;obtain⟨l,_⟩:=A9 f;subst l;exact no B
  have Q:i≠k:=λz=>by subst z;obtain⟨l,_⟩:=A9 g;subst l;exact no C
  rw[u8 N]at f;rw[u8 Q]at g;exact E.inj j k x y b f g B C t J
end
def XW (X:Cx)(e:Str)(H:Hp):Prop:=False
def RC (X:Cx)(H:Hp)(O:cp->Prop)(r:R D)(Q:VK):Prop:=match r with
 |.ok d=>∀v a,Same H a->Rep X.K a O v d->Q v a
 |.ex e=>∀a,Same H a->XW X e a
 |.bad=>False
def B0 (K:lb)(H:Hp)(O:cp->Prop)(v:V)(d:D):Prop:=Rep K H O v d\/∃a b e,v=.ref a/\d=.lst e/\N2 K H a b/\Reps K H O b e
def ik (X:Cx)(H:Hp)(O:cp->Prop)(r:R D)(Q:VK):Prop:=match r with
 |.ok d=>∀v a,Same H a->B0 X.K a O v d->Q v a
 |.ex e=>∀a,Same H a->XW X e a
 |.bad=>False
def AD (X:Cx)(H:Hp)(r:R Bool)(Q:Bool->Hp->Prop):Prop:=match r with
 |.ok b=>∀a,Same H a->Q b a
 |.ex e=>∀a,Same H a->XW X e a
 |.bad=>False
def EA (X:Cx)(H:Hp)(O:cp->Prop)(r:R (List D))(Q:List V->Hp->Prop):Prop:=match r with
 |.ok d=>∀b a,Same H a->Reps X.K a O b d->Q b a
 |.ex e=>∀a,Same H a->XW X e a
 |.bad=>False
def NS (X:Cx)(H:Hp)(O:cp->Prop)(r:R (List D))(Q:List V->Hp->Prop):Prop:=match r with
 |.ok d=>∀b a,Same H a->Paired (B0 X.K a O) b d->Q b a
 |.ex e=>∀a,Same H a->XW X e a
 |.bad=>False
def tD (X:Cx)(f:Ev->R D):TE:=λσ H Q=>∃a b O ρ,EnvOk X.K a b H O σ ρ/\RC X H O (f ρ) Q
def tDB (X:Cx)(f:Ev->R D):TE:=λσ H Q=>∃a b O ρ,EnvOk X.K a b H O σ ρ/\ik X H O (f ρ) Q
def tDT (X:Cx)(f:Ev->R Bool):TT:=λσ H Q=>∃a b O ρ,EnvOk X.K a b H O σ ρ/\AD X H (f ρ) Q
def tDs (X:Cx)(f:Ev->R (List D)):TA:=λσ H Q=>∃a b O ρ,EnvOk X.K a b H O σ ρ/\EA X H O (f ρ) Q
def a1n (X:Cx)(f:Ev->R (List D)):TA:=λσ H Q=>∃a b O ρ,EnvOk X.K a b H O σ ρ/\NS X H O (f ρ) Q
def PD (X:Cx)(e:dm)(f:Ev->R D):Prop:=PE X e (tD X f)
def PB (X:Cx)(e:dm)(f:Ev->R D):Prop:=PE X e (tDB X f)
def FJ (X:Cx)(e:dm)(f:Ev->R Bool):Prop:=PT X e (tDT X f)
def JP (X:Cx)(es:List dm)(f:Ev->R (List D)):Prop:=PA X es (tDs X f)
def XZ (X:Cx)(es:List dm)(f:Ev->R (List D)):Prop:=PA X es (a1n X f)
def QF {r:Hp->(cp->Prop)->Ev->VK->Prop}(h:PE X e t)(i:∀σ H Q a b O ρ,EnvOk X.K a b H O σ ρ->r H O ρ Q->t σ H Q):PE X e λσ H Q=>∃a b O ρ,EnvOk X.K a b H O σ ρ/\r H O ρ Q:=λd s σ H Q I q=>h d s σ H Q I (let⟨a,b,O,ρ,E,q⟩:=q;i σ H Q a b O ρ E q)
def ptI {r:Hp->(cp->Prop)->Ev->(Bool->Hp->Prop)->Prop}(h:PT X e t)(i:∀σ H Q a b O ρ,EnvOk X.K a b H O σ ρ->r H O ρ Q->t σ H Q):PT X e λσ H Q=>∃a b O ρ,EnvOk X.K a b H O σ ρ/\r H O ρ Q:=λd s σ H Q I q=>h d s σ H Q I (let⟨a,b,O,ρ,E,q⟩:=q;i σ H Q a b O ρ E q)
def paI {r:Hp->(cp->Prop)->Ev->(List V->Hp->Prop)->Prop}(h:PA X es t)(i:∀σ H Q a b O ρ,EnvOk X.K a b H O σ ρ->r H O ρ Q->t σ H Q):PA X es λσ H Q=>∃a b O ρ,EnvOk X.K a b H O σ ρ/\r H O ρ Q:=λe d s σ H Q I q=>h e d s σ H Q I (let⟨a,b,O,ρ,E,q⟩:=q;i σ H Q a b O ρ E q)
def wA {β:Type}{r:Hp->(cp->Prop)->Ev->β->Prop}{G:List (cp×Obj)->be->St->Hp->β->Prop}(h:∀a s σ H Q,Inv X a σ H s->∀b d O ρ,EnvOk X.K b d H O σ ρ->r H O ρ Q->G a s σ H Q)(a s σ H Q)(I:Inv X a σ H s)(q:∃b d O ρ,EnvOk X.K b d H O σ ρ/\r H O ρ Q):G a s σ H Q:=let⟨b,d,O,ρ,E,q⟩:=q;h a s σ H Q I b d O ρ E q
def PD.pb (h:PD X e f):PB X e f:=QF h λσ H Q a b O ρ E q=>⟨a,b,O,ρ,E,by
 unfold RC ik at*
 cases e:f ρ with
 |ok d=>rw[e]at q;exactλv g s r=>q v g s (.inl r)
 |ex x=>rw[e]at q;exact q
 |bad=>rw[e]at q;exact q⟩
def RC.seq {O:cp->Prop}(h:RC X H O (r.bind g) Q):
  RC X H O r λv b=>∃d,r=.ok d/\Same H b/\Rep X.K b O v d/\RC X b O (g d) Q:=by
 cases r with
 |ok d=>
  intro v b f k;refine⟨d,rfl,f,k,?_⟩;have a:RC X H O (g d) Q:=h;cases e:g d with
  |ok m=>rw[e]at a;exactλw i j l=>a w i (f.trans j) l
  |ex x=>rw[e]at a;exactλi j=>a i (f.trans j)
  |bad=>rw[e]at a;exact a
 |ex x=>exact h
 |bad=>exact h
def ik.seq {O:cp->Prop}(h:RC X H O (r.bind g) Q):
  ik X H O r λv b=>∃d,r=.ok d/\Same H b/\B0 X.K b O v d/\RC X b O (g d) Q:=by
 cases r with
 |ok d=>
  intro v b f k;refine⟨d,rfl,f,k,?_⟩;have a:RC X H O (g d) Q:=h;cases e:g d with
  |ok m=>rw[e]at a;exactλw i j l=>a w i (f.trans j) l
  |ex x=>rw[e]at a;exactλi j=>a i (f.trans j)
  |bad=>rw[e]at a;exact a
 |ex x=>exact h
 |bad=>exact h
def RC.grow {O:cp->Prop}(h:RC X H O r Q)(e:Same H f):RC X f O r Q:=by
 cases r with
 |ok d=>exactλw a b g=>h w a (e.trans b) g
 |ex x=>exactλa b=>h a (e.trans b)
 |bad=>exact h
end
section
variable [Tabs]
section
variable{X:Cx}
def B0.same (e:Same H H')(r:B0 X.K H O v d):B0 X.K H' O v d:=by
 rcases r with r|⟨a,b,f,g,h,i,j⟩
 .exact .inl (r.same e)
 .exact .inr ⟨a,b,f,g,h,e.seq i,j.same e⟩
def B0.aa5 {K:lb}{ds:List D}(r:B0 K H O v (.lst ds)):∃a vs,v=.ref a/\N2 K H a vs/\Reps K H O vs ds:=by
 rcases r with r|⟨a,vs,g,d,b,e,f⟩
 .cases r with|lst h n r=>exact⟨_,_,rfl,h,r⟩
 .injection b with b;subst b;exact⟨a,vs,d,e,f⟩
def B0.ag0 {K:lb}(r:B0 K H O v .dct):∃a o,v=.ref a/\H a=some (.ext λh=>h.get? a=some o)/\o.ExactDict:=by
 rcases r with r|⟨a,d,e,f,b,g,i⟩
 .cases r with|dct h x n=>exact⟨_,_,rfl,h,x⟩
 .cases b
def B0.tupI {K:lb}{ds:List D}(r:B0 K H O v (.tup ds)):∃a vs,v=.ref a/\T8 K H a vs/\Reps K H O vs ds:=by
 rcases r with r|⟨a,vs,d,e,b,f,g⟩
 .cases r with|tup h r=>exact⟨_,_,rfl,h,r⟩
 .cases b
def B0.aa6 {K:lb}{i:Int}(r:B0 K H O v (.int i)):v=.int i:=by
 rcases r with r|⟨a,d,e,f,b,g,h⟩
 .cases r;rfl
 .cases b
def B0.blI {K:lb}{i:Bool}(r:B0 K H O v (.bl i)):v=.bl i:=by
 rcases r with r|⟨a,d,e,f,b,g,h⟩
 .cases r;rfl
 .cases b
def B0.ac4 {K:lb}(r:B0 K H O v .non):v=.non:=by
 rcases r with r|⟨a,d,e,f,b,g,h⟩
 .cases r;rfl
 .cases b
def B0.ac8 {K:lb}{i:Str}(r:B0 K H O v (.str i)):v=.str i:=by
 rcases r with r|⟨a,d,e,f,b,g,h⟩
 .cases r;rfl
 .cases b
end
def U1 (i:Nat)(ρ:Ev):R D:=match ρ[i]? with
 |some (.v d)=>.ok d
 |_=>.bad
def qI (i:Nat)(ρ:Ev):R D:=match ρ[i]? with
 |some (.v d)=>.ok d
 |some (.o Y)=>.ok (.lst Y)
 |_=>.bad
section
def d5 (i:Nat)(a:X.N[i]?=some x:=by rfl)(b:vT X.env.scope x:=by first|exact aCn rfl|exact aBA (aCn rfl)|exact aBA (aBA rfl))(f:(x==ll)=false:=by decide)(g:(x==lp)=false:=by decide):PD X (.Name x h) (U1 i):=QF (G6 a b f g) λσ H Q n p O ρ E q=>by
 unfold U1 at q;cases e:ρ[i]? with
 |none=>rw[e]at q;exact q.elim
 |some j=>
  rw[e]at q;cases j with
  |no=>exact q.elim
  |x C=>exact q.elim
  |c m φ=>exact q.elim
  |d J=>exact q.elim
  |o Y=>exact q.elim
  |v d=>obtain⟨v,k,l⟩:=E.val i d e;exact⟨v,k,q v H (Same.refl H) l⟩
def b8 (i:Nat)(g:X.N[i]?=some x:=by rfl)(h:vT X.env.scope x:=by first|exact aCn rfl|exact aBA (aCn rfl)|exact aBA (aBA rfl))(j:(x==ll)=false:=by decide)(k:(x==lp)=false:=by decide):PB X (.Name x l) (qI i):=QF (G6 g h j k) λσ H Q t u O ρ E q=>by
 unfold qI at q;cases e:ρ[i]? with
 |none=>rw[e]at q;exact q.elim
 |some n=>
  rw[e]at q;cases n with
  |no=>exact q.elim
  |x C=>exact q.elim
  |c m φ=>exact q.elim
  |d J=>exact q.elim
  |o Y=>obtain⟨a,p,b,f,w,r,s⟩:=E.own i Y e;exact⟨_,b,q _ H (Same.refl H) (.inr ⟨a,p,Y,rfl,rfl,N2.of r,s⟩)⟩
  |v d=>obtain⟨v,b,f⟩:=E.val i d e;exact⟨v,b,q v H (Same.refl H) (.inl f)⟩
def WB (d:D)(_:Ev):R D:=.ok d
def vX (h:PE X e (tC v))(r:∀H O,Rep X.K H O v d):PD X e (WB d):=QF h λσ H Q a b O ρ E q=>q v H (Same.refl H) (r H O)
def d6 {j a}:PD X (.Constant (.int i) j a) (WB (.int i)):=vX YG λ_ _=>.int
def pK {j a}:PD X (.Constant (.bool i) j a) (WB (.bl i)):=vX mz λ_ _=>.bl
def CI {j a}:PD X (.Constant .none j a) (WB .non):=vX ZF λ_ _=>.non
def iH (X:Cx)(f:ae->ae->Sem ae)(g:D->D->R D):Prop:=
 ∀(H:Hp) (O:cp->Prop) (x y:V) (a b:D) (Q:VK),(∀p,H p=none->¬O p)->B0 X.K H O x a->B0 X.K H O y b->RC X H O (g a b) Q->∃r,lP X f r/\r x y H Q
def a1p (X:Cx)(O:cp->Prop)(g:D->D->R D)(Q:VK):V->V->Hp->Prop:=λx y H=>∃a b,(∀p,H p=none->¬O p)/\B0 X.K H O x a/\B0 X.K H O y b/\RC X H O (g a b) Q
def mH {f O:cp->Prop}(E:EnvOk X.K k f H O σ ρ)(q:RC X H O ((l ρ).bind λx=>(m ρ).bind λy=>g x y) Q):
  tDB X l σ H λx h=>tDB X m σ h λy i=>a1p X O g Q x y i:=by
 refine⟨k,f,O,ρ,E,?_⟩;have a:=ik.seq q;revert a;cases C:l ρ with
 |ok s=>
  intro a x h n t;obtain⟨d,e,_,r,u⟩:=a x h n t;cases e;have o:=E.grow n;refine⟨k,f,O,ρ,o,?_⟩;have b:=ik.seq u;revert b;cases I:m ρ with
  |ok v=>intro b y i j w;obtain⟨J,e,_,z,A⟩:=b y i j w;cases e;exact⟨s,v,λp B=>(o.grow j).fresh B,r.same j,z,A⟩
  |ex x=>intro b;exact b
  |bad=>intro b;exact b
 |ex x=>intro a;exact a
 |bad=>intro a;exact a
def c7 (f:iH X (eR op) g)(i:PB X a j)(k:PB X b l):PD X (.BinOp a op b m) (λρ=>(j ρ).bind λx=>(l ρ).bind λy=>g x y):=by refine wA λd s σ H Q I N T O ρ E q=>?_;refine wpAny_BinOp (LQ i k I (mH E q) λv u n x y e o p t h=>?_);obtain⟨w,z,A,B,C,q⟩:=h;obtain⟨r,J,L⟩:=f e O x y w z Q A B C q;exact J d n σ e x y v u Q o p t L
def ZH (f:iH X (d9 op) g)(i:PB X a j)(k:PB X b l)(m:jd op b=false:=by first|exact KI _|with_unfolding_all rfl):
  PD X (.Compare a [op] [b] n) (λρ=>(j ρ).bind λx=>(l ρ).bind λy=>g x y):=by
 refine wA λd s σ H Q I T U O ρ E q=>?_;refine wpAny_Compare1 (LQ i k I (mH E q) λv u o x y e p t w h=>?_) m;obtain⟨z,A,B,C,J,q⟩:=h;obtain⟨r,L,N⟩:=f e O x y z A Q B C J q;exact L d o σ e x y v u Q p t w N
def EY:D->R Bool
 |.bl b=>.ok b
 |_=>.bad
def FU {O:cp->Prop}{Q:Bool->Hp->Prop}(h:AD X H (r.bind EY) Q):RC X H O r λv a=>∃c,v=.bl c/\Q c a:=by
 cases r with
 |ok d=>
  cases d with
  |bl b=>intro v a e f;cases f;exact⟨b,rfl,h a e⟩
  |_=>exact(show False from h).elim
 |ex x=>exact h
 |bad=>exact h
def k9 (i:iH X (d9 op) g)(j:PB X a l)(m:PB X b n)(o:jd op b=false:=by first|exact KI _|with_unfolding_all rfl):
  FJ X (.Compare a [op] [b] p) (λρ=>((l ρ).bind λx=>(n ρ).bind λy=>g x y).bind EY):=by
 refine wA λd s σ H Q I H9 O0 O ρ E q=>?_;have t:=FU (O:=O) q;refine wpAny_isTrue_Compare1 (LQ j m I (mH E t) λv u w x y f A B C h=>?_) o;obtain⟨J,L,N,T,U,q⟩:=h;obtain⟨r,Y,hq⟩:=i f O x y J L _ N T U q;refine D4 (Y d w σ f x y v u _ A B C hq) λc s3 z9=>?_;obtain⟨z,H3,I3,r3,k,e,q3⟩:=z9;subst e;cases r3;exact aBO ⟨H3,I3,q3⟩
def QN (h:PD X e f)(a:∀whole,isTrue e X.env whole=(do let v<-whole;standAt e.pos;gv [v] (truthy v)):=by intro _;rfl):FJ X e (λρ=>(f ρ).bind EY):=by refine ptI (XY h a) λσ H Q b d O ρ E q=>⟨b,d,O,ρ,E,FU q⟩
def AD.seq {Q:Bool->Hp->Prop}(h:AD X H (r.bind g) Q):AD X H r λb f=>r=.ok b/\Same H f/\AD X f (g b) Q:=by
 cases r with
 |ok d=>
  intro f i;refine⟨rfl,i,?_⟩;have a:AD X H (g d) Q:=h;cases e:g d with
  |ok l=>rw[e]at a;exactλj k=>a j (i.trans k)
  |ex x=>rw[e]at a;exactλj k=>a j (i.trans k)
  |bad=>rw[e]at a;exact a
 |ex x=>exact h
 |bad=>exact h
def AD.mono {Q e:Bool->Hp->Prop}(h:AD X H r Q)(i:∀b a,Q b a->e b a):AD X H r e:=by
 cases r with
 |ok d=>exactλa f=>i _ _ (h a f)
 |ex x=>exact h
 |bad=>exact h
def RC.mono {O:cp->Prop}(h:RC X H O r Q)(i:∀b a,Q b a->e b a):RC X H O r e:=by
 cases r with
 |ok d=>exactλv a f g=>i _ _ (h v a f g)
 |ex x=>exact h
 |bad=>exact h
def FS (X:Cx)(e:dm)(f:Ev->R Bool):Prop:=PW X e (tDT X f)
def XH (f g:Ev->R Bool):Ev->R Bool:=λρ=>(f ρ).bind λb=>if b=true then g ρ else .ok false
def orB (f g:Ev->R Bool):Ev->R Bool:=λρ=>(f ρ).bind λb=>if b=true then .ok true else g ρ
def ZV (f:Ev->R Bool):Ev->R Bool:=λρ=>(f ρ).bind λb=>.ok (!b)
variable{rest:List dm}
def xF (b:FJ X a f):FS X (.BoolOp .And [a] d) f:=RG b
def lV (b:FJ X a f):FS X (.BoolOp .Or [a] d) f:=YJ b
def MS (h:PW X e t)(i:∀σ H Q,t' σ H Q->t σ H Q):PW X e t':=λb a s σ H Q I q=>h b a s σ H Q I (i σ H Q q)
def FH (j:FJ X a f)(k:FS X (.BoolOp .And (b::rest) d) g):FS X (.BoolOp .And (a::b::rest) d) (XH f g):=
 MS (YC j k) λσ H Q ⟨e,h,O,ρ,E,q⟩=>⟨e,h,O,ρ,E,AD.mono (AD.seq q)<|by
  rintro b l ⟨_,m,i⟩;cases b with
  |true=>rw[kn rfl];exact⟨e,h,O,ρ,E.grow m,i⟩
  |false=>rw[ku aBc];exact i l (Same.refl _)⟩
def pV (j:FJ X a f)(k:FS X (.BoolOp .Or (b::rest) d) g):FS X (.BoolOp .Or (a::b::rest) d) (orB f g):=
 MS (yz j k) λσ H Q ⟨e,h,O,ρ,E,q⟩=>⟨e,h,O,ρ,E,AD.mono (AD.seq q)<|by
  rintro b l ⟨_,m,i⟩;cases b with
  |false=>rw[ku aBc];exact⟨e,h,O,ρ,E.grow m,i⟩
  |true=>rw[kn rfl];exact i l (Same.refl _)⟩
def FS.pt (h:FS X e f):FJ X e f:=PW.pt h
def RU (d:FJ X a f):FJ X (.UnaryOp .Not a e) (ZV f):=
 ptI (ZN d) λσ H Q g h O ρ E q=>⟨g,h,O,ρ,E,AD.mono (AD.seq q)<|by rintro b i ⟨_,k,j⟩;exact j i (Same.refl _)⟩
def kz:D->R D
 |.int i=>.ok (.int (-i))
 |_=>.bad
def pN {f:Ev->R D}(e:PD X a f):PD X (.UnaryOp .USub a g) (λρ=>(f ρ).bind kz):=
 QF (qz ZU e) λσ H Q h j O ρ E q=>⟨h,j,O,ρ,E,by
  refine RC.mono (RC.seq q) λv k l=>?_;obtain⟨d,_,n,m,b⟩:=l;cases d with
  |int i=>cases m;exact⟨i,rfl,b _ k (Same.refl _) .int⟩
  |_=>exact(show False from b).elim⟩
def EA.seq {H:Hp}{O:cp->Prop}{r:R (List D)}{g:List D->R D}{Q:VK}(h:RC X H O (r.bind g) Q):
  EA X H O r λv a=>∃d,r=.ok d/\Same H a/\Reps X.K a O v d/\RC X a O (g d) Q:=by
 cases r with
 |ok d=>exactλv a b e=>⟨d,rfl,b,e,(show RC X H O (g d) Q from h).grow b⟩
 |ex x=>exact h
 |bad=>exact h
def EA.mono {O:cp->Prop}{Q e:List V->Hp->Prop}(h:EA X H O r Q)(i:∀b a,Q b a->e b a):EA X H O r e:=by
 cases r with
 |ok d=>exactλv a f g=>i _ _ (h v a f g)
 |ex x=>exact h
 |bad=>exact h
def NS.seq {H:Hp}{O:cp->Prop}{r:R (List D)}{g:List D->R D}{Q:VK}(h:RC X H O (r.bind g) Q):
  NS X H O r λv a=>∃d,r=.ok d/\Same H a/\Paired (B0 X.K a O) v d/\RC X a O (g d) Q:=by
 cases r with
 |ok d=>exactλv a b e=>⟨d,rfl,b,e,(show RC X H O (g d) Q from h).grow b⟩
 |ex x=>exact h
 |bad=>exact h
def m8 (f:Ev->R D)(g:Ev->R (List D)):Ev->R (List D):=λρ=>(f ρ).bind λd=>(g ρ).bind λa=>.ok (d::a)
def M9:Ev->R (List D):=λ_=>.ok []
def o7:JP X [] M9:=paI bH λσ H Q a b O ρ E q=>q [] H (Same.refl _) .nil
def i9 {f:Ev->R D}{g:Ev->R (List D)}(m:PD X e f)(n:JP X es g)(o:bb (e::es) X.env=(false,d3 e X.env)::bb es X.env:=by rfl):JP X (e::es) (m8 f g):=
 paI (N1 m n o) λσ H Q k l O ρ E q=>⟨k,l,O,ρ,E,by
  unfold m8 at q;cases b:f ρ with
  |ok d=>
   rw[b]at q;intro v t h p;refine⟨k,l,O,ρ,E.grow h,?_⟩;cases i:g ρ with
   |ok u=>rw[i]at q;exactλr j a s=>q (v::r) j (h.trans a) (.cons (p.same a) s)
   |ex x=>rw[i]at q;exactλj a=>q j (h.trans a)
   |bad=>rw[i]at q;exact q
  |ex x=>rw[b]at q;exact q
  |bad=>rw[b]at q;exact q⟩
def J3:XZ X [] M9:=paI bH λσ H Q a b O ρ E q=>q [] H (Same.refl _) .nil
def B8 {f:Ev->R D}{g:Ev->R (List D)}(m:PB X e f)(n:XZ X es g)(o:bb (e::es) X.env=(false,d3 e X.env)::bb es X.env:=by rfl):XZ X (e::es) (m8 f g):=
 paI (N1 m n o) λσ H Q k l O ρ E q=>⟨k,l,O,ρ,E,by
  unfold m8 at q;cases b:f ρ with
  |ok d=>
   rw[b]at q;intro v t h p;refine⟨k,l,O,ρ,E.grow h,?_⟩;cases i:g ρ with
   |ok u=>rw[i]at q;exactλr j a s=>q (v::r) j (h.trans a) (.cons (p.same a) s)
   |ex x=>rw[i]at q;exactλj a=>q j (h.trans a)
   |bad=>rw[i]at q;exact q
  |ex x=>rw[b]at q;exact q
  |bad=>rw[b]at q;exact q⟩
def cB (ds:List D):R D:=if ds.length<=sizeLine then .ok (.tup ds)else .bad
def wF (ds:List D):R D:=if ds.length<=sizeLine then .ok (.lst ds)else .bad
def BY {f:Ev->R (List D)}{e}(h:JP X es f):PD X (.Tuple es e g) (λρ=>(f ρ).bind cB):=
 QF (YZ h) λσ H Q i j O ρ E q=>⟨i,j,O,ρ,E,EA.mono (EA.seq q)<|by
  rintro l m ⟨n,_,o,b,a⟩;unfold cB at a;split at a
  .rename_i k;exact⟨by rw[b.length];exact k,λp d=>a (.ref p) _ (j7 d _) (.tup (T8.of j3) (b.same<|j7 d _))⟩
  .exact a.elim⟩
def fV {f:Ev->R (List D)}(h:JP X es f):PD X (.List es e) (λρ=>(f ρ).bind wF):=
 QF (PN h) λσ H Q g i O ρ E q=>⟨g,i,O,ρ,E,EA.mono (EA.seq q)<|by
  rintro l m ⟨n,_,j,d,a⟩;unfold wF at a;split at a
  .rename_i k;exact⟨by rw[d.length];exact k,λp b=>a (.ref p) _ (j7 b _) (.lst (N2.of j3) ((E.grow j).fresh b) (d.same<|j7 b _))⟩
  .exact a.elim⟩
def bZ (X:Cx)(f:ae)(g:List D->R D):Prop:=
 ∀(H:Hp) (O:cp->Prop) (a:List V) (b:List D) (Q:VK),(∀p,H p=none->¬O p)->Paired (B0 X.K H O) a b->RC X H O (g b) Q->∃r,xA X f r/\r a H Q
def gZ {x:Str}{id:String}{p:Pos}{f:Ev->R (List D)}{g:List D->R D}(k:bZ X (.builtin id) g)(l:XZ X (e::es) f)(m:Gl X x:=by rfl)(n:X.mg x=none:=by assumption)(o:dq x=some (.builtin id):=by decide+kernel)(t:x≠ "__name__":=by decide)
  (u:(x==ll)=false:=by decide) (v:bb (e::es) X.env=(false,d3 e X.env)::bb es X.env:=by rfl) (w:(dn b (bb es X.env)).any (·.1)=false:=by rfl):
  PD X (.Call (.Name x p) (e::es) [] b) (λρ=>(f ρ).bind g):=by
 refine wA λa s σ H Q I y z O ρ E q=>?_;refine aAW (O6 I m n o ?_ t u);refine aBQ (D4 (l b a s σ H _ I ⟨y,z,O,ρ,E,NS.seq q⟩) λA B ⟨i,j,C,J,d,_,L,r,h⟩=>?_) v w;obtain⟨Y,N,T⟩:=k j O i d Q (λp U=>(E.grow L).fresh U) r h;exact N a B σ j i A Q C J T
def eG {x:Str}{T:String}{p:Pos}{f:Ev->R (List D)}{g:List D->R D}(k:bZ X (.type T) g)(l:XZ X (e::es) f)(m:Gl X x:=by rfl)(n:X.mg x=none:=by assumption)(o:dq x=some (.type T):=by decide+kernel)(t:x≠ "__name__":=by decide)
  (u:(x==ll)=false:=by decide) (v:bb (e::es) X.env=(false,d3 e X.env)::bb es X.env:=by rfl) (w:(dn b (bb es X.env)).any (·.1)=false:=by rfl):
  PD X (.Call (.Name x p) (e::es) [] b) (λρ=>(f ρ).bind g):=by
 refine wA λa s σ H Q I y z O ρ E q=>?_;refine aAW (O6 I m n o ?_ t u);refine aBm (D4 (l b a s σ H _ I ⟨y,z,O,ρ,E,NS.seq q⟩) λA B ⟨i,j,C,J,d,_,L,r,h⟩=>?_) v w;obtain⟨r',N,U⟩:=k j O i d Q (λp Y=>(E.grow L).fresh Y) r h;exact N a B σ j i A Q C J U
end
mutual
def t7:D->D->Bool
 |.non,.non=>true
 |.bl a,.bl b=>a==b
 |.bl a,.int b=>(if a then 1 else 0)==b
 |.int a,.bl b=>a==(if b then 1 else 0)
 |.int a,.int b=>a==b
 |.str a,.str b=>a==b
 |.tup Y,.tup d=>V9 Y d
 |.lst Y,.lst d=>V9 Y d
 |.dct,.dct=>true
 |_,_=>false
def V9:List D->List D->Bool
 |[],[]=>true
 |x::Y,y::a=>t7 x y&&V9 Y a
 |_,_=>false
end
mutual
def A7:D->Nat
 |.tup Y=>w8 Y+1
 |.lst Y=>w8 Y+1
 |.dct=>df
 |_=>0
def w8:List D->Nat
 |[]=>0
 |x::Y=>max (A7 x) (w8 Y)
end
mutual
theorem M1:∀d:D,t7 d d=true
 |.non=>by simp[t7]
 |.bl b=>by simp[t7]
 |.int i=>by simp[t7]
 |.str x=>by simp[t7]
 |.tup Y=>by rw[t7];exact jQ Y
 |.lst Y=>by rw[t7];exact jQ Y
 |.dct=>by simp[t7]
theorem jQ:∀ds:List D,V9 ds ds=true
 |[]=>by simp[V9]
 |x::Y=>by rw[V9,M1 x,jQ Y];rfl
end
def kP (Y d:List D)(j:Nat):Bool:=match Y[j]?,d[j]? with
 |some a,some b=>t7 a b
 |_,_=>false
theorem fR:∀(Y a:List D),V9 Y a=((aBv (min Y.length a.length)).all (kP Y a)&&(Y.length==a.length))
 |[],[]=>by simp[V9]
 |[],_::_=>by simp[V9]
 |_::_,[]=>by simp[V9]
 |x::Y,y::a=>by
  rw[V9,fR Y a,aAt,aAt,Nat.succ_min_succ,aFN,aGA,List.all_map];have b:kP (x::Y) (y::a) 0=t7 x y:=rfl;have d:(kP (x::Y) (y::a)∘Nat.succ)=kP Y a:=by
   funext j
   simp[kP]
  have e:(Y.length+1==a.length+1)=(Y.length==a.length):=by rw[aDE];simp
  rw[b,d,e,Bool.and_assoc]
theorem lX:∀{Y:List D} {d:D} {j:Nat},Y[j]?=some d->A7 d<=w8 Y
 |[],_,_,h=>by simp at h
 |x::Y,d,0,h=>by simp at h;subst h;rw[w8];exact Nat.le_max_left _ _
 |x::Y,d,j+1,h=>by rw[w8];exact aAp (lX (j:=j) (by simpa using h)) (Nat.le_max_right _ _)
section
def CZ {K:lb}{H:Hp}{O:cp->Prop}{a:cp}{d:D}(h:Rep K H O (.ref a) d):(∃vs ds,d=.tup ds/\T8 K H a vs/\Reps K H O vs ds)\/(∃vs ds,d=.lst ds/\N2 K H a vs/\Reps K H O vs ds)\/(d=.dct/\∃o:Obj,H a=some (.ext λh=>h.get? a=some o)/\o.ExactDict):=by
 cases h with
 |tup h r=>exact .inl ⟨_,_,rfl,h,r⟩
 |lst h n r=>exact .inr (.inl ⟨_,_,rfl,h,r⟩)
 |dct h x n=>exact .inr (.inr ⟨rfl,_,h,x⟩)
def VQ (I:Inv X b σ H s)(h:T8 X.K H a vs)(h':N2 X.K H a ws):False:=by obtain⟨e,_,p,_⟩:=I.tuple h;obtain⟨d,_,f,_⟩:=I.list h';exact absurd rfl (SeqAt.ne_of_list_tuple (s:=s) f.isList p)
def VX {o:Obj}(I:Inv X b σ H s)(h':T8 X.K H a vs)(h:H a=some (.ext λh=>h.get? a=some o))(x:o.ExactDict):False:=by obtain⟨d,_,⟨f,g,c,_⟩,_⟩:=I.tuple h';have e:s.heap.get? _=some _:=(I.hok _ _ h).1;rw[g]at e;cases e;exact absurd (c.symm.trans x.1) (by decide)
def WH {o:Obj}(I:Inv X b σ H s)(h':N2 X.K H a vs)(h:H a=some (.ext λh=>h.get? a=some o))(x:o.ExactDict):False:=by obtain⟨d,_,p,_⟩:=I.list h';obtain⟨f,g,c,_⟩:=p.isList;have e:s.heap.get? _=some _:=(I.hok _ _ h).1;rw[g]at e;cases e;exact absurd (c.symm.trans x.1) (by decide)
mutual
theorem Rep.inj (I:Inv X g σ H s):∀{v:V} {d:D},Rep X.K H O v d->∀{d':D},Rep X.K H i v d'->d=d'
 |_,_,.non=>λh=>by cases h;rfl
 |_,_,.bl=>λh=>by cases h;rfl
 |_,_,.int=>λh=>by cases h;rfl
 |_,_,.str=>λh=>by cases h;rfl
 |_,_,.tup h r=>λb=>by
  rcases CZ b with⟨_,_,rfl,a,f⟩|⟨_,_,rfl,a,_⟩|⟨rfl,_,a,x⟩
  .have e:=I.ab7 h a;subst e;rw[Reps.inj I r f]
  .exact(VQ I h a).elim
  .exact(VX I h a x).elim
 |_,_,.lst h _ r=>λb=>by
  rcases CZ b with⟨_,_,rfl,a,_⟩|⟨_,_,rfl,a,f⟩|⟨rfl,_,a,x⟩
  .exact(VQ I a h).elim
  .have e:=I.ab3 h a;subst e;rw[Reps.inj I r f]
  .exact(WH I h a x).elim
 |_,_,.dct h x _=>λb=>by
  rcases CZ b with⟨_,_,rfl,a,_⟩|⟨_,_,rfl,a,_⟩|⟨rfl,_⟩
  .exact(VX I a h x).elim
  .exact(WH I a h x).elim
  .rfl
theorem Reps.inj (I:Inv X a σ H s):∀{v:List V} {d:List D},Reps X.K H O v d->∀{d':List D},Reps X.K H g v d'->d=d'
 |_,_,.nil=>λh=>by cases h;rfl
 |_,_,.cons h t=>λb=>by
  cases b with
  |cons e f=>rw[Rep.inj I h e,Reps.inj I t f]
end
def mC (A:cy)(s:be)(a ws:List ae)(Y b:List D):Prop:=∀(j:Nat) (u w:ae),a[j]?=some u->ws[j]?=some w->SeqAt.EqAt A.in1 s u w (kP Y b j)
def zN (g:s.heap.IsList l d.toArray)(h:s.heap.IsList b ws.toArray)(e1:d.length=Y.length)(e2:ws.length=e.length)(i:A.units<df)(p:mC A s d ws Y e):SeqAt.RcAt A s (.ref l) (.ref b) (V9 Y e)/\SeqAt.RcNeAt A s (.ref l) (.ref b) (!V9 Y e):=by
 rw[fR];by_cases a:Y.length=e.length
 .have f:d.toArray.size=ws.toArray.size:=by simp[e1,e2,a]
  have q:min Y.length e.length=d.toArray.size:=by simp[e1,a]
  have k:(Y.length==e.length)=true:=by simp[a]
  have m:∀j (n:j<d.toArray.size) (o:j<ws.toArray.size),SeqAt.EqAt A.in1 s d.toArray[j] ws.toArray[j] (kP Y e j):=λj n o=>p j _ _ (by simp[aAj (show j<d.length by simpa using n)]) (by simp[aAj (show j<ws.length by simpa using o)]);rw[k,Bool.and_true,q];exact⟨SeqAt.RcAt.lists g h f i m,SeqAt.RcNeAt.lists g h f i m⟩
 .have f:(d.toArray.size !=ws.toArray.size)=true:=by simp[e1,e2,a]
  have k:(Y.length==e.length)=false:=by simp[a]
  rw[k,aGn];exact⟨SeqAt.RcAt.lists_lengths g h f i,SeqAt.RcNeAt.lists_lengths g h f i⟩
def iR (e:IsTup s.heap l a.toArray)(f:IsTup s.heap b ws.toArray)(e1:a.length=Y.length)(e2:ws.length=d.length)(g:A.units<df)(m:mC A s a ws Y d):SeqAt.RcAt A s (.ref l) (.ref b) (V9 Y d)/\SeqAt.RcNeAt A s (.ref l) (.ref b) (!V9 Y d):=by
 rw[fR];have n:min Y.length d.length=min a.toArray.size ws.toArray.size:=by simp[e1,e2]
 have o:(Y.length==d.length)=(a.toArray.size==ws.toArray.size):=by simp[e1,e2]
 have h:∀j (i:j<a.toArray.size) (k:j<ws.toArray.size),SeqAt.EqAt A.in1 s a.toArray[j] ws.toArray[j] (kP Y d j):=λj i k=>m j _ _ (by simp[aAj (show j<a.length by simpa using i)]) (by simp[aAj (show j<ws.length by simpa using k)]);rw[o,n];exact⟨SeqAt.RcAt.tuples e f g h,SeqAt.RcNeAt.tuples e f g h⟩
def l5 (A:cy):A.in1.units=A.units+1:=rfl
mutual
theorem KM (I:Inv X L σ H s):∀{x y:V} {w z:D} {v u:ae} {A:cy},Rep X.K H O x w->Rep X.K H Y y z->RelV x v->RelV y u->A.units+A7 w<df->A.units+A7 z<df->SeqAt.EqAt A s v u (t7 w z)
 |_,_,_,_,v,u,A,.non,g,i,b,j,f=>by
  have d:A.units<df:=by lia
  cases i;cases g with
  |dct=>exact absurd f (by rw[A7];lia)
  |non=>cases b;exact aDZ _
  |bl=>cases b;simp only[t7];exact SeqAt.EqAt.none_bool _
  |int=>obtain⟨t,rfl⟩:=b;simp only[t7];exact SeqAt.EqAt.none_int _ _
  |str=>obtain⟨t,rfl⟩:=b;simp only[t7];exact SeqAt.EqAt.none_str _ _
  |tup h r=>cases b;obtain⟨_,_,p,_⟩:=I.tuple h;simp only[t7];exact SeqAt.EqAt.none_tuple p d
  |lst h _ r=>cases b;obtain⟨_,_,p,_⟩:=I.list h;simp only[t7];exact SeqAt.EqAt.none_list p.isList d
 |_,_,_,_,v,u,A,.bl,g,i,b,j,f=>by
  have d:A.units<df:=by lia
  cases i;cases g with
  |dct=>exact absurd f (by rw[A7];lia)
  |non=>cases b;simp only[t7];exact SeqAt.EqAt.bool_none _
  |bl=>cases b;simp only[t7];exact SeqAt.EqAt.bool_bool _ _
  |int=>obtain⟨t,rfl⟩:=b;simp only[t7];exact SeqAt.EqAt.bool_int _ _ _
  |str=>obtain⟨t,rfl⟩:=b;simp only[t7];exact SeqAt.EqAt.bool_str _ _ _
  |tup h r=>cases b;obtain⟨_,_,p,_⟩:=I.tuple h;simp only[t7];exact SeqAt.EqAt.bool_tuple _ p d
  |lst h _ r=>cases b;obtain⟨_,_,p,_⟩:=I.list h;simp only[t7];exact SeqAt.EqAt.bool_list _ p.isList d
 |_,_,_,_,v,u,A,.int,g,i,b,j,f=>by
  have d:A.units<df:=by lia
  obtain⟨N,rfl⟩:=i;cases g with
  |dct=>exact absurd f (by rw[A7];lia)
  |non=>cases b;simp only[t7];exact SeqAt.EqAt.int_none _ _
  |bl=>cases b;simp only[t7];exact SeqAt.EqAt.int_bool _ _ _
  |int=>obtain⟨t,rfl⟩:=b;simp only[t7];exact aFc _ _ _ _
  |str=>obtain⟨t,rfl⟩:=b;simp only[t7];exact aGy _ _ _ _
  |tup h r=>cases b;obtain⟨_,_,p,_⟩:=I.tuple h;simp only[t7];exact aGj _ _ p d
  |lst h _ r=>cases b;obtain⟨_,_,p,_⟩:=I.list h;simp only[t7];exact SeqAt.EqAt.int_list _ _ p.isList d
 |_,_,_,_,v,u,A,.str,g,i,b,j,f=>by
  have d:A.units<df:=by lia
  obtain⟨N,rfl⟩:=i;cases g with
  |dct=>exact absurd f (by rw[A7];lia)
  |non=>cases b;simp only[t7];exact SeqAt.EqAt.str_none _ _
  |bl=>cases b;simp only[t7];exact SeqAt.EqAt.str_bool _ _ _
  |int=>obtain⟨t,rfl⟩:=b;simp only[t7];exact aGz _ _ _ _
  |str=>obtain⟨t,rfl⟩:=b;simp only[t7];exact SeqAt.EqAt.str_str _ _ _ _
  |tup h r=>cases b;obtain⟨_,_,p,_⟩:=I.tuple h;simp only[t7];exact SeqAt.EqAt.str_tuple _ _ p d
  |lst h _ r=>cases b;obtain⟨_,_,p,_⟩:=I.list h;simp only[t7];exact SeqAt.EqAt.str_list _ _ p.isList d
 |_,_,_,_,v,u,A,.tup (a:=a) (vs:=vs) (ds:=ds) h r,g,i,b,j,f=>by
  have d:A.units<df:=by lia
  cases i;obtain⟨B,n,p,_⟩:=I.tuple h;cases g with
  |dct=>exact absurd f (by rw[A7];lia)
  |non=>cases b;simp only[t7];exact SeqAt.EqAt.tuple_none p d
  |bl=>cases b;simp only[t7];exact SeqAt.EqAt.tuple_bool _ p d
  |int=>obtain⟨t,rfl⟩:=b;simp only[t7];exact aGk _ _ p d
  |str=>obtain⟨t,rfl⟩:=b;simp only[t7];exact SeqAt.EqAt.tuple_str _ _ p d
  |@tup C Q T k l=>
   cases b;obtain⟨o,q,m,_⟩:=I.tuple k;by_cases e:a=C
   .subst e;have E:=I.ab7 h k;subst E;have J:=Reps.inj I r l;subst J;rw[M1];exact aDZ _
   .simp only[t7];refine aFe e (iR p m (by rw[<-n.length,r.length]) (by rw[<-q.length,l.length]) d<|gT I r l n q ?_ ?_).1
    .rw[A7]at j;rw[l5];lia
    .rw[A7]at f;rw[l5];lia
  |lst k _ l=>cases b;obtain⟨_,_,m,_⟩:=I.list k;simp only[t7];exact SeqAt.EqAt.tuple_list p m.isList d
 |_,_,_,_,v,u,A,.lst (a:=a) (vs:=vs) (ds:=ds) h nO r,g,i,b,j,f=>by
  have d:A.units<df:=by lia
  cases i;obtain⟨B,n,p,_⟩:=I.list h;cases g with
  |dct=>exact absurd f (by rw[A7];lia)
  |non=>cases b;simp only[t7];exact SeqAt.EqAt.list_none p.isList d
  |bl=>cases b;simp only[t7];exact SeqAt.EqAt.list_bool _ p.isList d
  |int=>obtain⟨t,rfl⟩:=b;simp only[t7];exact SeqAt.EqAt.list_int _ _ p.isList d
  |str=>obtain⟨t,rfl⟩:=b;simp only[t7];exact SeqAt.EqAt.list_str _ _ p.isList d
  |tup k l=>cases b;obtain⟨_,_,m,_⟩:=I.tuple k;simp only[t7];exact SeqAt.EqAt.list_tuple p.isList m d
  |@lst C Q T k U l=>
   cases b;obtain⟨o,q,m,_⟩:=I.list k;by_cases e:a=C
   .subst e;have E:=I.ab3 h k;subst E;have J:=Reps.inj I r l;subst J;rw[M1];exact aDZ _
   .simp only[t7];refine aFe e (zN p.isList m.isList (by rw[<-n.length,r.length]) (by rw[<-q.length,l.length]) d<|gT I r l n q ?_ ?_).1
    .rw[A7]at j;rw[l5];lia
    .rw[A7]at f;rw[l5];lia
 |_,_,_,_,v,u,A,.dct ..,g,i,b,j,f=>absurd j (by rw[A7];lia)
theorem gT (I:Inv X p σ H s):∀{vs ws:List V} {Y k:List D} {e f:List ae} {A:cy},Reps X.K H O vs Y->Reps X.K H z ws k->l9 vs e->l9 ws f->A.in1.units+w8 Y<df->A.in1.units+w8 k<df->mC A s e f Y k
 |_,_,_,_,e,f,A,.nil,B,g,i,l,m=>λj u w a b=>by cases g;simp at a
 |_,_,_,_,e,f,A,.cons h t,.nil,g,i,l,m=>λj u w a b=>by cases i;simp at b
 |_,_,_,_,e,f,A,.cons (d:=d) (ds:=ds) h t,.cons (d:=C) (ds:=E) r v,g,i,l,m=>λj u w a b=>by
  cases g with
  |cons x y=>
   cases i with
   |cons n o=>
    rw[w8]at l m;cases j with
    |zero=>simp only[aCz,aGG]at a b;subst a b;exact KM I h r x n (by lia) (by lia)
    |succ j=>simp only[aCA]at a b;have q:=gT I (A:=A) t v y o (by lia) (by lia) j u w a b;exact q
end
def jk (I:Inv X N σ H s)(n:B0 X.K H O x B)(d:B0 X.K H T y g)(o:RelV x v)(e:RelV y u)(C:A.units+A7 B<df)(k:A.units+A7 g<df):
  SeqAt.RcAt A s v u (t7 B g)/\SeqAt.RcNeAt A s v u (!t7 B g):=by
 have b:A.units<df:=by lia
 cases B with
 |dct=>exact absurd C (by rw[A7];lia)
 |non=>
  cases n.ac4;cases o;cases g with
  |dct=>exact absurd k (by rw[A7];lia)
  |non=>cases d.ac4;cases e;simp only[t7];exact⟨SeqAt.RcAt.none_none,SeqAt.RcNeAt.none_none⟩
  |bl=>cases d.blI;cases e;simp only[t7];exact⟨SeqAt.RcAt.none_bool _,SeqAt.RcNeAt.none_bool _⟩
  |int=>cases d.aa6;obtain⟨t,rfl⟩:=e;simp only[t7];exact⟨SeqAt.RcAt.none_int _ _,SeqAt.RcNeAt.none_int _ _⟩
  |str=>cases d.ac8;obtain⟨t,rfl⟩:=e;simp only[t7];exact⟨SeqAt.RcAt.none_str _ _,SeqAt.RcNeAt.none_str _ _⟩
  |tup f=>obtain⟨a,i,rfl,h,r⟩:=d.tupI;cases e;obtain⟨_,_,p,_⟩:=I.tuple h;simp only[t7];exact⟨SeqAt.RcAt.none_tuple p b,SeqAt.RcNeAt.none_tuple p b⟩
  |lst f=>obtain⟨a,i,rfl,h,r⟩:=d.aa5;cases e;obtain⟨_,_,p,_⟩:=I.list h;simp only[t7];exact⟨SeqAt.RcAt.none_list p.isList b,SeqAt.RcNeAt.none_list p.isList b⟩
 |bl=>
  cases n.blI;cases o;cases g with
  |dct=>exact absurd k (by rw[A7];lia)
  |non=>cases d.ac4;cases e;simp only[t7];exact⟨SeqAt.RcAt.bool_none _,SeqAt.RcNeAt.bool_none _⟩
  |bl=>cases d.blI;cases e;simp only[t7];exact⟨SeqAt.RcAt.bool_bool _ _,SeqAt.RcNeAt.bool_bool _ _⟩
  |int=>cases d.aa6;obtain⟨t,rfl⟩:=e;simp only[t7];exact⟨SeqAt.RcAt.bool_int _ _ _,SeqAt.RcNeAt.bool_int _ _ _⟩
  |str=>cases d.ac8;obtain⟨t,rfl⟩:=e;simp only[t7];exact⟨SeqAt.RcAt.bool_str _ _ _,SeqAt.RcNeAt.bool_str _ _ _⟩
  |tup f=>obtain⟨a,i,rfl,h,r⟩:=d.tupI;cases e;obtain⟨_,_,p,_⟩:=I.tuple h;simp only[t7];exact⟨SeqAt.RcAt.bool_tuple _ p b,SeqAt.RcNeAt.bool_tuple _ p b⟩
  |lst f=>obtain⟨a,i,rfl,h,r⟩:=d.aa5;cases e;obtain⟨_,_,p,_⟩:=I.list h;simp only[t7];exact⟨SeqAt.RcAt.bool_list _ p.isList b,SeqAt.RcNeAt.bool_list _ p.isList b⟩
 |int=>
  cases n.aa6;obtain⟨Q,rfl⟩:=o;cases g with
  |dct=>exact absurd k (by rw[A7];lia)
  |non=>cases d.ac4;cases e;simp only[t7];exact⟨SeqAt.RcAt.int_none _ _,SeqAt.RcNeAt.int_none _ _⟩
  |bl=>cases d.blI;cases e;simp only[t7];exact⟨SeqAt.RcAt.int_bool _ _ _,SeqAt.RcNeAt.int_bool _ _ _⟩
  |int=>cases d.aa6;obtain⟨t,rfl⟩:=e;simp only[t7];exact⟨SeqAt.RcAt.int_int _ _ _ _,SeqAt.RcNeAt.int_int _ _ _ _⟩
  |str=>cases d.ac8;obtain⟨t,rfl⟩:=e;simp only[t7];exact⟨SeqAt.RcAt.int_str _ _ _ _,SeqAt.RcNeAt.int_str _ _ _ _⟩
  |tup f=>obtain⟨a,i,rfl,h,r⟩:=d.tupI;cases e;obtain⟨_,_,p,_⟩:=I.tuple h;simp only[t7];exact⟨SeqAt.RcAt.int_tuple _ _ p b,SeqAt.RcNeAt.int_tuple _ _ p b⟩
  |lst f=>obtain⟨a,i,rfl,h,r⟩:=d.aa5;cases e;obtain⟨_,_,p,_⟩:=I.list h;simp only[t7];exact⟨SeqAt.RcAt.int_list _ _ p.isList b,SeqAt.RcNeAt.int_list _ _ p.isList b⟩
 |str=>
  cases n.ac8;obtain⟨Q,rfl⟩:=o;cases g with
  |dct=>exact absurd k (by rw[A7];lia)
  |non=>cases d.ac4;cases e;simp only[t7];exact⟨SeqAt.RcAt.str_none _ _,SeqAt.RcNeAt.str_none _ _⟩
  |bl=>cases d.blI;cases e;simp only[t7];exact⟨SeqAt.RcAt.str_bool _ _ _,SeqAt.RcNeAt.str_bool _ _ _⟩
  |int=>cases d.aa6;obtain⟨t,rfl⟩:=e;simp only[t7];exact⟨SeqAt.RcAt.str_int _ _ _ _,SeqAt.RcNeAt.str_int _ _ _ _⟩
  |str=>cases d.ac8;obtain⟨t,rfl⟩:=e;simp only[t7];exact⟨SeqAt.RcAt.str_str _ _ _ _,SeqAt.RcNeAt.str_str _ _ _ _⟩
  |tup f=>obtain⟨a,i,rfl,h,r⟩:=d.tupI;cases e;obtain⟨_,_,p,_⟩:=I.tuple h;simp only[t7];exact⟨SeqAt.RcAt.str_tuple _ _ p b,SeqAt.RcNeAt.str_tuple _ _ p b⟩
  |lst f=>obtain⟨a,i,rfl,h,r⟩:=d.aa5;cases e;obtain⟨_,_,p,_⟩:=I.list h;simp only[t7];exact⟨SeqAt.RcAt.str_list _ _ p.isList b,SeqAt.RcNeAt.str_list _ _ p.isList b⟩
 |tup Y=>
  obtain⟨a,i,rfl,h,r⟩:=n.tupI;cases o;obtain⟨E,q,p,_⟩:=I.tuple h;cases g with
  |dct=>exact absurd k (by rw[A7];lia)
  |non=>cases d.ac4;cases e;simp only[t7];exact⟨SeqAt.RcAt.tuple_none p b,SeqAt.RcNeAt.tuple_none p b⟩
  |bl=>cases d.blI;cases e;simp only[t7];exact⟨SeqAt.RcAt.tuple_bool _ p b,SeqAt.RcNeAt.tuple_bool _ p b⟩
  |int=>cases d.aa6;obtain⟨t,rfl⟩:=e;simp only[t7];exact⟨SeqAt.RcAt.tuple_int _ _ p b,SeqAt.RcNeAt.tuple_int _ _ p b⟩
  |str=>cases d.ac8;obtain⟨t,rfl⟩:=e;simp only[t7];exact⟨SeqAt.RcAt.tuple_str _ _ p b,SeqAt.RcNeAt.tuple_str _ _ p b⟩
  |tup f=>
   obtain⟨J,L,rfl,l,m⟩:=d.tupI;cases e;obtain⟨w,z,j,_⟩:=I.tuple l;simp only[t7];refine iR p j (by rw[<-q.length,r.length]) (by rw[<-z.length,m.length]) b (gT I r m q z ?_ ?_)
   .rw[A7]at C;rw[l5];lia
   .rw[A7]at k;rw[l5];lia
  |lst f=>obtain⟨J,L,rfl,l,m⟩:=d.aa5;cases e;obtain⟨_,_,j,_⟩:=I.list l;simp only[t7];exact⟨SeqAt.RcAt.tuple_list p j.isList b,SeqAt.RcNeAt.tuple_list p j.isList b⟩
 |lst Y=>
  obtain⟨a,i,rfl,h,r⟩:=n.aa5;cases o;obtain⟨E,q,p,_⟩:=I.list h;cases g with
  |dct=>exact absurd k (by rw[A7];lia)
  |non=>cases d.ac4;cases e;simp only[t7];exact⟨SeqAt.RcAt.list_none p.isList b,SeqAt.RcNeAt.list_none p.isList b⟩
  |bl=>cases d.blI;cases e;simp only[t7];exact⟨SeqAt.RcAt.list_bool _ p.isList b,SeqAt.RcNeAt.list_bool _ p.isList b⟩
  |int=>cases d.aa6;obtain⟨t,rfl⟩:=e;simp only[t7];exact⟨SeqAt.RcAt.list_int _ _ p.isList b,SeqAt.RcNeAt.list_int _ _ p.isList b⟩
  |str=>cases d.ac8;obtain⟨t,rfl⟩:=e;simp only[t7];exact⟨SeqAt.RcAt.list_str _ _ p.isList b,SeqAt.RcNeAt.list_str _ _ p.isList b⟩
  |tup f=>obtain⟨J,L,rfl,l,m⟩:=d.tupI;cases e;obtain⟨_,_,j,_⟩:=I.tuple l;simp only[t7];exact⟨SeqAt.RcAt.list_tuple p.isList j b,SeqAt.RcNeAt.list_tuple p.isList j b⟩
  |lst f=>
   obtain⟨J,L,rfl,l,m⟩:=d.aa5;cases e;obtain⟨w,z,j,_⟩:=I.list l;simp only[t7];refine zN p.isList j.isList (by rw[<-q.length,r.length]) (by rw[<-z.length,m.length]) b (gT I r m q z ?_ ?_)
   .rw[A7]at C;rw[l5];lia
   .rw[A7]at k;rw[l5];lia
end
def WU (x y:D):R D:=if A7 x<=40/\A7 y<=40 then .ok (.bl (t7 x y))else .bad
def AF (x y:D):R D:=if A7 x<=40/\A7 y<=40 then .ok (.bl (!t7 x y))else .bad
section
def eT (r:X.A.units+64<df):iH X (d9 .Eq) WU:=by
 intro H O x y g h Q t i j q;unfold WU at q;split at q
 .rename_i w;refine⟨λa b d e=>a=x/\b=y/\d=H/\e (.bl (t7 g h)) H,?_,rfl,rfl,rfl,q _ H (Same.refl _) .bl⟩;intro f s σ d a b v u e I k l ⟨m,n,o,p⟩;subst m n o;exact(jk I (A:=X.A) i j k l (by lia) (by lia)).1 _ _ _ _ ⟨.bl _,_,I,rfl,p⟩
 .exact q.elim
def bU (r:X.A.units+64<df):iH X (d9 .NotEq) AF:=by
 intro H O x y g h Q t i j q;unfold AF at q;split at q
 .rename_i w;refine⟨λa b d e=>a=x/\b=y/\d=H/\e (.bl (!t7 g h)) H,?_,rfl,rfl,rfl,q _ H (Same.refl _) .bl⟩;intro f s σ d a b v u e I k l ⟨m,n,o,p⟩;subst m n o;exact(jk I (A:=X.A) i j k l (by lia) (by lia)).2 _ _ _ _ ⟨.bl _,_,I,rfl,p⟩
 .exact q.elim
end
def lS:D->D->R D
 |.int a,.int b=>.ok (.int (a+b))
 |.lst a,.lst b=>if a.length+b.length<=sizeLine then .ok (.lst (a++b))else .bad
 |.tup [],.tup b=>.ok (.tup b)
 |.tup (x::a),.tup []=>if(x::a).length<=sizeLine then .ok (.tup (x::a))else .bad
 |.tup (x::a),.tup (y::b)=>if(x::a).length+(y::b).length<=sizeLine then .ok (.tup ((x::a)++(y::b)))else .bad
 |_,_=>.bad
def OM:D->D->R D
 |.int a,.int b=>.ok (.int (a-b))
 |_,_=>.bad
def l7 (a b:Int):Prop:=aBf a<=60000000/\aBf b<=60000000
instance(a b:Int):Decidable (l7 a b):=inferInstanceAs (Decidable<|_/\_)
def R8:D->D->R D
 |.int a,.int b=>if l7 a b then .ok (.int (a*b))else .bad
 |_,_=>.bad
def xP (b:Int):Prop:=b≠0/\aBf b<=9000
instance(b:Int):Decidable (xP b):=inferInstanceAs (Decidable<|_/\_)
def Q4:D->D->R D
 |.int a,.int b=>if xP b then .ok (.int (a.fdiv b))else .bad
 |_,_=>.bad
def W2:D->D->R D
 |.int a,.int b=>if b≠0 then .ok (.int (a.fmod b))else .bad
 |_,_=>.bad
def JD:D->D->R D
 |.int a,.int b=>if 0<=b/\b<=1000000/\a.natAbs<2^64 then .ok (.int (a^b.toNat))else .bad
 |_,_=>.bad
def ltR:D->D->R D
 |.int a,.int b=>.ok (.bl (decide (a<b)))
 |_,_=>.bad
def yj:D->D->R D
 |.int a,.int b=>.ok (.bl (decide (a<=b)))
 |_,_=>.bad
def ij:D->D->R D
 |.int a,.int b=>.ok (.bl (decide (b<a)))
 |_,_=>.bad
def GS (h0:b≠0)(h:aBf b<=n):b.natAbs.log2<n:=by
 unfold aBf at h;split at h
 .rename_i z;exact absurd (by simpa using z) h0
 .omega
def KS (h:l7 a b):IntMulOk a b:=mulOk_of_bits (m:=60000000) (n:=60000000) h.1 h.2 (by decide)
section
def iH.aa8 {f:ae->ae->Sem ae}{g:D->D->R D}{C:Int->Int->Prop}{w:Int->Int->V}{dw:Int->Int->D}(h:lP X f (rI C w))(k:∀a b d,g a b=.ok d->∃i j,a=.int i/\b=.int j/\C i j/\d=dw i j)
  (l:∀a b e,g a b≠.ex e) (m:∀K H O i j,Rep K H O (w i j) (dw i j)):iH X f g:=by
 intro H O x y a b Q r n o q;cases e:g a b with
 |ok d=>rw[e]at q;obtain⟨i,j,rfl,rfl,p,rfl⟩:=k a b d e;cases n.aa6;cases o.aa6;exact⟨_,h,i,j,rfl,rfl,p,q _ H (Same.refl _) (m _ _ _ _ _)⟩
 |ex x=>exact absurd e (l _ _ _)
 |bad=>rw[e]at q;exact q.elim
def lP.c0 (h:lP X f (WM w)):lP X f (rI (λ_ _=>True) w):=by rintro a s σ H x y v u Q I b d ⟨i,j,e,g,_,q⟩;exact h a s σ H x y v u Q I b d ⟨i,j,e,g,q⟩
def u6:iH X (eR .Sub) OM:=iH.aa8 (dw:=λi j=>.int (i-j)) (lP.c0 YX) (λa b d h=>by cases a<;>cases b<;>simp only[OM,R.ok.injEq,reduceCtorEq]at h;exact⟨_,_,rfl,rfl,trivial,h.symm⟩) (λa b e h=>by cases a<;>cases b<;>simp only[OM,reduceCtorEq]at h) λ_ _ _ _ _=>.int
def FP:iH X (d9 .Lt) ltR:=iH.aa8 (dw:=λi j=>.bl (decide (i<j))) (lP.c0 yx) (λa b d h=>by cases a<;>cases b<;>simp only[ltR,R.ok.injEq,reduceCtorEq]at h;exact⟨_,_,rfl,rfl,trivial,h.symm⟩) (λa b e h=>by cases a<;>cases b<;>simp only[ltR,reduceCtorEq]at h) λ_ _ _ _ _=>.bl
def a0a:iH X (d9 .LtE) yj:=iH.aa8 (dw:=λi j=>.bl (decide (i<=j))) (lP.c0 uz) (λa b d h=>by cases a<;>cases b<;>simp only[yj,R.ok.injEq,reduceCtorEq]at h;exact⟨_,_,rfl,rfl,trivial,h.symm⟩) (λa b e h=>by cases a<;>cases b<;>simp only[yj,reduceCtorEq]at h) λ_ _ _ _ _=>.bl
def yW:iH X (d9 .Gt) ij:=iH.aa8 (dw:=λi j=>.bl (decide (j<i))) (lP.c0 qk) (λa b d h=>by cases a<;>cases b<;>simp only[ij,R.ok.injEq,reduceCtorEq]at h;exact⟨_,_,rfl,rfl,trivial,h.symm⟩) (λa b e h=>by cases a<;>cases b<;>simp only[ij,reduceCtorEq]at h) λ_ _ _ _ _=>.bl
def KL:lP X (eR .FloorDiv) (rI (λ_ j=>xP j) λi j=>.int (i.fdiv j)):=opI λ_ _ _ _ _ _ _ a q=>floordiv_int a.1 q (.inl (PyProof.noPylong_of_log2<|GS a.1 a.2))
def A1:iH X (eR .FloorDiv) Q4:=iH.aa8 (dw:=λi j=>.int (i.fdiv j)) KL (λa b d h=>by
 cases a<;>cases b<;>simp only[Q4,reduceCtorEq]at h;split at h
 .rename_i f;cases h;exact⟨_,_,rfl,rfl,f,rfl⟩
 .cases h) (λa b e h=>by
  cases a<;>cases b<;>simp only[Q4,reduceCtorEq]at h;split at h<;>cases h) λ_ _ _ _ _=>.int
def A4:iH X (eR .Mod) W2:=iH.aa8 (dw:=λi j=>.int (i.fmod j)) QK (λa b d h=>by
 cases a<;>cases b<;>simp only[W2,reduceCtorEq]at h;split at h
 .rename_i f;cases h;exact⟨_,_,rfl,rfl,f,rfl⟩
 .cases h) (λa b e h=>by
  cases a<;>cases b<;>simp only[W2,reduceCtorEq]at h;split at h<;>cases h) λ_ _ _ _ _=>.int
def fI:iH X (eR .Pow) JD:=iH.aa8 (dw:=λi j=>.int (i^j.toNat)) fw (λa b d h=>by
 cases a<;>cases b<;>simp only[JD,reduceCtorEq]at h;split at h
 .rename_i f;cases h;exact⟨_,_,rfl,rfl,f,rfl⟩
 .cases h) (λa b e h=>by
  cases a<;>cases b<;>simp only[JD,reduceCtorEq]at h;split at h<;>cases h) λ_ _ _ _ _=>.int
def SC:lP X (eR .Mult) (rI l7 λi j=>.int (i*j)):=opI λ_ _ _ _ _ _ _ a q=>mul_int q (KS a)
def l8:iH X (eR .Mult) R8:=iH.aa8 (dw:=λi j=>.int (i*j)) SC (λa b d h=>by
 cases a<;>cases b<;>simp only[R8,reduceCtorEq]at h;split at h
 .rename_i f;cases h;exact⟨_,_,rfl,rfl,f,rfl⟩
 .cases h) (λa b e h=>by
  cases a<;>cases b<;>simp only[R8,reduceCtorEq]at h;split at h<;>cases h) λ_ _ _ _ _=>.int
def RZ:lP X (eR .Add) (λx y H Q=>∃l b Y e,x=.ref l/\y=.ref b/\N2 X.K H l Y/\N2 X.K H b e/\Y.length+e.length<=sizeLine/\∀p,H p=none->Q (.ref p) (upd H p (.lst (Y++e)))):=by
 intro i s σ H x y v u Q I A B h;obtain⟨l,b,Y,e,rfl,rfl,C,E,J,q⟩:=h;cases A;cases B;obtain⟨a,r,p,_⟩:=I.list C;obtain⟨f,j,L,_⟩:=I.list E;obtain⟨⟨N,O,k,T⟩,m,o,n,t⟩:=p.isList;obtain⟨⟨zd,U,data2,qg⟩,w,z,n2,d⟩:=L.isList;simp only at o t z d;subst o t z d;have g:a.toArray.size+f.toArray.size<=sizeLine:=by rw[aAm,aAm,<-r.length,<-j.length];exact J
 have ea:a.toArray++f.toArray=(a++f).toArray:=by simp
 refine aFY ⟨_,m,rfl⟩ ⟨_,w,rfl⟩ noFill_list_add seq_list_add PySem.F.slot_list_add PySem.F.entry_list_add (PySem.F.args_list_add_2 _ _) (list_addW l b a.toArray f.toArray n n2 O U T qg g) ⟨m,w,?_⟩;rw[ea];exact⟨.ref _,_,I.ag2 (t':=s.toks) (r.append j) (by rw[aAC];omega),rfl,q _ I.fresh⟩
def KR:lP X (eR .Add) (λx y H Q=>∃a b e,x=.ref a/\y=.ref b/\T8 X.K H a []/\T8 X.K H b e/\Q (.ref b) H):=by intro f s σ H x y v u Q I o p h;obtain⟨t,b,e,rfl,rfl,r,w,q⟩:=h;cases o;cases p;obtain⟨z,A,B,_⟩:=I.tuple r;obtain⟨U,Y,C,_⟩:=I.tuple w;cases A;obtain⟨⟨E,J,g,L⟩,i,j,n,k⟩:=B;obtain⟨⟨zd,N,data2,O⟩,l,m,T,d⟩:=C;simp only at j k m d;subst j k m d;exact aFY ⟨_,i,rfl⟩ ⟨_,l,rfl⟩ aFG seq_tuple_add PySem.F.slot_tuple_add PySem.F.entry_tuple_add (PySem.F.args_tuple_add_2 _ _) (tuple_addW0 t b _ _ n T J N L O (by simp)) ⟨i,l,.ref b,H,I,rfl,q⟩
def p5:iH X (eR .Add) lS:=by
 intro H O x y v t Q w o r q;cases v with
 |int i=>
  cases t with
  |int j=>cases o.aa6;cases r.aa6;exact⟨_,XU,i,j,rfl,rfl,q _ H (Same.refl _) .int⟩
  |_=>exact aAh q
 |lst a=>
  cases t with
  |lst b=>
   simp only[lS]at q;split at q
   .rename_i s;obtain⟨l,f,rfl,g,d⟩:=o.aa5;obtain⟨k,m,rfl,h,e⟩:=r.aa5;exact⟨_,RZ,l,k,f,m,rfl,rfl,g,h,by rw[d.length,e.length];exact s,λp n=>q _ _ (j7 n _) (.lst (N2.of j3) (w p n) ((d.append e).same (j7 n _)))⟩
   .exact q.elim
  |_=>exact aAh q
 |tup a=>
  cases t with
  |tup b=>
   cases a with
   |nil=>obtain⟨l,f,rfl,g,d⟩:=o.tupI;obtain⟨k,m,rfl,h,e⟩:=r.tupI;cases d;exact⟨_,KR,l,k,m,rfl,rfl,g,h,q _ H (Same.refl _) (.tup h e)⟩
   |cons x a=>
    cases b with
    |nil=>
     obtain⟨l,f,rfl,g,d⟩:=o.tupI;obtain⟨k,m,rfl,h,e⟩:=r.tupI;cases e;have u:f≠[]:=λz=>by subst z;have:=d.length;simp at this
     simp only[lS]at q;split at q
     .rename_i s;exact⟨_,FQ,l,k,f,[],rfl,rfl,g,h,u,by rw[d.length];exact s,λ_=>q _ H (Same.refl _) (.tup g d),λz=>absurd rfl z⟩
     .exact q.elim
    |cons y b=>
     simp only[lS]at q;split at q
     .rename_i s;obtain⟨l,f,rfl,g,d⟩:=o.tupI;obtain⟨k,m,rfl,h,e⟩:=r.tupI;have u:f≠[]:=λz=>by subst z;have:=d.length;simp at this
      have A:m≠[]:=λz=>by subst z;have:=e.length;simp at this
      exact⟨_,FQ,l,k,f,m,rfl,rfl,g,h,u,by rw[d.length,e.length];exact s,λz=>absurd z A,λ_ p n=>q _ _ (j7 n _) (.tup (T8.of j3) ((d.append e).same (j7 n _)))⟩
     .exact q.elim
  |_=>cases a<;>exact aAh q
 |_=>exact aAh q
def R7 (x y:D):R D:=match x,y with
 |.lst Y,.int i=>match pD Y i with|some d=>.ok d|none=>.bad
 |.tup Y,.int i=>match pD Y i with|some d=>.ok d|none=>.bad
 |_,_=>.bad
def xN {K:lb}{H:Hp}{O:cp->Prop}{vs:List V}{ds:List D}{i:Int}{d:D}(r:Reps K H O vs ds)(h:pD ds i=some d):∃v,pD vs i=some v/\Rep K H O v d:=by
 unfold pD at h⊢;rw[r.length];cases e:BU ds.length i with
 |none=>rw[e]at h;cases h
 |some j=>rw[e]at h;exact r.get h
def i8 (N:PB X a f)(T:PD X b g)(t:UV b:=by exactλ_ _=>rfl):PD X (.Subscript a b U) (λρ=>(f ρ).bind λx=>(g ρ).bind λy=>R7 x y):=by
 refine wA λj s σ H Q I H9 O0 O ρ E q=>?_;refine Subscript_ (LQ N T.pb I (mH E q) λv u z x y k A B C h=>?_);obtain⟨J,dy,fr,L,r2,q⟩:=h;cases dy with
 |int i=>
  cases r2.aa6;cases J with
  |lst Y=>
   simp only[R7]at q;cases e:pD Y i with
   |none=>rw[e]at q;exact q.elim
   |some d=>rw[e]at q;obtain⟨p,l,rfl,m,n⟩:=L.aa5;obtain⟨w,o,r⟩:=xN n e;exact VJ a b j z σ k _ _ v u Q A B C ⟨p,l,i,w,rfl,rfl,m,o,q w k (Same.refl _) r⟩ (t _ _)
  |tup Y=>
   simp only[R7]at q;cases e:pD Y i with
   |none=>rw[e]at q;exact q.elim
   |some d=>rw[e]at q;obtain⟨p,l,rfl,m,n⟩:=L.tupI;obtain⟨w,o,r⟩:=xN n e;exact ZD a b j z σ k _ _ v u Q A B C ⟨p,l,i,w,rfl,rfl,m,o,q w k (Same.refl _) r⟩ (t _ _)
  |_=>exact aAh q
 |_=>cases J<;>exact aAh q
def cutD (Y:List D)(lo a:Option Int):List D:=(Y.drop<|HT.sIx Y.length 0 lo).take (HT.sIx Y.length Y.length a-HT.sIx Y.length 0 lo)
def rD {K:lb}{H:Hp}{O:cp->Prop}{vs:List V}{ds:List D}{lo a:Option Int}(r:Reps K H O vs ds):Reps K H O (zF vs lo a) (cutD ds lo a):=by unfold zF cutD;rw[r.length];exact(r.drop _).take _
def PTO (X:Cx)(e:Option dm)(f:Ev->R (Option Int)):Prop:=PO X e λσ H Q=>∃b d O ρ,EnvOk X.K b d H O σ ρ/\match f ρ with
 |.ok o=>∀a,Same H a->Q o a
 |.ex e=>∀a,Same H a->XW X e a
 |.bad=>False
def toI:D->R (Option Int)
 |.int i=>.ok (some i)
 |_=>.bad
def cR:PTO X none (λ_=>.ok none):=by rintro a s σ H Q I ⟨b,d,O,ρ,E,q⟩;exact TR a s σ H Q I (q H<|Same.refl _)
def U8 (h:PD X e f):PTO X (some e) (λρ=>(f ρ).bind toI):=by rintro a s σ H Q I ⟨b,g,O,ρ,E,q⟩;exact SO h a s σ H Q I ⟨b,g,O,ρ,E,by
 dsimp only at q;cases e:f ρ with
 |ok d=>
  rw[e]at q;cases d with
  |int i=>exactλv j k l=>by cases l;exact⟨i,rfl,q j k⟩
  |_=>exact aAh q
 |ex x=>rw[e]at q;exact q
 |bad=>rw[e]at q;exact q⟩
def LI (x:D)(lo a:Option Int):R D:=match x with
 |.lst Y=>.ok (.lst (cutD Y lo a))
 |.tup Y=>if HT.sIx Y.length 0 lo=0/\HT.sIx Y.length Y.length a=Y.length then .bad else .ok (.tup (cutD Y lo a))
 |_=>.bad
def tH {lo B:Option dm}{C:Pos}{m n:Ev->R (Option Int)}(J:PB X a f)(L:PTO X lo m)(N:PTO X B n):
  PD X (.Subscript a (.Slice lo B none C) T) (λρ=>(f ρ).bind λx=>(m ρ).bind λl=>(n ρ).bind λh=>LI x l h):=by
 refine wA λi s σ H Q I o t O ρ E q=>?_;have u:∀x d l h g,B0 X.K g O x d->(∀p,g p=none->¬O p)->RC X g O (LI d l h) Q->tw X.K x l h g Q\/kq X.K x l h g Q:=λx d l h g r U q=>by
  cases d with
  |lst Y=>obtain⟨p,v,rfl,w,k⟩:=r.aa5;exact .inl ⟨p,v,rfl,w,λp b=>q _ _ (j7 b _) (.lst (N2.of j3) (U p b) ((rD k).same (j7 b _)))⟩
  |tup Y=>
   obtain⟨p,v,rfl,w,k⟩:=r.tupI;simp only[LI]at q;split at q
   .exact q.elim
   .rename_i hn;exact .inr ⟨p,v,rfl,w,by rw[k.length];exact hn,λp b=>q _ _ (j7 b _) (.tup (T8.of j3) ((rD k).same (j7 b _)))⟩
  |_=>exact aAh q
 refine KZ (RO.or XF) J L N i s σ H Q I ⟨o,t,O,ρ,E,?_⟩;dsimp only at q;cases y:f ρ with
 |ok d=>
  rw[y]at q;intro x H1 s1 r1;refine⟨o,t,O,ρ,E.grow s1,?_⟩;rw[R.aa0]at q;cases z:m ρ with
  |ok l=>
   rw[z]at q;intro H2 s2;refine⟨o,t,O,ρ,(E.grow s1).grow s2,?_⟩;cases A:n ρ with
   |ok h=>rw[A]at q;intro j e;have q':RC X H O (LI d l h) Q:=q;exact u x d l h j ((r1.same s2).same e) (λp b=>(((E.grow s1).grow s2).grow e).fresh b) (q'.grow<|s1.trans<|s2.trans e)
   |ex x=>rw[A]at q;exactλj e=>q j (s1.trans<|s2.trans e)
   |bad=>rw[A]at q;exact q
  |ex x=>rw[z]at q;exactλj e=>q j (s1.trans e)
  |bad=>rw[z]at q;exact q
 |ex x=>rw[y]at q;exact q
 |bad=>rw[y]at q;exact q
def IY {K:lb}{H:Hp}{O:cp->Prop}{vs:List V}{d:D}(r:Paired (B0 K H O) vs [d]):∃v,vs=[v]/\B0 K H O v d:=by
 cases r with
 |cons a b=>cases b;exact⟨_,rfl,a⟩
def pr2 {K:lb}{H:Hp}{O:cp->Prop}{vs:List V}{d d':D}(r:Paired (B0 K H O) vs [d,d']):∃v a,vs=[v,a]/\B0 K H O v d/\B0 K H O a d':=by
 cases r with
 |cons b f=>obtain⟨a,e,g⟩:=IY f;subst e;exact⟨_,_,rfl,b,g⟩
def GQ:List D->R D
 |[.lst Y]=>.ok (.int Y.length)
 |[.tup Y]=>.ok (.int Y.length)
 |_=>.bad
def U5:bZ X (.builtin "len") GQ:=by
 intro H O f e Q g r q;match e,q with
 |[.lst Y],q=>obtain⟨v,rfl,z⟩:=IY r;obtain⟨p,a,rfl,b,d⟩:=z.aa5;exact⟨_,gG,p,a,rfl,.inl b,q _ H (Same.refl _) (by rw[d.length];exact .int)⟩
 |[.tup Y],q=>obtain⟨v,rfl,z⟩:=IY r;obtain⟨p,a,rfl,b,d⟩:=z.tupI;exact⟨_,gG,p,a,rfl,.inr b,q _ H (Same.refl _) (by rw[d.length];exact .int)⟩
def zy:List D->R D
 |[.int i]=>.ok (.int (if i<0 then-i else i))
 |_=>.bad
def bq:bZ X (.builtin "abs") zy:=by
 intro H O b a Q d r q;match a,q with
 |[.int i],q=>obtain⟨v,rfl,z⟩:=IY r;cases z.aa6;exact⟨_,NU,i,rfl,q _ H (Same.refl _) .int⟩
def LM:List D->R D
 |[.lst Y]=>.ok (.tup Y)
 |[.tup Y]=>.ok (.tup Y)
 |_=>.bad
def LC:bZ X (.type "tuple") LM:=by
 intro H O g f Q h r q;match f,q with
 |[.lst Y],q=>obtain⟨v,rfl,z⟩:=IY r;obtain⟨p,b,rfl,a,d⟩:=z.aa5;exact⟨_,eU,p,b,rfl,.inl ⟨a,λl e=>q _ _ (j7 e _) (.tup (T8.of j3) (d.same<|j7 e _))⟩⟩
 |[.tup Y],q=>obtain⟨v,rfl,z⟩:=IY r;obtain⟨p,b,rfl,a,d⟩:=z.tupI;exact⟨_,eU,p,b,rfl,.inr ⟨a,q _ _ (Same.refl _) (.tup a d)⟩⟩
def tx:List D->R D
 |[.lst Y]=>.ok (.lst Y)
 |[.tup Y]=>.ok (.lst Y)
 |_=>.bad
def wH:bZ X (.type "list") tx:=by
 intro H O h g Q f r q;match g,q with
 |[.lst Y],q=>obtain⟨v,rfl,z⟩:=IY r;obtain⟨p,b,rfl,d,e⟩:=z.aa5;exact⟨_,gR,p,b,rfl,.inl d,λl a=>q _ _ (j7 a _) (.lst (N2.of j3) (f l a) (e.same<|j7 a _))⟩
 |[.tup Y],q=>obtain⟨v,rfl,z⟩:=IY r;obtain⟨p,b,rfl,d,e⟩:=z.tupI;exact⟨_,gR,p,b,rfl,.inr d,λl a=>q _ _ (j7 a _) (.lst (N2.of j3) (f l a) (e.same<|j7 a _))⟩
end
section
variable{K:lb}
def Kp.lst (k:Kp H O H' d){a:cp}{Y:List V}(n:¬O a)(h:N2 K H a Y)(f:∀o,K.lookup a=some o->¬d a):¬d a/\N2 K H' a Y:=by
 rcases h with(h|⟨o,h⟩)|h
 .exact⟨(k _ _ h n).2,.inl (.inl (k _ _ h n).1)⟩
 .exact⟨(k _ _ h n).2,.inl (.inr ⟨o,(k _ _ h n).1⟩)⟩
 .obtain⟨o,b,m,e,g⟩:=h;exact⟨f o e,.inr ⟨o,b,m,e,g⟩⟩
def Kp.tup (k:Kp H O H' d)(b:∀a,O a->∃o,H a=some o/\Mt o){a:cp}{Y:List V}(h:T8 K H a Y):T8 K H' a Y:=by
 rcases h with(h|⟨o,h⟩)|h
 .exact .inl (.inl (k _ _ h λz=>by obtain⟨o,q,m⟩:=b a z;rw[h]at q;cases q;exact m).1)
 .exact .inl (.inr ⟨o,(k _ _ h λz=>by obtain⟨o,q,m⟩:=b a z;rw[h]at q;cases q;exact m).1⟩)
 .exact .inr h
end
def Z2 (K:lb)(O:cp->Prop):Prop:=∀a o,K.lookup a=some o->¬O a
def Kp.rep {K:lb}{H H':Hp}{O b:cp->Prop}(k:Kp H O H' b)(e:∀a,O a->∃o,H a=some o/\Mt o)(f:Z2 K b){v:V}{d:D}(r:Rep K H O v d):Rep K H' b v d:=
 r.mono (λ_ _ h=>k.tup e h) (λa _ n h=>k.lst n h λo q=>f a o q) λa _ n h=>⟨(k a _ h n).2,(k a _ h n).1⟩
def Kp.ac1 {K:lb}{H H':Hp}{O b:cp->Prop}(k:Kp H O H' b)(e:∀a,O a->∃o,H a=some o/\Mt o)(f:Z2 K b){v:List V}{d:List D}(r:Reps K H O v d):Reps K H' b v d:=
 r.mono (λ_ _ h=>k.tup e h) (λa _ n h=>k.lst n h λo q=>f a o q) λa _ n h=>⟨(k a _ h n).2,(k a _ h n).1⟩
inductive Out where
 |nx (ρ:Ev)|rt (d:D)|bk (ρ:Ev)|ct (ρ:Ev)
def RS (X:Cx)(g:Hp)(h:cp->Prop)(H:Hp)(O:cp->Prop)(r:R Out)(D:Ends):Prop:=match r with
 |.ok (.nx ρ)=>∀f a b,EnvOk X.K g h a b f ρ->Z2 X.K b->Kp H O a b->D.nx f a
 |.ok (.bk ρ)=>∀f a b,EnvOk X.K g h a b f ρ->Z2 X.K b->Kp H O a b->D.bk f a
 |.ok (.ct ρ)=>∀f a b,EnvOk X.K g h a b f ρ->Z2 X.K b->Kp H O a b->D.ct f a
 |.ok (.rt d)=>∀v a,Same g a->Rep X.K a h v d->D.rt v a
 |.ex e=>∀a,Same g a->XW X e a
 |.bad=>False
def tS (X:Cx)(a:Hp)(b:cp->Prop)(F:Ev->R Out):TS:=λD σ H=>∃O ρ,EnvOk X.K a b H O σ ρ/\Z2 X.K O/\RS X a b H O (F ρ) D
def mZ (X:Cx)(st:dC)(F:Ev->R Out):Prop:=∀a b,PS X st (tS X a b F)
def aL (X:Cx)(st:List dC)(F:Ev->R Out):Prop:=∀a b,tZ X st (tS X a b F)
def ZS {X:Cx}{st:dC}{t t':TS}(h:PS X st t)(i:∀D σ H,t' D σ H->t D σ H):PS X st t':=λa s σ H D I q=>h a s σ H D I (i D σ H q)
def UR {X:Cx}{st:List dC}{t t':TS}(h:tZ X st t)(i:∀D σ H,t' D σ H->t D σ H):tZ X st t':=λa s σ H D I q=>h a s σ H D I (i D σ H q)
def AE {X:Cx}{st:dC}{t:TS}{F:Ev->R Out}{a:Hp}{b:cp->Prop}(h:PS X st t)(i:∀D σ H O ρ,EnvOk X.K a b H O σ ρ->Z2 X.K O->RS X a b H O (F ρ) D->t D σ H):PS X st (tS X a b F):=ZS h λD σ H ⟨O,ρ,E,f,q⟩=>i D σ H O ρ E f q
def jy {X:Cx}{st:List dC}{t:TS}{F:Ev->R Out}{a:Hp}{b:cp->Prop}(h:tZ X st t)(i:∀D σ H O ρ,EnvOk X.K a b H O σ ρ->Z2 X.K O->RS X a b H O (F ρ) D->t D σ H):tZ X st (tS X a b F):=UR h λD σ H ⟨O,ρ,E,f,q⟩=>i D σ H O ρ E f q
def RS.grow {X:Cx}{i:Hp}{j:cp->Prop}{H l:Hp}{O m:cp->Prop}{r:R Out}{D:Ends}(h:RS X i j H O r D)(k:Kp H O l m):RS X i j l m r D:=by
 cases r with
 |ok o=>
  cases o with
  |nx ρ=>exactλa b g E f q=>h a b g E f (k.trans q)
  |bk ρ=>exactλa b g E f q=>h a b g E f (k.trans q)
  |ct ρ=>exactλa b g E f q=>h a b g E f (k.trans q)
  |rt d=>exact h
 |ex e=>exact h
 |bad=>exact h
def B5 (r:R Out)(F:Ev->R Out):R Out:=match r with
 |.ok (.nx ρ)=>F ρ
 |r=>r
section
variable{st:dC} {rest:List dC}
def RS.seq {a:Hp}{b:cp->Prop}{H:Hp}{O:cp->Prop}{r:R Out}{D:Ends}(h:RS X a b H O (B5 r G) D):RS X a b H O r {D with nx:=tS X a b G D}:=by
 cases r with
 |ok o=>
  cases o with
  |nx ρ=>exactλi j g E f k=>⟨g,ρ,E,f,(show RS X a b H O (G ρ) D from h).grow k⟩
  |bk ρ=>exact h
  |ct ρ=>exact h
  |rt d=>exact h
 |ex e=>exact h
 |bad=>exact h
def n4:aL X [] (λρ=>.ok (.nx ρ)):=λa b=>jy TH λD σ H O ρ E f q=>q σ H O E f (Kp.refl _ _)
def c5 (d:mZ X st F)(e:aL X rest G):aL X (st::rest) (λρ=>B5 (F ρ) G):=λa b=>jy (QA (d a b)<|e a b) λD σ H O ρ E f q=>⟨O,ρ,E,f,RS.seq q⟩
def d7 (a:mZ X st F):aL X [st] F:=λb d=>FI (a b d)
def j1 {e:dm}{f:Ev->R D}(g:PD X e f):mZ X (.Return (some e) h) (λρ=>(f ρ).bind λd=>.ok (.rt d)):=λi j=>AE (MA g) λD σ H O ρ E k q=>⟨i,j,O,ρ,E,by
 cases a:f ρ with
 |ok d=>rw[a]at q;exactλv b s r=>q v b (E.same.trans s) (r.sub E.sub)
 |ex x=>rw[a]at q;exactλb s=>q b (E.same.trans s)
 |bad=>rw[a]at q;exact q⟩
def j2 (i:Nat){x:Str}{e:dm}{f:Ev->R D}{a:Pos}(j:PD X e f)(k:X.N.Nodup)(l:X.N[i]?=some x:=by rfl)(m:Loc X.env.scope x:=by first|exact aCn rfl|exact aBA rfl)
  (n:ff e (some (.Name x a)) b.line X.env=pure false:=by rfl) (o:X.fn x=true\/X.env.scope.names.lookup x=some .local:=by first|exact .inl rfl|exact .inr rfl|assumption):
  mZ X (.Assign [.Name x a] e b) (λρ=>(f ρ).bind λd=>.ok (.nx (ρ.set i (.v d)))):=λp t=>AE (KC k l m j n o) λD σ H O ρ E u q=>⟨p,t,O,ρ,E,by
 cases g:f ρ with
 |ok d=>rw[g]at q;exactλv h s r=>q _ h O ((E.grow s).set i r) u (Kp.of s)
 |ex x=>rw[g]at q;exactλh s=>q h (E.same.trans s)
 |bad=>rw[g]at q;exact q⟩
def x9 {c:dm}{a b:List dC}{d:Ev->R Bool}(j:FJ X c d)(k:aL X a F)(l:aL X b G):mZ X (.If c a b m) (λρ=>(d ρ).bind λt=>if t=true then F ρ else G ρ):=λe f=>AE (xj j (k e f)<|l e f) λD σ H O ρ E h q=>⟨e,f,O,ρ,E,by
 cases g:d ρ with
 |ok t=>
  rw[g]at q;intro i s;cases t with
  |true=>rw[kn rfl];exact⟨O,ρ,E.grow s,h,RS.grow q (Kp.of s)⟩
  |false=>rw[ku aBc];exact⟨O,ρ,E.grow s,h,RS.grow q (Kp.of s)⟩
 |ex x=>rw[g]at q;exactλi s=>q i (E.same.trans s)
 |bad=>rw[g]at q;exact q⟩
def YL (K:lb)(J:It)(H:Hp)(O:cp->Prop)(ds:List D):Prop:=∀b e,Kp H O b e->Z2 K e->(∀a,O a->∃o,H a=some o/\Mt o)->(∀a,e a->∃o,b a=some o/\Mt o)->∀i:Nat,
 (∀d,ds[i]?=some d->J.go i b/\∀x f,J.yld i b x f->Same b f/\Rep K f e x d)/\(ds[i]?=none->J.stop i b)
def tI (X:Cx)(f:Ev->R (List D)):TI:=λσ H R=>∃b d O ρ,EnvOk X.K b d H O σ ρ/\Z2 X.K O/\match f ρ with
 |.ok g=>∀J a,Same H a->YL X.K J a O g->R J a
 |.ex e=>∀a,Same H a->XW X e a
 |.bad=>False
def VE (X:Cx)(a y8:dm)(f:Ev->R (List D)):Prop:=PI X a y8 (tI X f)
def DK (h:PI X b y8 t)(i:∀σ H R,t' σ H R->t σ H R):PI X b y8 t':=λa s σ H R I q=>h a s σ H R I (i σ H R q)
def P8:D->R (List D)
 |.lst Y=>.ok Y
 |_=>.bad
def DQ:D->R (List D)
 |.tup Y=>.ok Y
 |_=>.bad
def n8 (h:PD X y8 f):VE X C y8 (λρ=>(f ρ).bind P8):=DK (UI h) λσ H R ⟨m,p,O,ρ,E,I,q⟩=>⟨m,p,O,ρ,E,by
 dsimp only at q;cases e:f ρ with
 |ok d=>
  rw[e]at q;cases d with
  |lst Y=>
   intro v t s r;cases r with
   |lst h n r=>
    rename_i a b;refine⟨a,rfl,⟨b,h⟩,q (Itl X.K a) t s ?_⟩;intro J L k j u w i;obtain⟨N,g⟩:=k.lst n h λo q=>j a o q;have y:=k.ac1 u j r;refine⟨λd e=>?_,λe=>⟨b,g,by rw[r.length];exact aBS.mp e⟩⟩;obtain⟨v,l,z⟩:=y.get e;exact⟨⟨b,v,g,l⟩,by rintro x Q ⟨A,B⟩;subst A;have:=B b g;rw[l]at this;cases this;exact⟨Same.refl _,z⟩⟩
  |_=>exact aAh q
 |ex x=>rw[e]at q;exact q
 |bad=>rw[e]at q;exact q⟩
def RE (h:PD X y8 f):VE X A y8 (λρ=>(f ρ).bind DQ):=DK (YE h) λσ H R ⟨m,n,O,ρ,E,B,q⟩=>⟨m,n,O,ρ,E,by
 dsimp only at q;cases e:f ρ with
 |ok d=>
  rw[e]at q;cases d with
  |tup Y=>
   intro v o s r;cases r with
   |tup h r=>
    rename_i a b;refine⟨a,rfl,⟨b,h⟩,q (Itt X.K a) o s ?_⟩;intro C I k p j t i;have g:=k.tup j h;have u:=k.ac1 j p r;refine⟨λd e=>?_,λe=>⟨b,g,by rw[r.length];exact aBS.mp e⟩⟩;obtain⟨v,l,w⟩:=u.get e;exact⟨⟨b,v,g,l⟩,by rintro x J ⟨y,z⟩;subst y;have:=z b g;rw[l]at this;cases this;exact⟨Same.refl _,w⟩⟩
  |_=>exact aAh q
 |ex x=>rw[e]at q;exact q
 |bad=>rw[e]at q;exact q⟩
def fy (lo c:Int)(n:Nat):It:=⟨λi _=>i<n,λi H x a=>a=H/\x=.int (lo+i*c),λi _=>n<=i⟩
def zU {P:cu}{w:cz}{K:lb}{J:dm}(it:cp)(lo c:Int)(n:Nat):Turn P w K J (fy lo c n) [it] it (λi h=>IsRangeIter h it (lo+(i:Nat)*c) ((n:Int)-(i:Nat)) c)where
 mem:=by simp
 obj:=λi h st b d=>by
  have e:b=it:=by simpa using d
  subst e;exact⟨_,st,λv z=>by have L:Data.fields _=Data.cell v:=z;cases L⟩
 keep:=λi h g st k=>k it (by simp) _ st
 item:=by intro X l m p q i a s σ H E I j st r;subst l m p;obtain⟨u,x,N,y,A,B⟩:=j it (by simp);have W:=Walks.range (prog:=X.prog) (w:=X.w) (I.ok.hd q) it lo c n;refine W.item i s _ _ r st λv g C O f kk=>?_;obtain⟨t,rfl⟩:=O;have Q:Inv X a σ H {s with heap:=g,toks:=C}:=I.turned (λb o d e=>kk b o (by simpa using d) e) u x y A B;exact⟨_,rfl,GJ (s:={s with heap:=g,toks:=C}) (n:= "range_iterator") f rfl rfl (by decide) ⟨.int (lo+i*c),H,Q,⟨t,rfl⟩,⟨rfl,rfl⟩,f,λb d=>(j b d).1⟩⟩
 done:=by intro X l m p q i a s σ H E I j st r;subst l m p;obtain⟨u,x,N,y,A,B⟩:=j it (by simp);exact wpAny_pyNext_range_end (I.ok.hd q) st (by have:n<=i:=r;lia) λg T=>⟨rfl,I.turned (t':=s.toks) (λb o d e=>T b o d e) u x y A B⟩
 self:=λ_ _ _ _ _ st h=>wpAny_pyIter_rangeiter st h
def AI (lo c:Int)(n:Nat):List D:=(aBv n).map λ(k:Nat)=>D.int (lo+(k:Int)*c)
def iZ (K:lb)(H:Hp)(O:cp->Prop)(lo c:Int)(n:Nat):YL K (fy lo c n) H O (AI lo c n):=by
 intro h j k l m b i;unfold AI;rw[aAF];by_cases a:i<n
 .rw[aEE a];refine⟨λd e=>?_,λe=>(by cases e)⟩;cases e;exact⟨a,by rintro x o ⟨f,g⟩;subst f g;exact⟨Same.refl _,.int⟩⟩
 .rw[aBS.mpr (by simpa using a)];exact⟨λd e=>(by cases e),λ_=>aEt a⟩
def lK (a b c:Int):Nat:=if a<b then((b-a-1)/c+1).toNat else 0
def JE (d:0<c):aCB a b c=(lK a b c:Int):=by
 unfold aCB lK;rw[kn (by lia)];split
 .have:0<=(b-a-1)/c:=Int.ediv_nonneg (by lia) (by lia)
  lia
 .rfl
def HE (j:0<c)(k:c<2^30)(l:-(2^60)<=a)(i:a<2^60)(m:-(2^60)<=b)(n:b<2^60):aGw a b c=true:=by
 unfold aGw;have e:aCB a b c=if a<b then(b-a-1)/c+1 else 0:=by unfold aCB;rw[kn (by lia)]
 rw[e];have d:a<b->(b-a-1)/c<=b-a-1:=λh=>Int.ediv_le_self _ (by lia);have f:a<b->0<=(b-a-1)/c:=λh=>Int.ediv_nonneg (by lia) (by lia);have g:a<b->(b-a-1)/c*c<=b-a-1:=λh=>Int.ediv_mul_le _ (by lia);simp only[Builtin.Range.rangeFitsLong,aAK,Bool.or_eq_true,decide_eq_true_eq,beq_iff_eq,show c>0 by lia,if_true];split
 .rename_i h;have d:=d h;have f:=f h;have g:=g h;generalize(b-a-1)/c=q at*
  lia
 .lia
def sJ (a b c:Int):Prop:=0<c/\c<2^30/\-(2^60)<=a/\a<2^60/\-(2^60)<=b/\b<2^60
instance(a b c:Int):Decidable (sJ a b c):=inferInstanceAs (Decidable<|_/\_)
def fO:List D->R (List D)
 |[.int b]=>if sJ 0 b 1 then .ok (AI 0 1 (lK 0 b 1))else .bad
 |[.int a,.int b]=>if sJ a b 1 then .ok (AI a 1 (lK a b 1))else .bad
 |[.int a,.int b,.int c]=>if sJ a b c then .ok (AI a c (lK a b c))else .bad
 |_=>.bad
def jT {R:It->Hp->Prop}{E:A3}(I:Inv X d σ H s)(h:sJ a b c)(q:R (fy a c (lK a b c)) H):a9 (cq X.prog X.w) X.A (pyIter (.ref s.heap.objs.size)) (PIE X d σ y R) E {s with heap:=s.heap.push {cls:=.type "range",data:=.fields #[.int a t,.int b u,.int c v]},toks:=tk}:=by
 obtain⟨g,i,j,k,l,m⟩:=h;refine wpAny_pyIter_range (IsRange.new ..) (HE g i j k l m) ?_;have f:Inv X d σ H {s with heap:=s.heap.push {cls:=.type "range",data:=.fields #[.int a t,.int b u,.int c v]},toks:=tk}:=I.kept λb o e=>aAc _ e;refine⟨(s.heap.push {cls:=.type "range",data:=.fields #[.int a t,.int b u,.int c v]}).objs.size,[(s.heap.push {cls:=.type "range",data:=.fields #[.int a t,.int b u,.int c v]}).objs.size],_,_,H,rfl,
  f.kept (t':=tk) λb o e=>aAc _ e,zU _ a c (lK a b c),?_,λn p=>?_,q⟩
 .have r:a+((0:Nat):Int)*c=a:=by simp
  have x:((lK a b c:Nat):Int)-((0:Nat):Int)=aCB a b c:=by rw[JE g];simp
  show IsRangeIter _ _ (a+((0:Nat):Int)*c) (((lK a b c:Nat):Int)-((0:Nat):Int)) c;rw[r,x];exact aAn _ rfl
 .have e:n=(s.heap.push {cls:=.type "range",data:=.fields #[.int a t,.int b u,.int c v]}).objs.size:=by simpa using p
  subst e;exact f.ad8 (aAg _) (f.hok.fresh<|aAg _)
def NV {R:It->Hp->Prop}{O:cp->Prop}(I:Inv X e σ H s)(r:Paired (B0 X.K H O) vs ds)(f:l9 vs i)(h:fO ds=.ok j)(q:∀J,YL X.K J H O j->R J H):a9 (cq X.prog X.w) X.A (call (.type "range") i) (λv k=>a9 (cq X.prog X.w) X.A (pyIter v) (PIE X e σ y R) X.xe k) X.xe s:=by
 match ds,h with
 |[.int b],h=>
  obtain⟨v,rfl,z⟩:=IY r;cases z.aa6;obtain⟨u,rfl,t,rfl⟩:=vals1 f;simp only[fO]at h;split at h
  .rename_i d;cases h;exact call_range_1 (jT I d<|q _<|iZ _ _ _ _ _ _)
  .cases h
 |[.int a,.int b],h=>
  obtain⟨v,l,rfl,z,g⟩:=pr2 r;cases z.aa6;cases g.aa6;obtain⟨u,m,rfl,⟨t,rfl⟩,⟨n,rfl⟩⟩:=vals2 f;simp only[fO]at h;split at h
  .rename_i d;cases h;exact call_range_2 (jT I d<|q _<|iZ _ _ _ _ _ _)
  .cases h
 |[.int a,.int b,.int c],h=>
  cases r with
  |cons o r=>
   obtain⟨v,l,rfl,z,g⟩:=pr2 r;cases o.aa6;cases z.aa6;cases g.aa6;cases f with
   |cons p f=>
    obtain⟨u,m,rfl,⟨t,rfl⟩,⟨n,rfl⟩⟩:=vals2 f;obtain⟨B,rfl⟩:=p;simp only[fO]at h;split at h
    .rename_i d;cases h;have x:=d;obtain⟨C,E,_⟩:=x;exact call_range_3 (by lia) (jT (tk:=s.toks) I d<|q _<|iZ _ _ _ _ _ _) (.inl (PyProof.noPylong_small (by lia)))
    .cases h
def jU {t e:dm}{es:List dm}{p:Pos}{f:Ev->R (List D)}(u:XZ X (e::es) f)(v:Gl X "range":=by rfl)(w:X.mg "range"=none:=by assumption)
  (y:bb (e::es) X.env=(false,d3 e X.env)::bb es X.env:=by rfl) (z:(dn i (bb es X.env)).any (·.1)=false:=by rfl):
  VE X t (.Call (.Name "range" p) (e::es) [] i) (λρ=>(f ρ).bind fO):=by
 rintro j s σ H Q I ⟨A,B,O,ρ,E,Y,q⟩;dsimp only at q;refine Call_ (O6 I v w boot_range<|aBm (D4 (u i j s σ H (λl g=>∃h k,Same H g/\Paired (B0 X.K g O) l h/\fO h=.ok k/\∀J,YL X.K J g O k->Q J g) I ⟨A,B,O,ρ,E,?_⟩) λus m C=>?_) y z)
 .cases n:f ρ with
  |ok h=>
   rw[n]at q;intro l g m o;rw[R.aa0]at q;cases d:fO h with
   |ok k=>rw[d]at q;exact⟨h,k,m,o,d,λJ L=>q J g m L⟩
   |ex x=>
    rw[d]at q;match h,d with
    |[.int b],d=>simp only[fO]at d;split at d<;>cases d
    |[.int a,.int b],d=>simp only[fO]at d;split at d<;>cases d
    |[.int a,.int b,.int c],d=>simp only[fO]at d;split at d<;>cases d
   |bad=>rw[d]at q;exact q.elim
  |ex x=>rw[n]at q;exact q
  |bad=>rw[n]at q;exact q
 .obtain⟨l,g,N,o,h,k,sm,r,T,U⟩:=C;exact NV N r o T U
def tG (X:Cx)(G:D->Ev->R Ev):TG:=λv σ H Q=>∃e f O ρ d a,EnvOk X.K e f H O σ ρ/\Rep X.K H O v d/\G d ρ=.ok a/\∀g b,Same H b->EnvOk X.K e f b O g a->Q g b
def JR (X:Cx)(a:dm)(G:D->Ev->R Ev):Prop:=PG X a (tG X G)
def ZZ (h:PG X b t)(i:∀v σ H Q,t' v σ H Q->t v σ H Q):PG X b t':=λa s σ H v u Q I r q=>h a s σ H v u Q I r (i v σ H Q q)
def k8 (i:Nat)(a:X.N.Nodup)(b:X.N[i]?=some x:=by rfl)(f:Loc X.env.scope x:=by first|exact aCn rfl|exact aBA rfl)(g:X.fn x=true\/X.env.scope.names.lookup x=some .local:=by first|exact .inl rfl|exact .inr rfl|assumption):
  JR X (.Name x h) (λd ρ=>.ok (ρ.set i (.v d))):=ZZ (QM a b f g)<|by
 rintro v σ H Q ⟨k,l,O,ρ,d,j,E,r,e,q⟩;cases e;exact q _ H (Same.refl _) (E.set i r)
def tGs (X:Cx)(G:List D->Ev->R Ev):aj:=λh σ H Q=>∃d e O ρ f a,EnvOk X.K d e H O σ ρ/\Reps X.K H O h f/\G f ρ=.ok a/\∀g b,Same H b->EnvOk X.K d e b O g a->Q g b
def RB (X:Cx)(a:List dm)(G:List D->Ev->R Ev):Prop:=gz X a (tGs X G)
def FK {b:List dm}{t t':aj}(h:gz X b t)(i:∀v σ H Q,t' v σ H Q->t v σ H Q):gz X b t':=λa s σ H v u Q I r q=>h a s σ H v u Q I r (i v σ H Q q)
def eS:List D->Ev->R Ev
 |[],ρ=>.ok ρ
 |_,_=>.bad
def K4 (G:D->Ev->R Ev)(b:List D->Ev->R Ev):List D->Ev->R Ev
 |d::e,ρ=>(G d ρ).bind λa=>b e a
 |_,_=>.bad
def Q3:RB X [] eS:=FK SN<|by
 rintro b σ H Q ⟨d,f,O,ρ,g,a,E,r,e,q⟩;cases r with
 |nil=>cases e;exact⟨rfl,q σ H (Same.refl _) E⟩
 |cons _ _=>cases e
def p7 {e:dm}{es:List dm}{G:D->Ev->R Ev}{g:List D->Ev->R Ev}(m:JR X e G)(n:RB X es g)
  (o:(et (e::es) X.env).map (·.2)=i5 e X.env::(et es X.env).map (·.2):=by rfl):RB X (e::es) (K4 G g):=FK (NI m n o)<|by
 rintro h σ H Q ⟨i,j,O,ρ,k,f,E,r,e,q⟩;cases r with
 |nil=>cases e
 |@cons v d h k r p=>
  simp only[K4]at e;cases b:G d ρ with
  |ok a=>rw[b]at e;exact⟨v,h,rfl,i,j,O,ρ,d,a,E,r,b,λs A l t=>⟨i,j,O,a,k,f,t,p.same l,e,λu w y z=>q u w (l.trans y) z⟩⟩
  |ex x=>rw[b]at e;cases e
  |bad=>rw[b]at e;cases e
def bS (n:Nat)(b:List D->Ev->R Ev):D->Ev->R Ev
 |.tup a,ρ=>if a.length=n then b a ρ else .bad
 |.lst a,ρ=>if a.length=n then b a ρ else .bad
 |_,_=>.bad
end
section
theorem sK (f:t≠it):∀(n i:Nat) (s:be) (Q:List ae->be->Prop),s.heap.IsListIter it t i->s.heap.IsList t B->i+n<=B.size->
  (∀h',h'.IsListIter it t (i+n)->Heap.SameBut it s.heap h'->Q ((B.toList.drop i).take n) {s with heap:=h'})->a9 (cq prog w) A (draw (.ref it) n) Q E s
 |0,i,s,Q,a,_,_,e=>by show a9 _ _ (pure []) Q E s;exact aAb (by simpa using e s.heap a (aGH ..))
 |n+1,i,s,Q,a,g,l,e=>by
  have h:i<B.size:=by omega
  show a9 _ _ (fo (.ref it)>>=_) Q E s;refine aAa (wpAny_pyNext_list_item a g (x:=B[i]) (by simp[h]) λj b k=>?_);refine aAa (aAL (sK f n (i+1) _ _ b (g.extBut k.extBut f) (by omega) λm d o=>aAb ?_));have p:B.toList.drop i=B[i]::B.toList.drop (i+1):=by simp[aDN,h]
  have:=e m (by rw[show i+(n+1)=i+1+n by omega];exact d) (k.trans o);rw[p,List.take_succ_cons]at this;exact this
def kD {Q:List ae->be->Prop}(n:A.handled=none)(g:s.heap.IsList t B)(p:∀h',Heap.ExtBut s.heap.objs.size s.heap h'->Q B.toList {s with heap:=h'}):a9 (cq prog w) A (unpackItems (.ref t) B.size none) Q E s:=by
 have k:t≠s.heap.objs.size:=by obtain⟨o,h,_⟩:=g;exact aAl (aAf h)
 unfold unpackItems;refine aAa ?_
 .unfold notIterableAtAll;refine aAa (aBB g.typeIs slot_list_iter.lookup ?_);refine aAb ?_;simp only[aAq,if_false];refine aAa (aAL<|aDH g ?_);have a:(s.heap.push {cls:=.type "list_iterator",data:=.fields #[.ref t,.int 0 0]}).IsList t B:=by obtain⟨o,h,r⟩:=g;exact⟨o,aAc _ h,r⟩
  refine aAa (aAL (sK k B.size 0 _ _ ⟨_,aAn _ rfl,rfl,rfl⟩ a (by omega) λd f l=>?_));have q:List.take B.size (List.drop 0 B.toList)=B.toList:=by rw[aGo];exact aDp (by simp)
  rw[q];rw[ku (by simp)];have i:d.IsList t B:=a.extBut l.extBut k;refine aAa (aAL (wpAny_pyNext_list_end n f i (by simp) λu j=>?_));simp only[Option.isSome_none,aAq,if_false];refine aAb (p u λb o m e=>j b o m (l.extBut b o m<|aAc _ e))
def gM {d}{Q:Unit->be->Prop}(e:A.handled=none)(f:s.heap.IsList t B)(g:(et a env).length=B.size)(b:(et a env).findIdx? (·.1)=none)(h:∀h',Heap.ExtBut s.heap.objs.size s.heap h'->a9 (cq prog w) A (assignInOrder ((et a env).map (·.2)) B.toList) Q E {s with heap:=h'}):
  a9 (cq prog w) A (i5 (.Tuple a d i) env (.ref t)) Q E s:=by
 rw[assign_Tuple];refine aAa (aEy ?_);unfold unpack;rw[g,b];exact aAa (aAL<|kD e f h)
end
section
def W8 (B:X.calm=true)(h:RB X es T)(C:(et es X.env).length=n:=by rfl)(J:(et es X.env).findIdx? (·.1)=none:=by rfl):JR X (.Tuple es k U) (bS n T):=by
 rintro f s σ H v u Q I r ⟨L,N,O,ρ,d,g,E,Y,e,q⟩;cases Y with
 |@tup a l m p i=>
  cases r;simp only[bS]at e;split at e
  .rename_i t;obtain⟨w,j,x,hz⟩:=I.tuple p;refine assign_Tuple_tuple (I.ok.hd B) x (by simp[C,<-t,<-i.length,j.length]) J λy z=>?_;have A:Inv X f σ H {s with heap:=y}:=I.kept (t':=s.toks) λb o e=>z b o (aAl<|aAf e) e;exact h f _ σ H l _ Q A (by simpa using j) ⟨L,N,O,ρ,m,g,E,i,e,q⟩
  .cases e
 |@lst a l m p _ i=>
  cases r;simp only[bS]at e;split at e
  .rename_i t;obtain⟨w,j,x,hz⟩:=I.list p;refine gM (I.ok.hd B) x.isList (by simp[C,<-t,<-i.length,j.length]) J λy z=>?_;have A:Inv X f σ H {s with heap:=y}:=I.kept (t':=s.toks) λb o e=>z b o (aAl<|aAf e) e;exact h f _ σ H l _ Q A (by simpa using j) ⟨L,N,O,ρ,m,g,E,i,e,q⟩
  .cases e
 |_=>cases e
def MX (f:Ev->R D)(G:D->Ev->R Ev):Ev->R Out:=λρ=>(f ρ).bind λd=>match G d ρ with
 |.ok a=>.ok (.nx a)
 |_=>.bad
def EI (m:PD X e f)(n:JR X a G)(o:hH [a] e g.line X.env=pure false:=by rfl)(p:hV [a] e X.env=pure none:=by rfl)(t:(et [a] X.env).map (·.2)=[i5 a X.env]:=by rfl):mZ X (.Assign [a] e g) (MX f G):=λj k=>AE (CL m n o p t) λD σ H O ρ E u q=>⟨j,k,O,ρ,E,by
 unfold MX at q;cases h:f ρ with
 |ok d=>
  rw[h,R.aa0]at q;intro v l s r;cases b:G d ρ with
  |ok i=>rw[b]at q;exact⟨j,k,O,ρ,d,i,E.grow s,r,b,λw y z A=>q w y O A u (Kp.of<|s.trans z)⟩
  |ex x=>rw[b]at q;exact aAh q
  |bad=>rw[b]at q;exact aAh q
 |ex x=>rw[h]at q;exactλl s=>q l (E.same.trans s)
 |bad=>rw[h]at q;exact q⟩
def KO (i j:Nat){e g AH}(o:X.calm=true)(p:X.N.Nodup)(t:JP X [a,b] f)(u:X.N[i]?=some x:=by rfl)(w:X.N[j]?=some y:=by rfl)(z:i≠j:=by decide)(A:X.env.scope.names.lookup x=some .local:=by rfl)(B:X.env.scope.names.lookup y=some .local:=by rfl)(C:hV [.Tuple [.Name x m,.Name y n] e pt] (.Tuple [a,b] g AH) X.env=pure (some [x,y]):=by rfl)(I:hH [.Tuple [.Name x m,.Name y n] e pt] (.Tuple [a,b] g AH) h.line X.env=pure false:=by rfl):
  mZ X (.Assign [.Tuple [.Name x m,.Name y n] e pt] (.Tuple [a,b] g AH) h) (λρ=>(f ρ).bind λds=>match ds with
   |[d,d']=>.ok (.nx ((ρ.set i (.v d)).set j (.v d')))
   |_=>.bad):=λJ L=>AE (ZG o p u w z A B t C I) λD σ H O ρ E Q q=>⟨J,L,O,ρ,E,by
 cases k:f ρ with
 |ok ds=>
  rw[k,R.aa0]at q;intro Y l s r;cases r with
  |nil=>exact aAh q
  |cons T r=>
   cases r with
   |nil=>exact aAh q
   |cons U r=>
    cases r with
    |nil=>exact⟨_,_,rfl,q _ l O (((E.grow s).set i T).set j U) Q (Kp.of s)⟩
    |cons _ _=>exact aAh q
 |ex x=>rw[k]at q;exactλl s=>q l (E.same.trans s)
 |bad=>rw[k]at q;exact q⟩
def M2 (G:D->Ev->R Ev)(F:Ev->R Out):List D->Ev->R Out
 |[],ρ=>.ok (.nx ρ)
 |d::e,ρ=>match G d ρ with
  |.ok b=>match F b with
   |.ok (.nx a)=>M2 G F e a
   |.ok (.ct a)=>M2 G F e a
   |.ok (.bk a)=>.ok (.nx a)
   |r=>r
  |_=>.bad
def C7 (hp:PassesOwn (cq X.prog X.w) X.A X.env X.xe)(hc:X.calm=true)(hi:VE X tg y8 f)(hg:JR X tg G)(hb:aL X body F)(hs:∀x,fg y8 X.env x=pure x:=by intro _;rfl):mZ X (.For tg y8 body [] pos) (λρ=>(f ρ).bind λds=>M2 G F ds ρ):=λk l=>AE (XR hp hc hi hg (hb k l) hs) λD σ H O ρ E fk q=>⟨k,l,O,ρ,E,fk,by
 cases Q:f ρ with
 |ex x=>rw[Q]at q;exactλj s=>q j (E.same.trans s)
 |bad=>rw[Q]at q;exact q
 |ok ds=>
  rw[Q,R.aa0]at q;intro J H1 T hJ;refine⟨λi m U j=>m=ds.length-i/\i<=ds.length/\∃g h,EnvOk X.K k l j g U h/\Z2 X.K g/\Kp H1 O j g/\RS X k l j g (M2 G F (ds.drop i) h) D,⟨ds.length,by simp,aAX _,O,ρ,E.grow T,fk,Kp.refl _ _,?_⟩,?_⟩
  .rw[aGo];exact q.grow (Kp.of T)
  .rintro i m U j ⟨rfl,hi,g,h,Y,n,k',a⟩;have z:=hJ j g k' n (E.grow T).trk Y.trk i;by_cases ao:i<ds.length
   .obtain⟨go,yl⟩:=z.1 ds[i] (aAj ao);refine .inr ⟨go,λwe v=>∃L b,EnvOk X.K k l v L we b/\Z2 X.K L/\Kp H1 O v L/\RS X k l v L (M2 G F (ds.drop<|i+1) b) D,λwe v p=>⟨ds.length-(i+1),by omega,rfl,ao,p⟩,λx v y=>?_⟩;obtain⟨s2,r2⟩:=yl x v y;rw[aDN ao,M2]at a;cases N:G ds[i] h with
    |ex x=>rw[N]at a;exact(show False from a).elim
    |bad=>rw[N]at a;exact(show False from a).elim
    |ok r=>
     rw[N]at a;dsimp only at a;refine⟨k,l,g,h,ds[i],r,Y.grow s2,r2,N,λqr H3 s3 E3=>⟨g,r,E3,n,?_⟩⟩;have kk:Kp j g H3 g:=Kp.of (s2.trans s3);cases e3:F r with
     |ex x=>rw[e3]at a;exact a
     |bad=>rw[e3]at a;exact a
     |ok o=>
      rw[e3]at a;cases o with
      |nx b=>exactλt H4 B C I u=>⟨B,b,C,I,k'.trans (kk.trans u),RS.grow a (kk.trans u)⟩
      |ct b=>exactλt H4 B C I u=>⟨B,b,C,I,k'.trans (kk.trans u),RS.grow a (kk.trans u)⟩
      |bk b=>exactλt H4 B C I u=>a t H4 B C I (kk.trans u)
      |rt d=>exact a
   .have e:i=ds.length:=by omega
    subst e;rw[List.drop_length,M2]at a;exact .inl ⟨z.2 (by simp),a U j g Y n (Kp.refl _ _)⟩⟩
def R3 (c:Ev->R Bool)(F:Ev->R Out):Nat->Ev->R Out
 |0,_=>.bad
 |n+1,ρ=>(c ρ).bind λb=>if b=true then(match F ρ with
  |.ok (.nx a)=>R3 c F n a
  |.ok (.ct a)=>R3 c F n a
  |.ok (.bk a)=>.ok (.nx a)
  |r=>r)else .ok (.nx ρ)
def jM (n:Ev->Nat)(Y:PassesOwn (cq X.prog X.w) X.A X.env X.xe)(hc:FJ X c y)(hb:aL X body F):mZ X (.While c body [] pos) (λρ=>R3 y F (n ρ) ρ):=λi j=>AE (ON Y hc<|hb i j) λD σ H O ρ E fk q=>by
 refine⟨λm I z=>∃f e,EnvOk X.K i j z f I e/\Z2 X.K f/\RS X i j z f (R3 y F m e) D,⟨n ρ,O,ρ,E,fk,q⟩,?_⟩;rintro m I z ⟨f,e,B,l,a⟩;cases m with
 |zero=>exact(show False from a).elim
 |succ m=>
  rw[R3]at a;refine⟨i,j,f,e,B,?_⟩;cases J:y e with
  |ex x=>rw[J]at a;exactλC k=>a C (B.same.trans k)
  |bad=>rw[J]at a;exact a
  |ok b=>
   rw[J,R.aa0]at a;intro C k;cases b with
   |false=>rw[ku aBc]at a⊢;exact a I C f (B.grow k) l (Kp.of k)
   |true=>
    rw[kn rfl]at a⊢;refine⟨λU L=>∃N r,EnvOk X.K i j L N U r/\Z2 X.K N/\RS X i j L N (R3 y F m r) D,λU L p=>⟨m,aDh m,p⟩,f,e,B.grow k,l,?_⟩;have kk:Kp z f C f:=Kp.of k;cases Q:F e with
    |ex x=>rw[Q]at a;exact a
    |bad=>rw[Q]at a;exact a
    |ok o=>
     rw[Q]at a;cases o with
     |nx g=>exactλh T s t u v=>⟨s,g,t,u,RS.grow a (kk.trans v)⟩
     |ct g=>exactλh T s t u v=>⟨s,g,t,u,RS.grow a (kk.trans v)⟩
     |bk g=>exactλh T s t u v=>a h T s t u (kk.trans v)
     |rt d=>exact a
end
def gq (K:lb)(n:Nat)(m:List D->R D):Sp:=λf H Q _=>∃O b d,Reps K H O f b/\b.length=n/\(∀a,O a->∃o,H a=some o/\Mt o)/\Tb H/\Z2 K O/\m b=.ok d/\∀v e,Same H e->Rep K e O v d->Q v e
def j6 (N:List Str)(ds:List D):Ev:=ds.map Sl.v++aCS (N.length-ds.length) Sl.no
def L9:R Out->R D
 |.ok (.rt d)=>.ok d
 |.ok (.nx _)=>.ok .non
 |.ex e=>.ex e
 |_=>.bad
def sD {K:lb}{H:Hp}{O:cp->Prop}{N:List Str}{vs:List V}{ds:List D}(r:Reps K H O vs ds)(t:∀a,O a->∃o,H a=some o/\Mt o)(tb:Tb H):EnvOk K H O H O (start N vs) (j6 N ds)where
 len:=by simp[L2.start,j6,r.length]
 same:=Same.refl H
 sub:=λ_ h=>h
 trk:=t
 trk0:=λa h=>let⟨o,q,_⟩:=t a h;⟨o,q⟩
 tab:=tb
 slot:=λi g h=>by
  unfold j6 at h;unfold L2.start;by_cases b:i<ds.length
  .rw[aAZ (by simpa using b),aAF]at h;cases e:ds[i]? with
   |none=>rw[e]at h;cases h
   |some d=>rw[e]at h;have f:Sl.v d=g:=Option.some.inj h;subst f;obtain⟨v,k,l⟩:=r.get e;exact⟨v,by rw[aAZ (by rw[aAi,r.length];exact b),aAF,k];rfl,l⟩
  .rw[aAB (by simpa using b),aBy]at h;split at h
   .cases h;trivial
   .cases h
 inj:=λi j x y a h _ o=>by
  unfold j6 at h;by_cases b:i<ds.length
  .rw[aAZ (by simpa using b),aAF]at h;cases e:ds[i]? with
   |none=>rw[e]at h;cases h
   |some d=>rw[e]at h;have f:Sl.v d=x:=Option.some.inj h;subst f;exact o.elim
  .rw[aAB (by simpa using b),aBy]at h;split at h
   .cases h;exact o.elim
   .cases h
section
variable{K:lb}
abbrev TF (P:cu)(w:cz)(K:lb)(mg:cE)(base:de)(N:List Str)(qual:Str)(sc:kb)(f:cp)(L:ae)(A:cy)(a:List Env)(s:be)(H:Hp)(E:XK):Cx:=(CG wG P w K mg base N qual sc f L A a s H E).nox
def fnD {x qual:Str}{st:dC}{f:cp}{fd:ek}{N ps:List Str}{k:Nat}{m:List D->R D}{F:Ev->R Out}(j:Fun K x qual st f fd)(S:FnScope N ps (c9 st))
  (l:∀(L:ae) (A:cy) (a:List Env) (s:be) (H:Hp) (E:XK),Room k (A.deeper (envOfC qual (c9 st) s.heap.objs.size f L))->aL (TF P w K mg base N qual (c9 st) f L A a s H E) (t5 st) F)
  (n:∀ds d,ds.length=ps.length->m ds=.ok d->L9 (F (j6 N ds))=.ok d):FnOk P w K mg base wG (k+1) f fd ps (gq K ps.length m):=by
 refine j.ok S (by rintro p H Q E ⟨O,ds,d,r,g,_⟩;rw[r.length];exact g) (λL A a s H p Q E t u=>?_);obtain⟨O,ds,d,r,g,v,y,z,e,q⟩:=u;refine⟨_,l L A a s H E t H O,O,_,sD r v y,z,?_⟩;have h:=n ds d g e;cases i:F (j6 N ds)with
 |ok o=>
  rw[i]at h;cases o with
  |rt B=>have b:R.ok B=R.ok d:=h;injection b with b;subst b;exact q
  |nx ρ=>have b:R.ok D.non=R.ok d:=h;injection b with b;subst b;exactλJ C T I _ _=>q .non C I.same .non
  |bk ρ=>cases h
  |ct ρ=>cases h
 |ex x=>rw[i]at h;cases h
 |bad=>rw[i]at h;cases h
end
section
def uB (I:Inv X b σ H s)(O:cp->Prop)(t:∀a,O a->∃o,H a=some o/\Mt o):Z2 X.K O:=λa o d z=>by obtain⟨u,h,_⟩:=t a z;have:=(I.bs a o<|I.ok.mod.kin a o d).2;rw[h]at this;cases this
def UF (F:FnOk X.prog X.w X.K X.mg X.base wG k g o ps (gq X.K n m))(r:Room k X.A)(t:X.mg x=some (.ref g))(u:PySem.W.keepIn X.K (.ref g)=true)(y:Binds X.K o ps [])(B:JP X (e::es) f)(C:∀ρ ds,f ρ=.ok ds->ds.length=n)(J:Gl X x:=by rfl)(L:(x==ll)=false:=by decide)(N:bb (e::es) X.env=(false,d3 e X.env)::bb es X.env:=by rfl)(T:(dn i (bb es X.env)).any (·.1)=false:=by rfl):
  PD X (.Call (.Name x p) (e::es) [] i) (λρ=>(f ρ).bind m):=by
 refine wA λa s σ H Q I U Y O ρ E q=>?_;refine SX F r J t u y .nil zk B L N T a s σ H Q I ⟨U,Y,O,ρ,E,?_⟩;dsimp only at q;cases b:f ρ with
 |ex z=>rw[b]at q;exact q
 |bad=>rw[b]at q;exact q
 |ok ds=>
  rw[b,R.aa0]at q;intro vs H1 j r1;rw[aBR];have l:=E.grow j;cases h:m ds with
  |ex z=>rw[h]at q;exact(q H<|Same.refl _).elim
  |bad=>rw[h]at q;exact q.elim
  |ok d=>rw[h]at q;refine⟨O,ds,d,r1,C ρ ds b,l.trk,l.tab,?_,h,λv H' s2 r2=>q v H' (j.trans s2) r2⟩;exact uB I O E.trk
end
def JQ (env:Env):List (Str×eY)->List (Str×cp)->List (Str×cp)
 |[],B=>B
 |(n,k)::r,B=>JQ env r (if k=.free then(n,(env.cells.lookup n).getD 0)::B else B)
def eM (h:∀y∈d.names,y.2=.free->∃c,env.cells.lookup y.1=some c):closureFor d env=pure (JQ env d.names []):=by
 have p:∀(b:List (Str×eY)) (B:List (Str×cp)),(∀y∈b,y.2=.free->∃c,env.cells.lookup y.1=some c)->
   (forIn b B λ(x:Str×eY) (r:List (Str×cp))=>(match x with
    |(f,g)=>if(g==NameKind.free)=true then(do let a<-cellOf env f;pure (aCq ((f,a)::r)))else pure (aCq r):Sem (ForInStep<|List<|Str×cp)))=pure (JQ env b B):=by
  intro b;induction b with
  |nil=>intro B _;rfl
  |cons y r m=>
   intro B i;obtain⟨n,k⟩:=y;rw[aDa];by_cases j:k=.free
   .subst j;obtain⟨c,o⟩:=i (n,.free) aAU rfl;have e:cellOf env n=pure c:=by unfold cellOf;rw[o]
    simp only[beq_self_eq_true,if_true,e,pure_bind];rw[m _ λz l=>i z (aAe _ l)];simp[JQ,o]
   .have q:(k==NameKind.free)=false:=by simpa using j
    simp only[q,aAq,if_false,pure_bind];rw[m _ λz l=>i z (aAe _ l)];simp[JQ,j]
 have e:=p d.names [] h;show((forIn d.names ([]:List (Str×cp)) λ(x:Str×eY) (r:List (Str×cp))=>(match x with
    |(f,g)=>if(g==NameKind.free)=true then(do let a<-cellOf env f;pure (aCq ((f,a)::r)))else pure (aCq r):Sem (ForInStep<|List<|Str×cp)))>>=λs=>pure s)=_
 rw[e];rfl
theorem wP:∀(names:List (Str×eY)) (B:List (Str×cp)) {x:Str} {c:cp},(∀y∈names,y.2=.free->∃c,env.cells.lookup y.1=some c)->(∀x c,B.lookup x=some c->env.cells.lookup x=some c)->
  (JQ env names B).lookup x=some c->env.cells.lookup x=some c
 |[],B,x,c,_,b,h=>b x c h
 |(n,k)::r,B,x,c,f,b,h=>by
  refine wP r _ (λy l=>f y (aAe _ l)) (λd g a=>?_) h;by_cases e:k=.free
  .rw[kn e]at a;obtain⟨c0,i⟩:=f (n,k) aAU e;by_cases j:d=n
   .subst j;rw[aBM]at a;rw[i]at a;rw[i];exact a
   .rw[aBj,beq_eq_false_iff_ne.mpr j]at a;exact b d g a
  .rw[ku e]at a;exact b d g a
theorem uW:∀(names:List (Str×eY)) (B:List (Str×cp)) {x:Str},((x,NameKind.free)∈names\/∃c,B.lookup x=some c)->∃c,(JQ env names B).lookup x=some c
 |[],B,x,h=>by
  rcases h with h|h
  .cases h
  .exact h
 |(n,k)::r,B,x,h=>by
  refine uW r _ ?_;rcases h with h|⟨c,h⟩
  .rcases aAd.mp h with e|h
   .cases e;right;rw[kn rfl,aBM];exact⟨_,rfl⟩
   .exact .inl h
  .right;by_cases a:k=.free
   .rw[kn a,aBj];cases(x==n)with
    |true=>exact⟨_,rfl⟩
    |false=>exact⟨c,h⟩
   .rw[ku a];exact⟨c,h⟩
theorem iB {env:Env}:∀{names:List (Str×eY)} {x:Str},
  ((names.map λ(n,k)=>if(k==NameKind.free&&env.scope.kind==.function&&env.kindOf n==some .cell)then(n,aCc)else(n,k)).lookup x=some .cell\/
   (names.map λ(n,k)=>if(k==NameKind.free&&env.scope.kind==.function&&env.kindOf n==some .cell)then(n,aCc)else(n,k)).lookup x=some .free)->(x,NameKind.free)∈names\/names.lookup x=some .cell
 |[],_,h=>by rcases h with h|h<;>cases h
 |(n,k)::r,x,h=>by
  have d:=@iB env r x;rw[aAv]at h;dsimp only at h;by_cases b:x=n
  .subst b;by_cases a:(k==NameKind.free&&env.scope.kind==.function&&env.kindOf x==some .cell)=true
   .have e:k=.free:=by rw[aAK,aAK]at a;simpa using a.1.1
    subst e;exact .inl aAU
   .rw[ku a,aBM]at h;rcases h with h|h
    .right;rw[aBM];exact h
    .have:k=.free:=Option.some.inj h;subst this;exact .inl aAU
  .have f:(r.map λ(n,k)=>if(k==NameKind.free&&env.scope.kind==.function&&env.kindOf n==some .cell)then(n,aCc)else(n,k)).lookup x=some .cell\/
     (r.map λ(n,k)=>if(k==NameKind.free&&env.scope.kind==.function&&env.kindOf n==some .cell)then(n,aCc)else(n,k)).lookup x=some .free:=by
    by_cases a:(k==NameKind.free&&env.scope.kind==.function&&env.kindOf n==some .cell)=true
    .rw[kn a,aBj,beq_eq_false_iff_ne.mpr b]at h;exact h
    .rw[ku a,aBj,beq_eq_false_iff_ne.mpr b]at h;exact h
   rcases d f with h|h
   .exact .inl (aAe _ h)
   .right;rw[aBj,beq_eq_false_iff_ne.mpr b];exact h
theorem oC:∀(names:List (Str×eY)) (h:de) (B:List (Str×cp)) {x:Str} {c:cp},(eQ h.objs.size names B).lookup x=some c->B.lookup x=some c\/((pushCells h names).IsCell c none/\h.objs.size<=c)
 |[],h,B,x,c,e=>.inl e
 |(n,k)::r,h,B,x,c,e=>by
  unfold eQ at e;unfold pushCells;split at e
  .rename_i b;rw[kn b];rcases oC r (h.push {cls:=.type "cell",data:=.cell none}) ((n,h.objs.size)::B) (x:=x) (c:=c) (by rw[aBt];exact e)with a|⟨a,d⟩
   .rw[aBj]at a;cases f:(x==n)with
    |true=>rw[f]at a;have g:h.objs.size=c:=Option.some.inj a;subst g;exact .inr ⟨⟨_,aEF _ _ _ _ (aAn _ rfl),rfl⟩,aAg _⟩
    |false=>rw[f]at a;exact .inl a
   .exact .inr ⟨a,by rw[aBt]at d;exact aCF d⟩
  .rename_i b;rw[ku b];exact oC r h B e
theorem jE:∀(names:List (Str×eY)) (n:Nat) (B:List (Str×cp)) {x:Str} {c:cp},(eQ n names B).lookup x=some c->B.lookup x=some c\/n<=c
 |[],n,B,x,c,e=>.inl e
 |(m,k)::r,n,B,x,c,e=>by
  unfold eQ at e;split at e
  .rcases jE r (n+1) _ e with a|a
   .rw[aBj]at a;cases b:(x==m)with
    |true=>rw[b]at a;exact .inr (aEp (Option.some.inj a))
    |false=>rw[b]at a;exact .inl a
   .exact .inr (aCF a)
  .exact jE r n B e
theorem qB:∀(names:List (Str×eY)) (n:Nat) (B:List (Str×cp)) {x:Str} {c:cp},(x,aCc)∈names->(eQ n names B).lookup x=some c->n<=c
 |[],n,B,x,c,a,e=>nomatch a
 |(m,k)::r,n,B,x,c,a,e=>by
  unfold eQ at e;rcases aAd.mp a with a|a
  .cases a;rw[kn (show(aCc==aCc)=true from rfl)]at e;rcases jE r (n+1) _ e with b|b
   .rw[aBM]at b;exact aEp (Option.some.inj b)
   .exact aCF b
  .split at e
   .exact aCF (qB r (n+1) _ a e)
   .exact qB r n B a e
theorem nS:∀(names:List (Str×eY)) (n:Nat) (B:List (Str×cp)) {x:Str},(x,aCc)∉names->(eQ n names B).lookup x=B.lookup x
 |[],n,B,x,_=>rfl
 |(m,k)::r,n,B,x,a=>by
  unfold eQ;split
  .rename_i b;rw[nS r (n+1) _ λz=>a (aAe _ z),aBj];cases d:(x==m)with
   |true=>
    have e:x=m:=by simpa using d
    have f:k=.cell:=by simpa using b
    exact absurd (by rw[e,f];exact aAU) a
   |false=>rfl
  .exact nS r n B λz=>a (aAe _ z)
theorem iO:∀(names:List (Str×eY)) (n:Nat) (B:List (Str×cp)),(∀x c,B.lookup x=some c->c<n)->(∀x y c,B.lookup x=some c->B.lookup y=some c->x=y)->
  ∀x y c,(eQ n names B).lookup x=some c->(eQ n names B).lookup y=some c->x=y
 |[],n,B,_,h=>h
 |(m,k)::r,n,B,g,h=>by
  unfold eQ;split
  .refine iO r (n+1) _ (λx c e=>?_) λx y c b a=>?_
   .rw[aBj]at e;cases d:(x==m)with
    |true=>rw[d]at e;rw[<-Option.some.inj e];exact aDh _
    |false=>rw[d]at e;exact aBi (g x c e)
   .rw[aBj]at b a;cases d:(x==m)with
    |true=>
     rw[d]at b;cases f:(y==m)with
     |true=>rw[show x=m by simpa using d,show y=m by simpa using f]
     |false=>rw[f]at a;rw[<-Option.some.inj b]at a;exact absurd (g y _ a) (aBg _)
    |false=>
     rw[d]at b;cases f:(y==m)with
     |true=>rw[f]at a;rw[<-Option.some.inj a]at b;exact absurd (g x _ b) (aBg _)
     |false=>rw[f]at a;exact h x y c b a
  .exact iO r n B g h
abbrev bY (X:Cx)(a:kb)(C:cp):List (Str×cp):=eQ (C+1) a.names (JQ X.env a.names [])
def GZ {E:A3}{Q:Env->be->Prop}(h:Q (newEnv a s.heap.objs.size g (eQ (s.heap.objs.size+1) a.names i) q none .none (some env) builtinsNs) {s with heap:=pushCells (s.heap.push {cls:=.type "dict",data:=.dict #[]}) a.names}):
  a9 M A (newFunctionEnv a g i [] q none .none (some env)) Q E s:=by
 simp only[newFunctionEnv,Option.isSome_some,if_true];refine aAa (wpAny_alloc ?_);refine aAa (wpAny_layCells _ (λf b d=>by cases e:b==aCc<;>simp[e]) _ _ _ _ ?_);rw[show({s with heap:=s.heap.push {cls:=.type "dict",data:=.dict #[]}}:be).heap.objs.size=s.heap.objs.size+1 from aBt ..];exact aAa (aAb<|aAb h)
def GL {R:Result->be->Prop}(I:Nat->be->Prop)(turn:∀n s,I n s->a9 (cq prog w) A (fo it) (λr j=>match r with
   |none=>R (.ok .next) j
   |some v=>a9 (cq prog w) A (letOwnedTupleGo a it v) (λ_ f=>a9 (cq prog w) A (i5 a env v) (λ_ p=>
    a9 (cq prog w) A (forIn g true λc r=>if r=true then do let ok<-isTrue c env (d3 c env);pure (aCq ok)else pure (aCq r)) (λok k=>
     if ok=true then a9 (cq prog w) A (d3 i env) (λx q=>a9 (cq prog w) A (call (.builtin "list.append") [B,x]) (λ_ t=>∃m,m<n/\I m t) (λ_ _=>False) q) (λ_ _=>False) k
     else∃m,m<n/\I m k) (λ_ _=>False) p) (λ_ _=>False) f) (λ_ _=>False) j) (λ_ _=>False) s) (n:Nat) (h:I n s):gy (cq prog w) A (.compLoop (.ListComp i [⟨a,y8,g,0⟩] e l) 0 it B env) R s:=by
 refine codeAny_loop rfl I (λn s y=>?_) n h;show a9 _ A ((compTurn (.ListComp i [⟨a,y8,g,0⟩] e l) 0 it B env).onRaise (λx=>do noteFrame x env;theTreesLotGoes x)) _ _ s;refine wpAny_noted ?_;rw[compTurn_list];refine aAa (aEy<|aAa<|aCt (turn n s y) (λr j d=>?_) λ_ _ b=>b.elim);cases r with
 |none=>exact aAb d
 |some v=>
  refine aAa (aCt d (λ_ f o=>?_) λ_ _ b=>b.elim);refine aAa (aCt o (λ_ p z=>aAa (aCt z (λok k u=>?_) λ_ _ b=>b.elim)) λ_ _ b=>b.elim);cases ok with
  |false=>exact aAb ⟨rfl,u⟩
  |true=>exact aAa (aAa<|aCt u (λx q C=>aAa (aCt C (λ_ t E=>aAb (aAb ⟨rfl,E⟩)) λ_ _ b=>b.elim)) λ_ _ b=>b.elim)
def GE (X:Cx)(pins:N3)(s9:be)(H9:Hp)(b:List Str)(a:kb)(d:List (Str×cp))(C:cp)(e:List cp):Cx where
 prog:=X.prog
 w:=X.w
 K:=X.K
 mg:=X.mg
 base:=X.base
 A:=X.A
 N:=b
 s9:=s9
 H9:=H9
 env:=compEnvC a d C X.env
 outer:=X.stack
 stack:=X.stack
 ex:=e
 fn:=λx=>a.names.lookup x==some .cell
 calm:=X.calm
 pn:=X.pn++pins
 xe:=λ_ _=>False
structure CompSc (X:Cx)(scope:Scope)(own fr:List Str)(js:List Nat):Prop where
 kind:scope.kind=.function
 apart:∀y∈scope.names,y.2=.free->(y.1,aCc)∉scope.names
 names:∀y∈scope.names,y.2=.local->scope.names.lookup y.1=some .local
 free:∀y∈scope.names,y.2=.free->X.env.kindOf y.1=some .cell\/X.env.kindOf y.1=some .free
 len:js.length=fr.length
 at_:∀(i j:Nat) (x:Str),js[i]?=some j->fr[i]?=some x->X.N[j]?=some x/\(x,NameKind.free)∈scope.names
 nd:js.Nodup
 dis:∀y∈scope.names,y.2=.free->scope.names.lookup y.1=some .free
def seen:Sl->Sl
 |.v d=>.v d
 |.d k=>.d k
 |_=>.no
def f9 (own:List Str)(a:List Nat)(ρ:Ev):Ev:=aCS own.length Sl.no++a.map λj=>seen (ρ.getD j Sl.no)
def T1 (own:List Str)(a:List Nat)(σ:St):St:=aCS own.length none++a.map λj=>σ.getD j none
def Inv.ab5 (I:L2.Inv X b σ H s)(S:CompSc X a own f g):∀y∈a.names,y.2=.free->∃c,X.env.cells.lookup y.1=some c:=
 λy d e=>I.ok.has y.1 (S.free y d e)
def V5 (h:(f9 own l ρ)[i]?=some sl):sl=.no\/∃j,((∃d,sl=.v d)\/∃k,sl=.d k)/\own.length<=i/\l[i-own.length]?=some j/\ρ[j]?=some sl:=by
 unfold f9 at h;by_cases f:i<own.length
 .rw[aAZ (by simpa using f),aBy,kn f]at h;cases h;exact .inl rfl
 .have g:own.length<=i:=aEt f;rw[aAB (by simpa using g),aCr,aAF]at h;cases e:l[i-own.length]? with
  |none=>rw[e]at h;cases h
  |some j=>
   rw[e]at h;have a:seen (ρ.getD j Sl.no)=sl:=Option.some.inj h;rw[aAo]at a;cases b:ρ[j]? with
   |none=>rw[b]at a;subst a;exact .inl rfl
   |some z=>
    rw[b]at a;cases z with
    |v d=>subst a;exact .inr ⟨j,.inl ⟨d,rfl⟩,g,rfl,b⟩
    |d k=>subst a;exact .inr ⟨j,.inr ⟨k,rfl⟩,g,rfl,b⟩
    |_=>subst a;exact .inl rfl
def nZ {σ:St}(a:own.length<=i)(e:b[i-own.length]?=some j)(h:j<σ.length):(T1 own b σ)[i]?=σ[j]?:=by unfold T1;rw[aAB (by simpa using a),aCr,aAF,e];show some (σ.getD j none)=_;rw[aAo,aAj h];rfl
def IZ {K:lb}{l H:Hp}{m O:cp->Prop}{σ:St}{ρ:Ev}{own:List Str}{f:List Nat}(s:f.Nodup)(E:EnvOk K l m H O σ ρ):EnvOk K l m H O (T1 own f σ) (f9 own f ρ):=by
 have lt:∀{j g},ρ[j]?=some g->j<σ.length:=λh=>by rw[E.len];exact(aAy.mp h).1
 refine⟨by simp[T1,f9],E.same,E.sub,E.trk,E.trk0,E.tab,λi g h=>?_,λi v x y a b d o n q p=>?_⟩
 .rcases V5 h with rfl|⟨j,_,k,e,b⟩
  .trivial
  .rw[nZ k e (lt b)];exact E.slot j g b
 .rcases V5 b with rfl|⟨j,_,t,e,b⟩
  .exact o.elim
  rcases V5 d with rfl|⟨u,_,k,r,d⟩
  .exact n.elim
  rw[nZ t e (lt b)]at q;rw[nZ k r (lt d)]at p;have:=E.inj j u x y a b d o n q p;subst this;have:=(List.getElem?_inj (aAy.mp e).1 s).mp (e.trans r.symm)
  lia
def IQ (I:L2.Inv X pins σ H s)(S:CompSc X a own fr js)(Y:∀b∈fp,lD X pins H b)(ao:∀b∈fp,b<s.heap.objs.size)(e8:h₁=pushCells (s.heap.push {cls:=.type "dict",data:=.dict #[]}) a.names):
  L2.Inv (GE X pins s H (own++fr) a (bY X a s.heap.objs.size) s.heap.objs.size fp) [] (T1 own js σ) H {s with heap:=h₁,toks:=tk}:=by
 have w:=Inv.ab5 I S;have g:∀b o,s.heap.get? b=some o->h₁.get? b=some o:=λb o e=>by rw[e8];exact aEF _ _ _ _ (aAc _ e)
 have zf:h₁.Ns s.heap.objs.size (λ_=>none):=by rw[e8];exact(Heap.Ns.new s.heap<|.type "dict").keeps (aEF _ _)
 have cc:∀x c,(bY X a s.heap.objs.size).lookup x=some c->(JQ X.env a.names []).lookup x=some c\/(h₁.IsCell c none/\s.heap.objs.size+1<=c):=λx c h=>by have:=oC a.names (s.heap.push {cls:=.type "dict",data:=.dict #[]}) (JQ X.env a.names []) (x:=x) (c:=c) (by rw[aBt];exact h);rw[aBt,<-e8]at this;exact this
 have J:∀x c,(JQ X.env a.names []).lookup x=some c->X.env.cells.lookup x=some c:=λx c h=>wP a.names [] w (λ_ _ z=>(by cases z)) h;have l:∀b o,X.base.get? b=some o->b∉fp:=λb o e B=>by
  rcases(Y b B).2.2.2.1 with z|z
  .exact I.ok.noex b o e z
  .exact absurd (aAw (aAf e)<|aAp I.ok.bsz z) (aBg _)
 have nfs:∀b∈fp,b∉zG X.stack:=λb B z=>by
  rcases aAd.mp (I.ab6 b z)with e|z
  .exact(Y b B).2.1 e
  .exact(Y b B).2.2.1 z
 have A:∀x c,X.env.cells.lookup x=some c->c<s.heap.objs.size+1:=λx c h=>by obtain⟨v,o,Q,_⟩:=I.cell x c h;exact aBi (aAf Q)
 have has:∀x,((relabel a X.env).names.lookup x=some .cell\/(relabel a X.env).names.lookup x=some .free)->∃c,(bY X a s.heap.objs.size).lookup x=some c:=λx N=>by
  have:((bY X a s.heap.objs.size).lookup x).isSome=true:=PySem.W.cellsFrom_some _ _ _ (by
   rcases iB N with h|h
   .obtain⟨c,hc⟩:=uW (env:=X.env) a.names [] (x:=x) (.inl h);exact .inr (by rw[hc];rfl)
   .exact .inl h)
  exact aFt.mp this
 refine⟨⟨I.ok.mod,S.kind,I.ok.glob,I.ok.blt,aAg _,iO a.names _ _ (λx c h=>A x c (J x c h)) (λx y c h1 C=>I.ok.inj x y c (J x c h1) (J y c C)),has,λx c hf h=>aCF (qB a.names _ _ (PySem.mem_of_lookup<|eq_of_beq hf) h),I.ok.hd,I.ok.frames,.inl rfl,
  λb B=>⟨aAl (ao b B),λx c h=>(cc x c h).elim (λh=>(Y b B).2.2.2.2.1 x c (J x c h)) λ⟨_,C⟩ z=>absurd (aAw (ao b B)<|aCF C) (by rw[z];exact aBg _)⟩,I.bs,aAp I.ok.bsz I.sz,λb o e=>l b o e,nfs,I.stack,I.ad3⟩,rfl,I.bare,Un.kept g,⟨_,zf,λi x v e1 E L=>?_⟩,λx c h=>?_,I.hok.fresh (aAg _),λx c h=>(cc x c h).elim (λh=>I.freeC x c (J x c h)) λ⟨_,C⟩=>I.hok.fresh (aCF C),λp hp=>?_,I.hok.kept g,?_⟩
 .
  have hlen:(own++fr).length=(T1 own js σ).length:=by simp[T1,S.len]
  unfold T1 at E;by_cases hi:i<own.length
  .rw[aAZ (by simpa using hi),aBy,kn hi]at E;cases E
  .have dg:own.length<=i:=aEt hi;rw[aAB (by simpa using dg),aCr,aAF]at E;have T:(own++fr)[i]?=some x:=e1;rw[aAB dg]at T;cases e:js[i-own.length]? with
   |none=>rw[e]at E;cases E
   |some j=>
    rw[e]at E;have q:σ.getD j none=some v:=Option.some.inj E;obtain⟨hN,jv⟩:=S.at_ (i-own.length) j x e T;have hσ:σ[j]?=some (some v):=by
     rw[aAo]at q;cases e4:σ[j]? with
     |none=>rw[e4]at q;cases q
     |some z=>rw[e4]at q;exact la some q
    have O:=S.free (x,.free) jv rfl;have U:vT X.env.scope x:=.inr O;obtain⟨m,hn,hl⟩:=I.loc;obtain⟨u,r,lk⟩:=hl j x v hN hσ U;refine⟨u,r,?_⟩;rcases lk with⟨jm,_⟩|⟨_,c,hc,ja⟩
    .rcases O with O|O<;>(rw[jm]at O;cases O)
    .right;obtain⟨c',ya⟩:=uW (env:=X.env) a.names [] (x:=x) (.inl jv);have:=J x c' ya;rw[hc]at this;cases this;refine⟨?_,c,(nS a.names _ _<|S.apart (x,.free) jv rfl).trans ya,?_⟩
     .rcases L with L|L|L
      .
       have hq:(relabel a X.env).names.lookup x=some .local:=L;exfalso;have:∀f:List (Str×eY),(f.map λ(n,k)=>if(k==NameKind.free&&X.env.scope.kind==.function&&X.env.kindOf n==some .cell)then(n,aCc)else(n,k)).lookup x=some .local->f.lookup x=some .local:=by
        intro f;induction f with
        |nil=>intro h;cases h
        |cons y r ih=>
         obtain⟨n,k⟩:=y;intro h;rw[aAv]at h;dsimp only at h;by_cases N:x=n
         .subst N;by_cases t:(k==NameKind.free&&X.env.scope.kind==.function&&X.env.kindOf x==some .cell)=true
          .rw[kn t,aBM]at h;cases h
          .rw[ku t,aBM]at h;rw[aBM];exact h
         .rw[aBj,beq_eq_false_iff_ne.mpr N];by_cases t:(k==NameKind.free&&X.env.scope.kind==.function&&X.env.kindOf n==some .cell)=true
          .rw[kn t,aBj,beq_eq_false_iff_ne.mpr N]at h;exact ih h
          .rw[ku t,aBj,beq_eq_false_iff_ne.mpr N]at h;exact ih h
       have C:=this a.names hq;rw[S.dis (x,.free) jv rfl]at C;cases C
      .exact .inl L
      .exact .inr L
     .obtain⟨o,Q,hd⟩:=ja;exact⟨o,g c o Q,hd⟩
 .rcases cc x c h with h|⟨h,_⟩
  .obtain⟨v,o,Q,hd⟩:=I.cell x c (J x c h);exact⟨v,o,g c o Q,hd⟩
  .exact⟨_,h⟩
 .have hp':p∈X.pn++pins:=by simpa[GE]using hp
  obtain⟨e,n,ne,nf,d⟩:=I.pin p hp';refine⟨g _ _ e,n,aAl (aAf e),λz=>?_,d⟩;rcases aAd.mp (I.ab6 p.1 z)with e'|z'
  .exact ne e'
  .exact nf z'
 .simp[T1,GE,S.len]
def u5 (G:D->Ev->R Ev)(ft:Ev->R Bool)(fe:Ev->R D)(ρ:Ev):List D->R (List D)
 |[]=>.ok []
 |d::e=>match G d ρ with
  |.ok a=>(ft a).bind λb=>if b=true then(fe a).bind λr=>(u5 G ft fe ρ e).bind λf=>.ok (r::f)else u5 G ft fe ρ e
  |_=>.bad
def oA (ρ1 ρ:Ev):Prop:=ρ1.length=ρ.length/\∀(i:Nat) (a:Sl),ρ[i]?=some a->a≠.no->ρ1[i]?=some a
def EnvOk.weak {K:lb}{b H:Hp}{d O:cp->Prop}{σ:St}{ρ1 ρ:Ev}(E:EnvOk K b d H O σ ρ1)(h:oA ρ1 ρ):EnvOk K b d H O σ ρ where
 len:=E.len.trans h.1
 same:=E.same
 sub:=E.sub
 trk:=E.trk
 trk0:=E.trk0
 tab:=E.tab
 slot:=λi f e=>by
  by_cases n:f=.no
  .subst n;trivial
  .exact E.slot i f (h.2 i _ e n)
 inj:=λi j x y a l m g k=>E.inj i j x y a (h.2 i _ l (by rintro rfl;exact g)) (h.2 j _ m (by rintro rfl;exact k)) g k
def S4 (H:Hp)(a:cp):Hp:=λb=>if b=a then none else H b
def AQ (H:Hp)(a:cp):S4 H a a=none:=kn rfl
def R0 (h:b≠a):S4 H a b=H b:=ku h
def HW (h:H a=some o):upd (S4 H a) a o=H:=by
 funext b
 unfold upd S4;by_cases d:b=a
 .subst d;rw[kn rfl,h]
 .rw[ku d,ku d]
def EnvOk.ad9 {K:lb}{d H:Hp}{e O:cp->Prop}{σ:St}{ρ:Ev}{a:cp}{vs:List V}(E:EnvOk K d e H O σ ρ)(h:H a=none)(f:K.lookup a=none):EnvOk K d e (upd H a (.lst vs)) (λb=>O b\/b=a) σ ρ:=E.ab9 h f trivial
def Rep.hidden {K:lb}{H:Hp}{O:cp->Prop}{a:cp}{vs:List V}{v:V}{d:D}(h:H a=some (.lst vs))(r:Rep K H (λb=>O b\/b=a) v d):Rep K (S4 H a) O v d:=by
 refine r.mono (λb Y q=>?_) (λb Y n q=>⟨λz=>n (.inl z),?_⟩) λb φ n q=>⟨λz=>n (.inl z),by rw[R0 λz=>n (.inr z)];exact q⟩
 .rcases q with(q|⟨o,q⟩)|q
  .exact .inl (.inl (by rw[R0 (by rintro rfl;rw[h]at q;cases q)];exact q))
  .exact .inl (.inr ⟨o,by rw[R0 (by rintro rfl;rw[h]at q;cases q)];exact q⟩)
  .exact .inr q
 .have e:b≠a:=λz=>n (.inr z);rcases q with(q|⟨o,q⟩)|q
  .exact .inl (.inl (by rw[R0 e];exact q))
  .exact .inl (.inr ⟨o,by rw[R0 e];exact q⟩)
  .exact .inr q
def U7 (h:H a=none)(s:Same (upd H a (.lst vs)) H'):Same H (S4 H' a):=λb o q=>by
 have d:b≠a:=by rintro rfl;rw[h]at q;cases q
 rw[R0 d];exact s b o (by rw[l4 d];exact q)
def ItC (K:lb)(J:It)(H:Hp)(O:cp->Prop)(ds:List D):Prop:=∀b e,Same H b->Kp H O b e->Z2 K e->(∀a,O a->∃o,H a=some o/\Mt o)->(∀a,e a->∃o,b a=some o/\Mt o)->∀i:Nat,
 (∀d,ds[i]?=some d->J.go i b/\∀x f,J.yld i b x f->Same b f/\Rep K f e x d)/\(ds[i]?=none->J.stop i b)
def YL.c {K:lb}(h:YL K J H O ds):ItC K J H O ds:=λa b _=>h a b
def tIc (X:Cx)(f:Ev->R (List D)):TI:=λσ H R=>∃b d O ρ,EnvOk X.K b d H O σ ρ/\Z2 X.K O/\match f ρ with
 |.ok g=>∀J a,Same H a->ItC X.K J a O g->R J a
 |.ex e=>∀a,Same H a->XW X e a
 |.bad=>False
def PIC (X:Cx)(a y8:dm)(f:Ev->R (List D)):Prop:=PI X a y8 (tIc X f)
def pic (h:VE X a y8 f):PIC X a y8 f:=DK h λσ H R ⟨b,d,O,ρ,E,k,q⟩=>⟨b,d,O,ρ,E,k,by
 cases e:f ρ with
 |ok i=>rw[e]at q;exactλJ g s h=>q J g s h.c
 |ex x=>rw[e]at q;exact q
 |bad=>rw[e]at q;exact q⟩
section
def SK (X:Cx)(b:List dm)(ft:Ev->R Bool):Prop:=
 ∀(a:N3) (s:be) (σ:St) (H:Hp) (Q:Bool->Hp->Prop),Inv X a σ H s->tDT X ft σ H Q->
  a9 (cq X.prog X.w) X.A (forIn b true λc r=>if r=true then do let ok<-isTrue c X.env (d3 c X.env);pure (aCq ok)else pure (aCq r)) (TP X a σ Q) X.xe s
def RQ:SK X [] (λ_=>.ok true):=by rintro a s σ H Q I ⟨b,d,O,ρ,E,q⟩;exact wpAny_tests_nil ⟨H,I,q H (Same.refl _)⟩
def DR (h:FJ X c ft):SK X [c] ft:=λa s σ H Q I q=>wpAny_tests_one (h a s σ H Q I q)
def zM {tg elt y8:dm}{ifs:List dm}{scope:kb}{own fr:List Str}{js:List Nat}{G:D->Ev->R Ev}{ft:Ev->R Bool}{fe:Ev->R D}{pins:N3}{σ:St}{H:Hp}{s:be}{H9:Hp}{O0 O:cp->Prop}{ρ:Ev}
  {it:cp} {Q:List cp} {tn:Nat->de->Prop} {J:It} {ds rs:List D} {RR:ae->cp->Result->be->Prop} {EE:A3} (hc:X.calm=true) (S:CompSc X scope own fr js)
  (hX:∀t:Cx,(∃s9 Ha C,t=GE X pins s9 Ha (own++fr) scope (bY X scope C) C Q)->JR t tg G/\SK t ifs ft/\PD t elt fe)
  (hG:∀d ρ1,G d (f9 own js ρ)=.ok ρ1->oA ρ1 (f9 own js ρ))
  (I:Inv X pins σ H s) (T:Turn X.prog X.w X.K tg J Q it tn) (st:tn 0 s.heap) (ur:∀b∈Q,lD X pins H b) (E:EnvOk X.K H9 O0 H O σ ρ) (hJ:ItC X.K J H O ds) (hrs:u5 G ft fe (f9 own js ρ) ds=.ok rs) (hlen:ds.length<=sizeLine)
  (fin:∀B C s' H' m,s'.heap.Ns C m->C≠B->s.heap.objs.size<=C->s.heap.objs.size<=B->Same H H'->Rep X.K H' O (.ref B) (.lst rs)->(∃H1 vs,Same H H1/\H1 B=none/\H'=upd H1 B (.lst vs)/\Reps X.K H1 O vs rs)->H' C=none->(∀h',Heap.SameBut C s'.heap h'->Inv X pins σ H' {s' with heap:=h'})->RR (.ref B) C (.ok .next) s'):
  a9 (cq X.prog X.w) X.A (newList []) (λB sa=>a9 (cq X.prog X.w) X.A (newFunctionEnv scope X.env.globals (JQ X.env scope.names []) [] X.env.qual none .none (some X.env)) (λcenv se=>gy (cq X.prog X.w) X.A (.compStart (.ListComp elt [⟨tg,y8,ifs,0⟩] scope pos) 0 (.ref it) B {cenv with scope:=relabel scope X.env}) (RR B cenv.locals) se) EE sa) EE s:=by
 have hO:=uB I O E.trk;refine aBb ?_;have hfr:H s.heap.objs.size=none:=I.hok.fresh (aAg _);have hkl:X.K.lookup s.heap.objs.size=none:=by
  cases e:X.K.lookup s.heap.objs.size with
  |none=>rfl
  |some o=>exact absurd (aAf<|I.kIn _ o e) (aBg _)
 have I1:Inv X pins σ (upd H s.heap.objs.size<|.lst []) {s with heap:=s.heap.push {cls:=.type "list",dict:=none,data:=.seq ([]:List ae).toArray}}:=
  I.laid (t':=s.toks) (λb u e=>aAc _ e) (aAg _) ⟨aAX _,[],0,.nil,aAn _ rfl⟩
 generalize fb:s.heap.objs.size=B at*
 generalize zg:({s with heap:=s.heap.push {cls:=.type "list",dict:=none,data:=.seq ([]:List ae).toArray}}:be)=Y at I1⊢;have sz1:Y.heap.objs.size=B+1:=by rw[<-zg,<-fb];exact aBt _ _
 have keep1:∀b o,s.heap.get? b=some o->Y.heap.get? b=some o:=λb o e=>by rw[<-zg];exact aAc _ e
 have wo:∀b∈Q,b<B:=λb g=>by obtain⟨o,e,_⟩:=T.obj 0 _ st b g;rw[<-fb];exact aAf e
 have hfp1:∀b∈Q,lD X pins (upd H B<|.lst []) b:=λb g=>by obtain⟨f0,f⟩:=ur b g;exact⟨by rw[l4 (aAl<|wo b g)];exact f0,f⟩
 refine GZ ?_;obtain⟨L,e8⟩:∃L,pushCells (Y.heap.push {cls:=.type "dict",data:=.dict #[]}) scope.names=L:=⟨_,rfl⟩;rw[e8];have keep2:∀b o,Y.heap.get? b=some o->L.get? b=some o:=λb o e=>by rw[<-e8];exact aEF _ _ _ _ (aAc _ e)
 have IB:=IQ (tk:=Y.toks) I1 S hfp1 (λb g=>by rw[sz1];exact aBi (wo b g)) e8.symm;generalize hC:Y.heap.objs.size=C at*
 obtain⟨hG',hT',hE'⟩:=hX _ ⟨Y,upd H B (.lst []),C,rfl⟩;generalize qp:GE X pins Y (upd H B<|.lst []) (own++fr) scope (bY X scope C) C Q=t at IB hG' hT' hE';have eP:t.prog=X.prog:=by rw[<-qp];rfl
 have eW:t.w=X.w:=by rw[<-qp];rfl
 have eK:t.K=X.K:=by rw[<-qp];rfl
 have eA:t.A=X.A:=by rw[<-qp];rfl
 have eC:t.calm=true:=by rw[<-qp];exact hc
 have eX:t.xe=λ_ _=>False:=by rw[<-qp];rfl
 have eE:t.env=compEnvC scope (bY X scope C) C X.env:=by rw[<-qp];rfl
 have eX0:t.ex=Q:=by rw[<-qp];rfl
 have ePn:t.pn=X.pn++pins:=by rw[<-qp];rfl
 have eFs:t.fs=zG X.stack:=by rw[<-qp];rfl
 have eS0:t.s9=Y:=by rw[<-qp];rfl
 have eH0:t.H9=upd H B (.lst []):=by rw[<-qp];rfl
 have eL:t.env.locals=C:=by rw[eE];rfl
 have eCe:t.env.cells=bY X scope C:=by rw[eE];rfl
 have I2of:=IB;have cell_ne:∀b∈Q,∀x c,t.env.cells.lookup x=some c->c≠b:=λb g x c h=>(I2of.ok.exf b (by rw[eX0];exact g)).2 x c h;have accC:B≠C:=by rw[sz1];exact aAl (aDh _)
 have fpC:∀b∈Q,b≠C:=λb g=>by have h1:=wo b g;rw[sz1];exact aAl (aBi h1)
 have fpB:∀{H':Hp},(∀b∈Q,H' b=none)->∀b∈Q,lD t [] H' b:=λ{H'} hn b g=>by
  obtain⟨f0,f1,f2,f3,f4,f5⟩:=ur b g;refine⟨hn b g,by rw[eL];exact fpC b g,?_,.inl (by rw[eX0];exact g),λx c h=>cell_ne b g x c h,λp hp=>f5 p (by rw[ePn,aBR]at hp;exact hp)⟩;rw[eFs];intro z;rcases aAd.mp (I.ab6 b z)with e|z
  .exact f1 e
  .exact f2 z
 have mD:tn 0 L:=T.keep 0 s.heap L st λb g o e=>keep2 b o (keep1 b o e)
 let Iv:Nat->be->Prop:=λn s'=>∃i ah N vs rd,n=ds.length-i/\i<=ds.length/\Inv t [] ah (upd N B<|.lst vs) s'/\N B=none/\tn i s'.heap/\(∀b∈Q,N b=none)/\EnvOk X.K H9 O0 N O ah (f9 own js ρ)/\Same H N/\
  Reps X.K N O vs rd/\(∃rest,u5 G ft fe (f9 own js ρ) (ds.drop i)=.ok rest/\rs=rd++rest)/\vs.length<=i
 have loop:gy (cq X.prog X.w) X.A (.compLoop (.ListComp elt [⟨tg,y8,ifs,0⟩] scope pos) 0 (.ref it) (.ref B) (compEnvC scope (bY X scope C) C X.env)) (RR (.ref B) C) {Y with heap:=L}:=by
  refine GL Iv ?_ ds.length ⟨0,_,H,[],[],by simp,aAX _,IB,hfr,mD,λb g=>(ur b g).1,IZ S.nd E,Same.refl H,.nil,⟨rs,by rw[aGo];exact hrs,rfl⟩,aAX _⟩;rintro n s2 ⟨i,we,N,vs,rd,rfl,hi,I2,yc,ke,fx2,E2,yd,r2,⟨rest,l,wu⟩,hvl⟩;have fr2:∀b∈Q,(upd N B<|.lst vs) b=none:=λb g=>by rw[l4 (aAl<|wo b g)];exact fx2 b g
  have sU:=j7 yc (.lst vs);have hit:=hJ (upd N B<|.lst vs) (λb=>O b\/b=B) (yd.trans sU) (λb o q n=>⟨sU b o (yd b o q),λz=>z.elim n λz=>by subst z;rw[hfr]at q;cases q⟩) (λa o q z=>z.elim (hO a o q) λz=>by subst z;rw[hkl]at q;cases q) E.trk
   (λa z=>(E2.ad9 (vs:=vs) yc hkl).trk a z) i
  by_cases ao:i<ds.length
  .obtain⟨go,yl⟩:=hit.1 ds[i] (aAj ao);rw[aDN ao,u5]at l;have ph:=T.item t eP eW eK eC i [] s2 we _ (λ_ _=>False) I2 (fpB fr2) ke go;rw[eA]at ph;refine D4 ph λr s3 z9=>?_;obtain⟨u,hr,h3⟩:=z9;subst hr;refine D4 h3 λ_ s4 z9=>?_;obtain⟨x,H4,I4,ru,y4,st4,fr4⟩:=z9;obtain⟨sm4,rep4⟩:=yl x H4 y4;cases e1:G ds[i] (f9 own js ρ)with
   |ex z=>rw[e1]at l;cases l
   |bad=>rw[e1]at l;cases l
   |ok ρ1=>
    rw[e1]at l;dsimp only at l;have EB:EnvOk X.K H9 O0 H4 (λb=>O b\/b=B) we (f9 own js ρ):=(E2.ad9 yc hkl).grow sm4;have I4':=I4.pinned (fpB fr4) (T.obj _ _ st4);have again:∀{s7:be} {qf:St} {y:Hp} {vs7:List V} {rd7:List D} {rest7:List D},Inv t ([]++nF Q s4.heap) qf y s7->y B=some (.lst vs7)->EnvOk X.K H9 O0 (S4 y B) O qf (f9 own js ρ)->Same H (S4 y B)->Reps X.K (S4 y B) O vs7 rd7->
      u5 G ft fe (f9 own js ρ) (ds.drop<|i+1)=.ok rest7->rs=rd7++rest7->vs7.length<=i+1->∃m,m<ds.length-i/\Iv m s7:=λ{s7 qf y vs7 rd7 rest7} I7 h7 E7 sm7 r7 hr7 hrs7 hv7=>by
     refine⟨ds.length-(i+1),by omega,i+1,qf,S4 y B,vs7,rd7,rfl,ao,?_,AQ _ _,T.keep _ _ _ st4 λb g o e=>(I7.pin (b,o)<|aAH _<|aAH _<|bL g e).1,λb g=>?_,E7,sm7,r7,⟨rest7,hr7,hrs7⟩,hv7⟩
     .rw[HW h7];exact I7.ab4
     .rw[R0 (aAl<|wo b g)];obtain⟨o,e,d⟩:=T.obj _ _ st4 b g;exact(I7.pin (b,o)<|aAH _<|aAH _<|bL g e).2.1
    have hasg:=hG' _ s4 we H4 x u (λU H5=>Same H4 H5/\EnvOk X.K H9 O0 H5 (λb=>O b\/b=B) U ρ1) I4' ru ⟨H9,O0,_,_,ds[i],ρ1,by rw[eK];exact EB,by rw[eK];exact rep4,e1,λU H5 s5 E5=>⟨s5,by rw[eK]at E5;exact E5⟩⟩;rw[eP,eW,eA,eE,eX]at hasg;refine D4 hasg λ_ s5 z9=>?_;obtain⟨U,H5,I5,sm5,E5⟩:=z9;have hacc5:H5 B=some (.lst vs):=sm5 B _ (sm4 B _ j3);cases e2:ft ρ1 with
    |ex z=>rw[e2]at l;cases l
    |bad=>rw[e2]at l;cases l
    |ok b=>
     rw[e2,R.aa0]at l;have htst:=hT' _ s5 U H5 (λc H6=>c=b/\Same H5 H6) I5 ⟨H9,O0,_,ρ1,by rw[eK];exact E5,by rw[e2];exactλH6 s6=>⟨rfl,s6⟩⟩;rw[eP,eW,eA,eE,eX]at htst;refine D4 htst λok s6 z9=>?_;obtain⟨H6,I6,g,sm6⟩:=z9;subst g;have sm46:Same (upd N B<|.lst vs) H6:=sm4.trans (sm5.trans sm6);have hacc6:H6 B=some (.lst vs):=sm6 B _ hacc5;have smx6:Same N (S4 H6 B):=U7 yc sm46;have W1:oA ρ1 (f9 own js ρ):=hG _ _ e1;have Eb:∀{y:Hp},Same H5 y->EnvOk X.K H9 O0 (S4 y B) O U (f9 own js ρ):=λ{y} s7=>by
      have E7:=(E5.grow s7).weak W1;have h7:y B=some (.lst vs):=s7 B _ hacc5;refine⟨E7.len,E2.same.trans (U7 yc<|sm4.trans<|sm5.trans s7),E2.sub,λa z=>?_,E2.trk0,E2.tab.same (U7 yc<|sm4.trans<|sm5.trans s7),λj sl e=>?_,E7.inj⟩
      .obtain⟨o,q,mt⟩:=E2.trk a z;exact⟨o,U7 yc (sm4.trans<|sm5.trans s7) a o q,mt⟩
      .rcases V5 e with rfl|⟨_,⟨d,rfl⟩|⟨k,rfl⟩,_⟩
       .trivial
       .obtain⟨v,h1,h2⟩:=E7.val j d e;exact⟨v,h1,Rep.hidden h7 h2⟩
       .obtain⟨b,o,es,h1,g,h3,h4,h5,h6,h8⟩:=E7.slot j _ e;have nb:b≠B:=by rintro rfl;rw[h7]at h4;cases h4
        exact⟨b,o,es,h1,g.resolve_right nb,h3,by rw[R0 nb];exact h4,h5,h6.mono (Rep.hidden h7),h8⟩
     cases ok with
     |false=>rw[ku aBc]at l⊢;exact again I6 hacc6 (Eb sm6) (yd.trans smx6) (r2.same smx6) l wu (Nat.le_succ_of_le hvl)
     |true=>
      rw[kn rfl]at l⊢;cases e3:fe ρ1 with
      |ex z=>rw[e3]at l;cases l
      |bad=>rw[e3]at l;cases l
      |ok dv=>
       rw[e3,R.aa0]at l;cases e4:u5 G ft fe (f9 own js ρ) (ds.drop<|i+1)with
       |ex z=>rw[e4]at l;cases l
       |bad=>rw[e4]at l;cases l
       |ok rest'=>
        rw[e4,R.aa0]at l;have si:dv::rest'=rest:=R.ok.inj l;have helt:=hE' _ s6 U H6 (λv y=>Same H6 y/\Rep X.K y (λb=>O b\/b=B) v dv) I6 ⟨H9,O0,_,ρ1,by rw[eK];exact E5.grow sm6,by rw[e3,RC];exactλv y s7 r7=>⟨s7,by rw[eK]at r7;exact r7⟩⟩;rw[eP,eW,eA,eE,eX]at helt;refine D4 helt λuv s7 z9=>?_;obtain⟨v,y,I7,ruv,sm7,r7⟩:=z9;have hacc7:y B=some (.lst vs):=sm7 B _ hacc6;have happ:=tQ (X:=t) _ s7 U y (.ref B) [v] (.ref B) [uv] (λ_ H8=>H8=upd y B (.lst (vs++[v]))) I7 rfl (.cons ruv .nil) ⟨B,vs,v,rfl,rfl,hacc7,by omega,rfl⟩;rw[eP,eW,eA,eX]at happ;refine D4 happ λ_ s8 z9=>?_;obtain⟨_,H8,I8,_,h8⟩:=z9;subst h8;have hh:S4 (upd y B<|.lst (vs++[v])) B=S4 y B:=by
         funext b
         unfold S4 upd;by_cases g:b=B
         .rw[kn g,kn g]
         .rw[ku g,ku g,ku g]
        have smx7:Same N (S4 y B):=U7 yc (sm46.trans sm7);refine again (vs7:=vs++[v]) (rd7:=rd++[dv]) (rest7:=rest') I8 j3 (by rw[hh];exact Eb (sm6.trans sm7)) (by rw[hh];exact yd.trans smx7) ?_ e4 (by rw[wu,<-si,aDI];rfl) (by rw[aAC];exact Nat.succ_le_succ hvl);rw[hh];exact(r2.same smx7).snoc (Rep.hidden hacc7 r7)
  .have dg:i=ds.length:=by omega
   subst dg;have hstop:=hit.2 (by simp);have ph:=T.done t eP eW eK eC ds.length [] s2 we _ (λ_ _=>False) I2 (fpB fr2) ke hstop;rw[eA]at ph;refine D4 ph λr s3 z9=>?_;obtain⟨hr,I3⟩:=z9;subst hr;rw[List.drop_length,u5]at l;have si:([]:List D)=rest:=R.ok.inj l;rw[<-si,aBR]at wu;obtain⟨m,hm,_⟩:=id I3.loc;rw[eL]at hm;have hfin:Same H (upd N B<|.lst vs):=yd.trans sU;refine fin B C s3 (upd N B<|.lst vs) m hm (aBV accC) (by omega) (aAg _) hfin ?_ ⟨N,vs,yd,yc,rfl,by rw[wu];exact r2⟩ (by rw[<-eL];exact I3.free) (λh' iu=>?_)
   .rw[wu];exact .lst (N2.of j3) (E2.fresh yc) (r2.same sU)
   .have hU:Un (zG X.stack) Q (upd H B<|.lst []) (upd N B<|.lst vs) Y.heap s3.heap:=by have:=I3.base;rw[eFs,eX0,eH0,eS0]at this;exact this
    have hCn:∀b o,Y.heap.get? b=some o->b≠C:=λb o e=>by have:=aAf e;rw[hC]at this;exact aAl this
    have hU':Un (zG X.stack) Q (upd H B<|.lst []) (upd N B<|.lst vs) Y.heap h':=⟨λb o e n g hx=>(iu.2 b (hCn b o e)).trans (hU.keep b o e n g hx),λb o e n g hx=>by
      obtain⟨sl,q⟩:=hU.slot b o e n g hx;exact⟨sl,(iu.2 b (hCn b o e)).trans q⟩,hU.free,λb o e hx=>by
      obtain⟨o',q⟩:=hU.there b o e hx;exact⟨o',(iu.2 b (hCn b o e)).trans q⟩,hU.tups,hU.frzs,hU.tbls⟩
    have hCf:upd N B (.lst vs) C=none:=by rw[<-eL];exact I3.free
    have zh:fA X.prog X.w (upd N B<|.lst vs) h':=λb u e=>by
     have g:b≠C:=by rintro rfl;rw[hCf]at e;cases e
     have:=I3.hok b u e;rw[eP,eW]at this;refine this.ab8 (λc v hc q=>(iu.2 c ?_).trans q) (λ_ q=>q) λ_ _ _ q=>q;rcases hc with z|z
     .rw[z];exact g
     .rintro rfl;rw[hCf]at z;cases z
    have hos:s3.os=Y.os:=by have:=I3.os;rw[eS0]at this;exact this
    exact I1.af9 (s':={s3 with heap:=h'}) (ch:=Q) hos hU' zh I3.bare λb g=>by obtain⟨f0,f1,f2,f3,f4,f5⟩:=ur b g;exact⟨f3,f1,f4,f5⟩
 exact codeAny_compStart_list loop (T.self _ 0 _ _ _ mD loop)
def yL (own L:List Str)(g:List Nat)(hc:X.calm=true)(S:CompSc X b own L g)(hi:PIC X N y8 U)(hX:∀(a:N3) (k:List cp) (i:Cx),(∃s9 Ha C,i=GE X a s9 Ha (own++L) b (bY X b C) C k)->JR i N G/\SK i l ft/\PD i n fe)(hG:∀ρ d ρ1,G d (f9 own g ρ)=.ok ρ1->oA ρ1 (f9 own g ρ))(hs:∀x,fg y8 X.env x=pure x:=by intro _;rfl):
  PD X (.ListComp n [⟨N,y8,l,0⟩] b pos) (λρ=>(U ρ).bind λds=>if ds.length<=sizeLine then(u5 G ft fe (f9 own g ρ) ds).bind λf=>.ok (.lst f)else .bad):=by
 refine wA λa s σ H Q I H9 O0 O ρ E q=>?_;dsimp only at q;rw[eval_ListComp];refine wpAny_comprehension_free (use:=none) rfl hs (eM<|Inv.ab5 I S) S.kind S.names ?_;refine D4 (hi a s σ H (λJ o=>∃ds f,Same H o/\ItC X.K J o O ds/\ds.length<=sizeLine/\u5 G ft fe (f9 own g ρ) ds=.ok f/\∀v h,Same H h->Rep X.K h O v (.lst f)->Q v h) I ⟨H9,O0,O,ρ,E,uB I O E.trk,?_⟩) λv Y h1=>D4 h1 λitv s2 h2=>?_
 .cases p:U ρ with
  |ex x=>rw[p]at q;exact q
  |bad=>rw[p]at q;exact q
  |ok ds=>
   rw[p,R.aa0]at q;intro J o Y t;split at q
   .rename_i u;cases j:u5 G ft fe (f9 own g ρ) ds with
    |ex x=>rw[j]at q;exact(q H<|Same.refl _).elim
    |bad=>rw[j]at q;exact q.elim
    |ok f=>rw[j]at q;exact⟨ds,f,Y,t,u,j,q⟩
   .exact q.elim
 .obtain⟨it,k,tn,J,H2,e,I2,T,ke,f2,ds,f,sm,t,u,y,q⟩:=h2;subst e;refine zM (RR:=λB C=>compPost (cq X.prog X.w) X.A X.xe none (EP X a σ Q) B C) hc S (hX a k) (hG ρ) I2 T ke f2 (E.grow sm) t y u ?_;intro B C s' h m hn _ _ _ z r _ _ hI;exact⟨m,hn,λh' iu=>⟨.ref B,h,hI h' iu,rfl,q _ h (sm.trans z) r⟩⟩
def P1 (own g:List Str)(b:List Nat)(k:X.calm=true)(S:CompSc X a own g b)(l:VE X j y8 m)(n:∀(e:N3) (o:List cp) (f:Cx),(∃p q C,f=GE X e p q (own++g) a (bY X a C) C o)->JR f j G/\SK f h ft/\PD f i fe)(r:∀ρ d ρ1,G d (f9 own b ρ)=.ok ρ1->oA ρ1 (f9 own b ρ))(s:∀x,fg y8 X.env x=pure x:=by intro _;rfl):
 PD X (.ListComp i [⟨j,y8,h,0⟩] a t) (λρ=>(m ρ).bind λds=>if ds.length<=sizeLine then(u5 G ft fe (f9 own b ρ) ds).bind λu=>.ok (.lst u)else .bad):=yL own g b k S (pic l) n r s
end
def _root_.L2.ObjOk.live (x:ObjOk P w H h a o):h.get? a≠none:=by
 intro z;have b:∀{u:Obj},h.get? a=some u->False:=λq=>by rw[z]at q;cases q
 cases o with
 |lst Y=>obtain⟨_,_,_,_,e⟩:=x;exact b e
 |tup Y=>obtain⟨_,_,_,o,e,_⟩:=x;exact b e
 |dK J=>obtain⟨_,_,_,_,o,_,_,e,_⟩:=x;exact b e
 |dT J=>obtain⟨_,_,_,_,o,_,_,e,_⟩:=x;exact b e
 |set S n=>obtain⟨o,_,_,_,e,_⟩:=x;exact b e
 |ins C d fs=>obtain⟨_,_,_,e,_⟩:=x;exact b e
 |own y=>obtain⟨_,e⟩:=x;exact b e
 |xd fs=>obtain⟨_,⟨_,_,_,e,_⟩,_⟩:=x;exact b e
 |rng lo g=>obtain⟨_,_,_,e⟩:=x;exact b e
 |frz i u=>obtain⟨e,_⟩:=x;exact b e
 |tbl j=>obtain⟨_,e,_⟩:=x;exact b e
 |met f y=>exact b (show h.get? a=some _ from x)
 |ext φ=>obtain⟨_,⟨_,e⟩,_⟩:=x;exact b e
section
end
section
variable{P:cu} {w:cz} {K:lb} {mg:cE} {base:de}
end
section
variable{X:Cx} {E:XK} {st:dC} {rest:List dC} {F:Ev->R Out} {G Ga Gb:Ev->Option ae} {pos:Pos}
end
section
variable{K:lb} {h:de} {C:cp} {bmB:List ae} {newId:String}
end
section
variable{X:Cx} {E:XK} {pos ag np:Pos} {x:Str} {C:cp} {bmB:List ae} {B newId initId:String}
end
end
end DL
namespace TS
open PySem PyProof.Rows HT
def sR (f:Bool)(x y:ae):keyLt' (tupK f) x y=(do
 let Y<-aCL x;let a<-aCL y
 for ((p,q),i)in(Y.toList.zip a.toList).zipIdx do
  if !(<-eqBool p q)then return<-oneLt' (f&&i==0) p q
 return decide (Y.size<a.size)):=rfl
def MU:ae->Sem (Option ae):=sortPriv%PySem.Builtin.firstOfTuple?
def LB:Array ae->Sem (Option ae):=sortPriv%PySem.Builtin.oneTypeOnly
def HX (v:ae):MU v=(do
 if(<-typeOf v) !=.type "tuple"then return none
 return (<-aCL v)[0]?):=rfl
def NX (vs:Array ae):LB vs=(do
 let a<-vs.mapM typeOf
 match a[0]? with
 |some t=>return if a.all (· ==t)then some t else none
 |none=>return none):=rfl
def CW (a:Array ae):keyKind' a=(do
 let firsts<-a.mapM MU
 if firsts.all (·.isSome)then
  rule "list.sort.keys-are-tuples"
  return tupK ((<-LB (firsts.filterMap id)).any (· !=.type "tuple"))
 if(firsts[0]?.bind id).isSome then return general'
 return if(<-LB a).isSome then oneType' else general'):=rfl
section
def NG {Q:wJ}(f:Bool)(h:Q (decide (a<b)) s):a9 (cq prog w) A (oneLt' f (.int a t) (.int b u)) Q E s:=by
 cases f with
 |true=>exact oneLt_int h
 |false=>rw[oneLt'_eq];simp only[aAq,if_false];exact aAa (xV A s a t b u prog w _ _<|aBO h)
def lt_ints (f:Bool){Q:wJ}(hl:IsTup s.heap l B)(hb:IsTup s.heap b p)(hi:IntsAre B.toList ns)(hj:IntsAre p.toList N)(h:Q (HT.lexLt ns N) s):a9 (cq prog w) A (keyLt' (tupK f) (.ref l) (.ref b)) Q E s:=by
 obtain⟨o,ho,hc,n,hd⟩:=hl;obtain⟨o2,jn,jg,n2,O⟩:=hb;have z1:B.size=ns.length:=by rw[<-hi.length];simp
 have z2:p.size=N.length:=by rw[<-hj.length];simp
 rw[sR];refine aAa (aEo ho hd<|aAa<|aEo jn O ?_);refine aAa (aCh _ (λrest b m=>b.1=none/\m=s/\∃(k:Nat) (I J:List ae) (r v:List Int),rest=(I.zip J).zipIdx k/\IntsAre I r/\IntsAre J v/\r.length+p.size=v.length+B.size/\Q (HT.lexLt r v) s)
  (λb m=>m=s/\(∀c,b.1=some c->Q c s)/\(b.1=none->Q (decide (B.size<p.size)) s)) ?turn ?fin _ _ ⟨rfl,rfl,0,B.toList,p.toList,ns,N,rfl,hi,hj,by lia,h⟩|>λz=>aCt z ?post λ_ _ e=>e)
 case post=>
  rintro⟨b1,b2⟩ m ⟨rfl,q1,q2⟩;cases b1 with
  |none=>exact aAb (q2 rfl)
  |some c=>exact aAb (q1 c rfl)
 case fin=>
  rintro⟨b1,b2⟩ m ⟨il,rfl,k,I,J,r,v,j,T,L,d,g⟩;refine⟨rfl,λc e=>(by rw[il]at e;cases e),λ_=>?_⟩;cases T with
  |nil=>
   cases L with
   |nil=>rw[lexLt_nil_nil]at g;simp only[aBL]at d;rw[decide_eq_false (by lia)];exact g
   |cons c u hw=>rw[F7]at g;simp only[aBL,aAt]at d;rw[decide_eq_true (by lia)];exact g
  |cons a t hv=>
   cases L with
   |nil=>rw[z8]at g;simp only[aBL,aAt]at d;rw[decide_eq_false (by lia)];exact g
   |cons c u hw=>rw[aBJ,aEu]at j;cases j
 case turn=>
  rintro⟨⟨y,x⟩,i⟩ rest b m ⟨il,rfl,k,I,J,r,v,j,T,L,d,g⟩;cases T with
  |nil=>rw[aFv,aEG]at j;cases j
  |cons a t C=>
   cases L with
   |nil=>rw[aFd,aEG]at j;cases j
   |cons c u H=>
    rw[aBJ,aEu]at j;injection j with U af;injection U with U Y;injection U with hy hx;subst hy hx Y;rw[lexLt_cons]at g;simp only[aAt]at d;obtain⟨e,he,pg⟩:=nR A m a t c u;refine aAa (he prog w _ _ ?_);cases e with
    |true=>rw[kn (pg.mp rfl)]at g;exact aAb ⟨rfl,rfl,_,_,_,_,_,af,C,H,by lia,g⟩
    |false=>rw[ku (λq=>absurd (pg.mpr q) aBc)]at g;exact aAa (NG _ (aAb ⟨rfl,λc e=>(by cases e;exact g),λe=>(by cases e)⟩))
end
section
theorem DX {α β:Type}{M:Model}{f:α->Sem β}(g:α->β):∀(Y:List α) {Q:List β->be->Prop},(∀x∈Y,∀{Q:β->be->Prop},Q (g x) s->a9 M A (f x) Q E s)->Q (Y.map g) s->a9 M A (Y.mapM f) Q E s
 |[],Q,_,q=>by rw[List.mapM_nil];exact aAb q
 |x::Y,Q,h,q=>by rw[List.mapM_cons];exact aAa (h x (.head _) (aAa (DX g Y (λy a=>h y (.tail _ a)) (aAb q))))
def EF {α β:Type}{M:Model}{f:α->Sem β}(g:α->β)(Y:List α){Q:Array β->be->Prop}(h:∀x∈Y,∀{Q:β->be->Prop},Q (g x) s->a9 M A (f x) Q E s)(q:Q (Y.map g).toArray s):a9 M A (Y.toArray.mapM f) Q E s:=by rw[List.mapM_toArray];show a9 M A (List.toArray<$>Y.mapM f) Q E s;rw[map_eq_pure_bind];exact aAa (DX g Y h<|aAb q)
def kind_tuples {vs:List ae}{f:Bool}{T:String}{Q:SortKind->be->Prop}(b:ae->ae)(h:∀x∈vs,∃a B,x=.ref a/\IsTup s.heap a B/\B[0]?=some (b x)/\s.TypeIs (b x) T)(i:vs≠[])(j:f=(aCu T !=aCu "tuple"))
  (q:Q (tupK f) s):a9 (cq prog w) A (keyKind' vs.toArray) Q E s:=by
 rw[CW];refine aAa (EF (λx=>some (b x)) vs (λx d {Q} e=>?_) ?_)
 .obtain⟨a,B,rfl,⟨o,g,k,n,l⟩,m,_⟩:=h x d;rw[HX];refine aAa (aDT (T:= "tuple") ⟨o,g,k⟩ ?_);rw[ku (by simp)];refine aAa (aEo g l ?_);rw[m];exact aAb e
 .have p:((vs.map λx=>some (b x)).toArray.all λx=>x.isSome)=true:=by simp
  have r:(vs.map λx=>some (b x)).toArray.filterMap id=(vs.map b).toArray:=by
   rw[List.filterMap_toArray,aDs];congr 1;induction vs with
   |nil=>rfl
   |cons v vs C=>simp
  simp only[p,if_true,r];refine aAa (aDG ?_);refine aAa ?_;rw[NX];refine aAa (EF (λ_=>aCu T) (vs.map b) (λx d {Q} e=>?_) ?_)
  .obtain⟨y,t,rfl⟩:=aAk.mp d;obtain⟨_,_,_,_,_,u⟩:=h y t;exact aDT u e
  .cases vs with
   |nil=>exact absurd rfl i
   |cons v vs=>
    simp only[aAv,aBK];have z:((aCu T::aDv ((λ_=>aCu T)∘b) vs).toArray.all λx=>x==aCu T)=true:=by simp
    simp only[aBY,aCz,z,if_true];refine aAb (aAb ?_);rw[j]at q;exact q
end
theorem lex_irrefl:∀a:List Int,HT.lexLt a a=false
 |[]=>rfl
 |x::Y=>by rw[lexLt_cons,kn rfl];exact lex_irrefl Y
theorem lex_total:∀a b:List Int,HT.lexLt a b=false->HT.lexLt b a=false->a=b
 |[],[],_,_=>rfl
 |[],_::_,h,_=>by rw[F7]at h;cases h
 |_::_,[],_,h=>by rw[F7]at h;cases h
 |x::Y,y::g,d,f=>by
  rw[lexLt_cons]at d f;by_cases e:x=y
  .subst e;rw[kn rfl]at d f;rw[lex_total Y g d f]
  .rw[ku e]at d;rw[ku (aBV e)]at f;have:=of_decide_eq_false d;have:=of_decide_eq_false f;omega
theorem lex_trans:∀a b c:List Int,HT.lexLt a b=true->HT.lexLt b c=true->HT.lexLt a c=true
 |[],[],_,h,_=>by rw[lexLt_nil_nil]at h;cases h
 |[],_::_,[],_,h=>by rw[z8]at h;cases h
 |[],_::_,_::_,_,_=>rfl
 |_::_,[],_,h,_=>by rw[z8]at h;cases h
 |_::_,_::_,[],_,h=>by rw[z8]at h;cases h
 |x::Y,y::i,z::j,f,d=>by
  rw[lexLt_cons]at f d⊢;by_cases e:x=y
  .subst e;rw[kn rfl]at f;by_cases g:x=z
   .subst g;rw[kn rfl]at d⊢;exact lex_trans Y i j f d
   .rw[ku g]at d⊢;exact d
  .rw[ku e]at f;have k:=of_decide_eq_true f;by_cases g:y=z
   .subst g;rw[ku e];exact f
   .rw[ku g]at d;have l:=of_decide_eq_true d;rw[ku (by omega)];exact decide_eq_true (by omega)
theorem EH:∀a b c:List Int,HT.lexLt a c=true->HT.lexLt a b=true\/HT.lexLt b c=true
 |[],[],_,h=>.inr h
 |[],_::_,_,_=>.inl rfl
 |_::_,_,[],h=>by rw[z8]at h;cases h
 |_::_,[],_::_,_=>.inr rfl
 |x::Y,y::f,z::g,h=>by
  rw[lexLt_cons]at h;rw[lexLt_cons,lexLt_cons];by_cases e:x=y
  .subst e;rw[kn rfl];by_cases d:x=z
   .subst d;rw[kn rfl]at h⊢;exact EH Y f g h
   .rw[ku d]at h⊢;exact .inr h
  .rw[ku e];by_cases l:x<y
   .exact .inl (decide_eq_true l)
   .refine .inr ?_;by_cases d:x=z
    .subst d;rw[ku (aBV e)];exact decide_eq_true (by omega)
    .rw[ku d]at h;have:=of_decide_eq_true h;rw[ku (by omega)];exact decide_eq_true (by omega)
open Classical in
def kV (vs:List ae) (key:ae->List Int):KeyKind where
 α:=List Int
 blt:=HT.lexLt
 irrefl:=lex_irrefl
 trans:=lex_trans
 negTrans:=EH
 total:=lex_total
 keyOf:=λv=>if v∈vs then some (key v)else none
 dflt:=[]
open Classical in
def WE (h:v∈vs):(kV vs key).keyOf v=some (key v):=kn h
open Classical in
def VP (e:(kV vs key).keyOf v=some l):v∈vs/\key v=l:=by
 have a:(if v∈vs then some (key v)else none)=some l:=e;split at a
 .rename_i h;cases a;exact⟨h,rfl⟩
 .cases a
def mQ (vs:List ae):(pairsOf vs).toList=vs.map λv=>(v,v):=by
 unfold pairsOf;rw[List.zip_toArray];show vs.zip vs=_;induction vs with
 |nil=>rfl
 |cons v vs a=>rw[aBJ,aAv,a]
section
def GO {a:cp}{vs:List ae}{n:Nat}{f:Bool}{key:ae->List Int}{P:Fin->be->Prop}(J:s.heap.get? a=some (seqObj "list" vs.toArray n))
  (L:∀d,gw a s d->∀x∈vs,∀y∈vs,∀(prog:cu) (w:cz) (E:A3) {Q:wJ},Q (HT.lexLt (key x) (key y)) d->a9 (cq prog w) A (keyLt' (tupK f) x y) Q E d)
  (N:2<=vs.length->∀d,gw a s d->∀{Q:SortKind->be->Prop},Q (tupK f) d->a9 (cq prog w) A (keyKind' vs.toArray) Q E d) (m:vs.length<64)
  (h:∀o:List ae,o.Perm vs->o.Pairwise (λx y=>HT.lexLt (key y) (key x)=false)->P (.done (.ret .none)) {s with heap:=sortedHeap s.heap a vs o.toArray}):
  a9 (cq prog w) A (Builtin.«list.sort» ⟨[.ref a],[]⟩) P E s:=by
 refine xS (κ:=kV vs key) (f:=f) J (λp g=>?_) (λd r prog w E x y k l Q O T q=>?_) (λU d r {Q} q=>N U d r q) m λb e Y=>?_
 .rw[mQ]at g;obtain⟨v,t,rfl⟩:=aAk.mp g;exact⟨key v,WE t⟩
 .obtain⟨m1,u⟩:=VP O;obtain⟨m2,z⟩:=VP T;subst u z;exact L d r x m1 y m2 prog w E q
 .have C:(arrOf b).toList.Perm (vs.map λv=>(v,v)):=by rw[<-mQ];exact aER.mp e
  have same:∀p∈(arrOf b).toList,p.1=p.2/\p.2∈vs:=λp g=>by obtain⟨v,t,rfl⟩:=aAk.mp (C.mem_iff.mp g);exact⟨rfl,t⟩
  have ea:(arrOf b).map (·.2)=((arrOf b).toList.map (·.2)).toArray:=by apply Array.ext';simp
  rw[ea];refine h _ ?_ ?_
  .have:=C.map (·.2);rw[aBK,show((λx:ae×ae=>x.2)∘λv=>(v,v))=id from rfl,List.map_id]at this;exact this
  .rw[aCo];intro i j hi hj jt;have dg:i<(arrOf b).size:=by simpa using hi
   have H:j<(arrOf b).size:=by simpa using hj
   have B:(arrOf b).size=(pairsOf vs).size:=e.size_eq;have q:=Y i j (aDB jt) (by rw[<-B];exact H);have kk:∀k (I:k<(arrOf b).size),KK (kV vs key) (arrOf b) k=key (arrOf b)[k].2:=λk I=>by unfold KK;rw[getElem?_pos _ k I];obtain⟨u,z⟩:=same (arrOf b)[k] (by simp);show((kV vs key).keyOf (arrOf b)[k].1).getD _=_;rw[u,WE z];rfl
   rw[kk i dg,kk j H]at q;rw[aDi,aDi,aGl,aGl];exact q
def sorted_keys {x:ae}{vs:List ae}{f:Bool}{key:ae->List Int}{Q:A3}{C:be->Prop}(u:∀{p:List ae->be->Prop},(∀s',C s'->p vs s')->a9 (cq prog w) A.in1 (collect x) p E s)
  (v:∀s',C s'->∀a,(∀b o,s'.heap.get? b=some o->a.heap.get? b=some o)->∀x∈vs,∀y∈vs,∀(prog:cu) (w:cz) (r:cy) (E:A3) (N:r.units<=A.units+5) {Q:wJ},Q (HT.lexLt (key x) (key y)) a->a9 (cq prog w) r (keyLt' (tupK f) x y) Q E a)
  (z:2<=vs.length->∀s',C s'->∀a,(∀b o,s'.heap.get? b=some o->a.heap.get? b=some o)->∀(A:cy) {Q:SortKind->be->Prop},Q (tupK f) a->a9 (cq prog w) A (keyKind' vs.toArray) Q E a) (j:vs.length<64)
  (h:∀(s':be) (g:List ae) (h':de) (l:cp),C s'->g.Perm vs->g.Pairwise (λx y=>HT.lexLt (key y) (key x)=false)->(∀b o,s'.heap.get? b=some o->h'.get? b=some o)->s'.heap.objs.size<=l->(∃n,h'.get? l=some (seqObj "list" g.toArray n))->Q (.ref l) {s' with heap:=h'}):
  a9 (cq prog w) A (call (.builtin "sorted") [x]) Q E s:=by
 refine aFj kind_sorted plain_sorted entry_sorted (args_sorted1 _) ?_;unfold Builtin.«sorted»;refine aAa (m:=checkCount "sorted" 1 1 _) (aAb ?_);refine aAa (u λs' k=>?_);refine aAa (wpAny_newList ?_);have d:(s'.heap.push<|seqObj "list" vs.toArray 0).get? s'.heap.objs.size=some (seqObj "list" vs.toArray 0):=aAn _ rfl;have t:∀a,gw s'.heap.objs.size {s' with heap:=s'.heap.push (seqObj "list" vs.toArray 0)} a->∀b o,s'.heap.get? b=some o->a.heap.get? b=some o:=λa i b o e=>i b o (aAl<|aAf e) (aAc _ e);refine aAa (aAL (aBe slot_list_sort ⟨_,d,rfl⟩ entry_list_sort (GO (key:=key) (f:=f) d (λa i x B y H prog w E {Q} q=>v s' k a (t a i) x B y H prog w _ E (by simp) q) (λI a i {Q} q=>z I s' k a (t a i) _ q) j λg J L=>⟨_,rfl,?_⟩)<|args_list_sort _));refine aAb ⟨_,rfl,h s' g _ _ k J L (λb o e=>?_) (aAg _) (sortedHeap_at d)⟩;rw[sortedHeap_old (aAl<|aAf e) (by rw[aBt];exact aBi (aAf e))];exact aAc _ e
end
end TS
namespace DL
open PySem PySem.Spec L2
def OZ (x:D)(a:List D):Bool:=a.any λy=>t7 y x
def inR (n:Bool):D->D->R D
 |.tup Y,.lst a=>if w8 a<=40/\w8 Y<=30 then .ok (.bl (OZ (.tup Y) a !=n))else .bad
 |.lst Y,.lst a=>if w8 a<=40/\w8 Y<=30 then .ok (.bl (OZ (.lst Y) a !=n))else .bad
 |_,_=>.bad
section
variable [Tabs]
open Classical in
def JH (K:lb) (H:Hp) (O:cp->Prop) (a:D) (u:ae):Bool:=decide (∃y d,RelV y u/\Rep K H O y d/\t7 d a=true)
open Classical in
def OG (I:Inv X b σ H s)(r:Rep X.K H O y d)(f:RelV y u):JH X.K H O g u=t7 d g:=by
 unfold JH;by_cases h:t7 d g=true
 .rw[h];exact decide_eq_true ⟨y,d,f,r,h⟩
 .rw[Bool.eq_false_iff.mpr h];refine decide_eq_false λ⟨k,l,a,i,j⟩=>h ?_;have e:=RelV.inj f a;subst e;rw[Rep.inj I r i];exact j
theorem vJ (I:Inv X i σ H s)(k:Rep X.K H q x e)(l:RelV x v):∀{vs:List V} {a:List D} {f:List ae},Reps X.K H O vs a->l9 vs f->A.units+w8 a<df->A.units+A7 e<df->
  (∀u∈f,SeqAt.EqAt A s u v (JH X.K H O e u))/\f.any (JH X.K H O e)=OZ e a
 |_,_,_,.nil,.nil,_,_=>⟨λu m=>(by cases m),rfl⟩
 |_,d::a,_,.cons h t,.cons r n,m,b=>by
  have w:A7 d<=w8 (d::a):=lX (j:=0) rfl;have y:w8 a<=w8 (d::a):=by rw[w8];exact Nat.le_max_right _ _
  obtain⟨o,p⟩:=vJ (A:=A) I k l t n (by lia) b;refine⟨λu g=>?_,?_⟩
  .rcases aAd.mp g with rfl|g
   .rw[OG I h r];exact KM I h k r l (by lia) b
   .exact o u g
  .rw[List.any_cons,p,OG I h r];rfl
end
section
variable [Tabs]
def jz (hu:X.A.units+64<df):iH X (d9 .In) (inR false):=by
 intro H O x y dx dy Q fr T U q;unfold inR at q;split at q
 .rename_i Y j;split at q
  .rename_i hd;obtain⟨k,fu,rfl,l,n⟩:=T.tupI;obtain⟨a,vs,rfl,h,r⟩:=U.aa5;refine⟨λe f b g=>e=.ref k/\f=.ref a/\b=H/\g (.bl (OZ (.tup Y) j)) H,?_,rfl,rfl,rfl,?_⟩
   .intro i s σ b e f v u g I o t ⟨B,C,E,J⟩;subst B C E;cases t;obtain⟨d,L,p,hz⟩:=I.list h;have m:=vJ I (A:=X.A.in1) (O:=O) (Rep.tup l n) o r L (by rw[l5];lia) (by rw[l5,A7];lia);refine SeqAt.in_listAt (JH X.K b O<|.tup Y) p.isList (λw N=>m.1 w (by simpa using N)) ⟨.bl _,b,I,rfl,?_⟩;rw[show d.toArray.any (JH X.K b O<|.tup Y)=d.any (JH X.K b O<|.tup Y)by simp,m.2];exact J
   .have:=q (.bl _) H (Same.refl _) .bl;simpa using this
  .exact q.elim
 .rename_i Y j;split at q
  .rename_i hd;obtain⟨k,fu,rfl,l,n⟩:=T.aa5;obtain⟨a,vs,rfl,h,r⟩:=U.aa5;refine⟨λe f b g=>e=.ref k/\f=.ref a/\b=H/\g (.bl (OZ (.lst Y) j)) H,?_,rfl,rfl,rfl,?_⟩
   .intro i s σ b e f v u g I o t ⟨B,C,E,J⟩;subst B C E;cases t;obtain⟨d,L,p,hz⟩:=I.list h;have m:=vJ I (A:=X.A.in1) (O:=O) (Rep.lst (O:=λ_=>False) l (λz=>z)<|n.sub λ_ z=>z.elim) o r L (by rw[l5];lia) (by rw[l5,A7];lia);refine SeqAt.in_listAt (JH X.K b O<|.lst Y) p.isList (λw N=>m.1 w (by simpa using N)) ⟨.bl _,b,I,rfl,?_⟩;rw[show d.toArray.any (JH X.K b O<|.lst Y)=d.any (JH X.K b O<|.lst Y)by simp,m.2];exact J
   .have:=q (.bl _) H (Same.refl _) .bl;simpa using this
  .exact q.elim
 .exact q.elim
end
section
variable [Tabs]
def UN:D->D->R D
 |.tup Y,.tup a=>if w8 a<=40/\w8 Y<=30 then .ok (.bl (OZ (.tup Y) a))else .bad
 |_,_=>.bad
def ZO (U:X.A.units+64<df):iH X (d9 .In) UN:=by
 intro H O x y dx dy Q fr j k q;unfold UN at q;split at q
 .rename_i Y l;split at q
  .rename_i hd;obtain⟨n,fu,rfl,o,t⟩:=j.tupI;obtain⟨a,vs,rfl,h,r⟩:=k.tupI;refine⟨λe f b g=>e=.ref n/\f=.ref a/\b=H/\g (.bl (OZ (.tup Y) l)) H,?_,rfl,rfl,rfl,q (.bl _) H (Same.refl _) .bl⟩;intro i s σ b e f v u g I z B ⟨C,E,J,L⟩;subst C E J;cases B;obtain⟨d,N,p,hz⟩:=I.tuple h;have m:=vJ I (A:=X.A.in1) (O:=O) (Rep.tup o t) z r N (by rw[l5];lia) (by rw[l5,A7];lia);refine SeqAt.in_tupleAt (JH X.K b O<|.tup Y) p (λw T=>m.1 w (by simpa using T)) ⟨.bl _,b,I,rfl,?_⟩;rw[show d.toArray.any (JH X.K b O<|.tup Y)=d.any (JH X.K b O<|.tup Y)by simp,m.2];exact L
  .exact q.elim
 .exact q.elim
end
end DL
namespace DL
open PySem PySem.Spec L2
open PyProof.Rows hiding St
variable [Tabs]
omit [Tabs]in
def xY {ns:List Int}(h:PySem.W.WData.layableAll [PySem.W.WData.list (ns.map PySem.W.WData.int)]=true):∀x∈ns,aBf x<=1048576:=λx a=>by
 have b:=(PySem.W.layW_cons h).1;have d:=PySem.W.layableW_item b (.int x) (aAk.mpr ⟨x,a,rfl⟩);have e:=PySem.W.lay0_int d;have f:PyData.layable0 (.int x)=true:=by simpa[PyData.layableAll0]using e
 exact PyData.bits_of_layable f
def x5 (P:cu)(w:cz)(K:lb)(mg:cE)(base:de)(k:Nat)(x:Str)(n:Nat)(m:List D->R D):Prop:=
 ∃g a b,FnOk P w K mg base wG k g a b (gq K n m)/\Binds K a b []/\PySem.W.keepIn K (.ref g)=true/\mg x=some (.ref g)
def IN (f:Ev->R (List D))(n:Nat):Prop:=∀ρ a,f ρ=.ok a->a.length=n
def Z8:IN M9 0:=λρ a h=>by cases h;rfl
def A5 (h:IN g n):IN (m8 f g) (n+1):=λρ j e=>by
 unfold m8 at e;cases b:f ρ with
 |ok d=>
  rw[b,R.aa0]at e;cases a:g ρ with
  |ok i=>rw[a]at e;cases e;rw[aAt,h ρ i a]
  |ex x=>rw[a]at e;cases e
  |bad=>rw[a]at e;cases e
 |ex x=>rw[b]at e;cases e
 |bad=>rw[b]at e;cases e
section
def tW (c:x5 X.prog X.w X.K X.mg X.base k x n m)(d:Room k X.A)(h:JP X (e::es) f)(i:IN f n)(j:Gl X x:=by rfl)(l:(x==ll)=false:=by decide)(o:bb (e::es) X.env=(false,d3 e X.env)::bb es X.env:=by rfl)(q:(dn a (bb es X.env)).any (·.1)=false:=by rfl):
  PD X (.Call (.Name x p) (e::es) [] a) (λρ=>(f ρ).bind m):=by
 obtain⟨g,s,t,F,b,r,em⟩:=c;exact UF F d em r b h i j l o q
end
def XT {P:cu}{w:cz}{K:lb}{mg:cE}{base:de}{x qual:Str}{st:dC}{f:cp}{fd:ek}{N ps:List Str}{k:Nat}{m:List D->R D}{F:Ev->R Out}(e:Fun K x qual st f fd)(S:FnScope N ps (c9 st))(b:Binds K fd ps [])(g:mg x=some (.ref f))
  (h:∀(L:ae) (A:cy) (a:List Env) (s:be) (H:Hp) (E:XK),Room k (A.deeper (envOfC qual (c9 st) s.heap.objs.size f L))->aL (TF P w K mg base N qual (c9 st) f L A a s H E) (t5 st) F)
  (i:∀ds d,ds.length=ps.length->m ds=.ok d->L9 (F (j6 N ds))=.ok d):x5 P w K mg base (k+1) x ps.length m:=
 ⟨f,fd,ps,fnD e S h i,b,e.kp,g⟩
def t6:∀d ρ1,(R.ok ((f9 [x] a ρ).set 0 (Sl.v d)):R Ev)=.ok ρ1->oA ρ1 (f9 [x] a ρ):=λd ρ1 h=>by
 cases h;refine⟨by simp,λi e h b=>?_⟩;cases i with
 |zero=>exact absurd (by simpa[f9]using h.symm) b
 |succ i=>rw[aCy (by lia)];exact h
def KF (sc:kb)(N:List Str)(a:kb)(d:List Str)(b:List Nat):Bool:=
 decide (a.kind=.function)&&a.names.all (λy=>decide (y.2=.free->(y.1,aCc)∉a.names))&&a.names.all (λy=>decide (y.2=.local->a.names.lookup y.1=some .local))&&
 a.names.all (λy=>decide (y.2=.free->sc.names.lookup y.1=some .cell\/sc.names.lookup y.1=some .free))&&decide (b.length=d.length)&&(b.zip d).all (λp=>decide (N[p.1]?=some p.2/\(p.2,NameKind.free)∈a.names))&&decide b.Nodup&&
 a.names.all (λy=>decide (y.2=.free->a.names.lookup y.1=some .free))
def J6 (b:X.env.scope=sc:=by rfl)(d:X.N=N:=by rfl)(h:KF sc N a e f=true:=by decide+kernel):CompSc X a own e f:=by simp only[KF,aAK,aBC,decide_eq_true_eq]at h;obtain⟨⟨⟨⟨⟨⟨⟨g,k⟩,l⟩,m⟩,n⟩,o⟩,p⟩,q⟩:=h;subst b d;refine⟨g,k,l,m,n,λi j x r s=>?_,p,q⟩;refine o (j,x) (aAr (i:=i) ?_);rw[aBF];exact⟨r,s⟩
def CP (σ:List (Nat×D))(h:∀p∈σ,p.1<Y.length):oA (σ.foldl (λr p=>r.set p.1 (Sl.v p.2)) (f9 Y a ρ)) (f9 Y a ρ):=by
 have f:∀(σ:List (Nat×D)) (r:Ev),(∀p∈σ,p.1<Y.length)->r.length=(f9 Y a ρ).length->(∀i,Y.length<=i->r[i]?=(f9 Y a ρ)[i]?)->
   (σ.foldl (λr p=>r.set p.1 (Sl.v p.2)) r).length=(f9 Y a ρ).length/\∀i,Y.length<=i->(σ.foldl (λr p=>r.set p.1 (Sl.v p.2)) r)[i]?=(f9 Y a ρ)[i]?:=by
  intro σ;induction σ with
  |nil=>intro r _ b d;exact⟨b,d⟩
  |cons p σ l=>intro r g b d;refine l _ (λq m=>g q (aAe _ m)) (by rw[aFZ];exact b) λi k=>?_;have:=g p aAU;rw[aCy (by lia)];exact d i k
 obtain⟨b,d⟩:=f σ _ h rfl λ_ _=>rfl;refine⟨b,λi n e o=>?_⟩;by_cases k:i<Y.length
 .have:n=.no:=by
   rcases V5 e with z|⟨j,_,s,_⟩
   .exact z
   .lia
  exact absurd this o
 .rw[d i (by lia)];exact e
def NZ:∀d ρ1,bS 2 (K4 (λd ρ=>.ok (ρ.set 0 (.v d))) (K4 (λd ρ=>.ok (ρ.set 1 (.v d))) eS)) d (f9 [x,y] e ρ)=.ok ρ1->oA ρ1 (f9 [x,y] e ρ):=λd ρ1 h=>by
 have f:∀g:List D,g.length=2->K4 (λd ρ=>.ok (ρ.set 0<|.v d)) (K4 (λd ρ=>.ok (ρ.set 1<|.v d)) eS) g (f9 [x,y] e ρ)=.ok ρ1->oA ρ1 (f9 [x,y] e ρ)
  |[a,b],_,h=>by cases h;exact CP (Y:=[x,y]) [(0,a),(1,b)] (by simp)
 unfold bS at h;split at h
 .split at h
  .exact f _ ‹_› h
  .cases h
 .split at h
  .exact f _ ‹_› h
  .cases h
 .cases h
end DL
namespace DL.Att2
open PySem PySem.W PySem.Calls PyProof.Rows
def attach_bits {l:OpenLaw}{n:Nat}{q:cu}{b:List Str}{u:(Str->Option ae)->de->Prop}{v:cz->de->Prop}{d:DefRec}
  (B:l.most=some n) (m:d.params.defaults=[])
  (call:∀(w:cz) (p e:be) (mg s:cE) (fa:cp) (o:Obj) (t cd h:ae) (a:cp) (vs:List ae) (ns:List Int),
   Ground q b [] u w p mg s e.heap->v w e.heap->
   e.heap.get? fa=some o->o.data=.func (docDef d.name d.params d.body d.scope t cd h)->e.heap.CodeRec cd d.name->mg d.name=some (.ref fa)->
   e.heap.get? a=some {cls:=.type "list",data:=.seq vs.toArray}->IntsAre vs ns->ns.length<=n->(∀x∈ns,aBf x<=1048576)->e.gens=#[]->
   gy (cq l.prog w) callerA (.call (.ref fa) ⟨[.ref a],[]⟩) (λr s'=>r=.ok (.ret (.bool true))/\OldK e.heap s'.heap/\s'.os=e.os/\AllBare s'.gens) e):
  WalkO q b u v l.row.toRowW d [] (λf vs=>PySem.call f vs):=by
 intro w p e mg s G Y fa o t cd h C kV E H I y J L z A as N g O Q T;obtain rfl:C=.none:=Dflts.none y m;obtain rfl:kV=.none:=Dflts.noKw y;obtain⟨a,vs,ns,rfl,rfl,j,i,k⟩:=Att.script_of B N Q;have U:=DL.xY (ns:=ns) (by first|exact g|exact g.1|(simpa using g));refine enter_call (aDS (call w p e mg s fa o t cd h a vs ns G Y E (fd_plain H) I J j i k U L) λr s' hq=>?_);obtain⟨rfl,h2,h3,h4⟩:=hq;exact⟨.inl ⟨.bool true,.bool true,[],rfl,λ_=>rfl,.bool true,Att.post_true l _,λ_=>⟨aGD,λ_ hm=>(nomatch hm)⟩⟩,h2,h3,h4⟩
end DL.Att2
namespace DL
open PySem PySem.Spec L2
open PyProof.Rows hiding St
variable [Tabs]
end DL
namespace DL
open PySem L2
abbrev bits (a:Int):Nat:=aBf a
def f8 (h:l7 a b):R8 (.int a) (.int b)=.ok (.int (a*b)):=kn h
def aJ (h:xP b):Q4 (.int a) (.int b)=.ok (.int (a.fdiv b)):=kn h
def xW (h:b≠0):W2 (.int a) (.int b)=.ok (.int (a.fmod b)):=kn h
def wN (h:0<=b/\b<=1000000/\a.natAbs<2^64):JD (.int a) (.int b)=.ok (.int (a^b.toNat)):=kn h
def l7.of (d:bits a<=m)(e:bits b<=n)(f:m<=60000000:=by decide)(g:n<=60000000:=by decide):l7 a b:=⟨aAp d f,aAp e g⟩
def bits_add (d:bits a<=n)(e:bits b<=n):bits (a+b)<=n+1:=by have:=PyProof.Rows.bits_add d e;rw[Nat.max_self]at this;exact this
def bits_sub (d:bits a<=n)(e:bits b<=n):bits (a-b)<=n+1:=by have:=PyProof.Rows.bits_sub d e;rw[Nat.max_self]at this;exact this
def bits_mul (d:bits a<=m)(e:bits b<=n):bits (a*b)<=m+n:=PyProof.Rows.bits_mul d e
def bits_neg (b:bits a<=m):bits (-a)<=m:=PyProof.Rows.bits_neg b
def uA (h:a.natAbs<2^n):bits a<=n:=PyProof.Rows.intBits_le h
def EZ (h:bits a<=n):a.natAbs<2^n:=PyProof.Rows.lt_pow_of_bits h (aAg n)
@[simp]def eJ (d:D)(ρ:Ev):U1 0 (Sl.v d::ρ)=.ok d:=rfl
@[simp]def kU (i:Nat)(x:Sl)(ρ:Ev):U1 (i+1) (x::ρ)=U1 i ρ:=rfl
@[simp]def WL (d:D)(ρ:Ev):qI 0 (Sl.v d::ρ)=.ok d:=rfl
@[simp]def DJ (d:List D)(ρ:Ev):qI 0 (Sl.o d::ρ)=.ok (.lst d):=rfl
@[simp]def yO (i:Nat)(x:Sl)(ρ:Ev):qI (i+1) (x::ρ)=qI i ρ:=rfl
@[simp]def ak (d:D)(ρ:Ev):WB d ρ=.ok d:=rfl
@[simp]def C0 (ρ:Ev)(F:Ev->R Out):B5 (.ok (.nx ρ)) F=F ρ:=rfl
@[simp]def pz (d:D)(F:Ev->R Out):B5 (.ok (.rt d)) F=.ok (.rt d):=rfl
@[simp]def a0p (d:D):L9 (.ok (.rt d))=.ok d:=rfl
@[simp]def a0j (ρ:Ev):L9 (.ok (.nx ρ))=.ok .non:=rfl
@[simp]def xM (f:Ev->R D)(g:Ev->R (List D))(ρ:Ev):m8 f g ρ=(f ρ).bind λd=>(g ρ).bind λds=>.ok (d::ds):=rfl
@[simp]def GD (ρ:Ev):M9 ρ=.ok []:=rfl
@[simp]def a3b (a b:D):cB [a,b]=.ok (.tup [a,b]):=rfl
@[simp]def a3n (a b c:D):cB [a,b,c]=.ok (.tup [a,b,c]):=rfl
@[simp]def a3f (a b c d:D):cB [a,b,c,d]=.ok (.tup [a,b,c,d]):=rfl
@[simp]def a2u:wF []=.ok (.lst []):=rfl
@[simp]def a3c (a b c:D):wF [a,b,c]=.ok (.lst [a,b,c]):=rfl
@[simp]def a3o (x y z:D):R7 (.tup [x,y,z]) (.int 0)=.ok x:=rfl
@[simp]def a2x (x y z:D):R7 (.tup [x,y,z]) (.int 1)=.ok y:=rfl
@[simp]def a3g (x y z:D):R7 (.tup [x,y,z]) (.int 2)=.ok z:=rfl
@[simp]def a3p (x y z t:D):R7 (.tup [x,y,z,t]) (.int 0)=.ok x:=rfl
@[simp]def a3d (x y z t:D):R7 (.tup [x,y,z,t]) (.int 1)=.ok y:=rfl
@[simp]def a3k (x y z t:D):R7 (.tup [x,y,z,t]) (.int 2)=.ok z:=rfl
@[simp]def a2t (x y z t:D):R7 (.tup [x,y,z,t]) (.int 3)=.ok t:=rfl
@[simp]def a3m (x y:D):R7 (.tup [x,y]) (.int 0)=.ok x:=rfl
@[simp]def a2v (x y:D):R7 (.tup [x,y]) (.int 1)=.ok y:=rfl
def M7 (h:pD Y i=some d):R7 (.lst Y) (.int i)=.ok d:=by simp only[R7,h]
def EJ {Y:List D}{i:Int}{d:D}(h:pD Y i=some d):R7 (.tup Y) (.int i)=.ok d:=by simp only[R7,h]
@[simp]def a0i (a b:Int):lS (.int a) (.int b)=.ok (.int (a+b)):=rfl
@[simp]def vN (a b:Int):OM (.int a) (.int b)=.ok (.int (a-b)):=rfl
@[simp]def XG (a b:Int):ltR (.int a) (.int b)=.ok (.bl (decide (a<b))):=rfl
@[simp]def DC (a b:Int):yj (.int a) (.int b)=.ok (.bl (decide (a<=b))):=rfl
@[simp]def pH (a b:Int):ij (.int a) (.int b)=.ok (.bl (decide (b<a))):=rfl
@[simp]def a2h (a:Int):kz (.int a)=.ok (.int (-a)):=rfl
@[simp]def DP (b:Bool):EY (.bl b)=.ok b:=rfl
@[simp]def a3r (b:Int):toI (.int b)=.ok (some b):=rfl
@[simp]def CY (Y:List D):GQ [.lst Y]=.ok (.int Y.length):=rfl
@[simp]def cw (a:Int):zy [.int a]=.ok (.int (if a<0 then-a else a)):=rfl
@[simp]def vK (f g:Ev->R Bool)(ρ:Ev):XH f g ρ=(f ρ).bind λb=>if b=true then g ρ else .ok false:=rfl
@[simp]def a0y (f g:Ev->R Bool)(ρ:Ev):orB f g ρ=(f ρ).bind λb=>if b=true then .ok true else g ρ:=rfl
@[simp]def a1f (a b:Int):WU (.int a) (.int b)=.ok (.bl (a==b)):=by simp only[WU,A7,t7];rfl
@[simp]def OI (a b:Int):AF (.int a) (.int b)=.ok (.bl (!(a==b))):=by simp only[AF,A7,t7];rfl
@[simp]def fq (a b c d e f:Int):WU (.tup [.int a,.int b,.int c]) (.tup [.int d,.int e,.int f])=.ok (.bl (a==d&&(b==e&&c==f))):=by simp[WU,A7,w8,t7,V9]
@[simp]def jY (a b c d e f:Int):AF (.tup [.int a,.int b,.int c]) (.tup [.int d,.int e,.int f])=.ok (.bl (!(a==d&&(b==e&&c==f)))):=by simp[AF,A7,w8,t7,V9]
def Y7 {α:Type}{Y:List α}{k:Int}(h0:0<=k):pD Y k=Y[k.toNat]?:=by
 unfold pD BU;rw[kn h0];by_cases h:k<Y.length
 .rw[kn h];rfl
 .rw[ku h,aBS.mpr (by omega)];rfl
def M4 (n:Nat)(Y:List D):Prop:=∀x∈Y,∃i,x=.int i/\bits i<=n
def VI {n:Nat}{ns:List Int}(h:∀x∈ns,bits x<=n):M4 n (ns.map D.int):=λx a=>by obtain⟨i,b,rfl⟩:=aAk.mp a;exact⟨i,rfl,h i b⟩
def tO (g:Int->Int)(Y:List D)(k:Int):D:=match Y[k.toNat]? with
 |some d=>d
 |none=>.int (g k)
def JC (h:M4 n Y)(g:Int->Int)(k:Int):∃i,tO g Y k=.int i/\(bits i<=n\/i=g k):=by
 unfold tO;cases e:Y[k.toNat]? with
 |none=>exact⟨_,rfl,.inr rfl⟩
 |some d=>obtain⟨i,rfl,a⟩:=h d (aAr e);exact⟨i,rfl,.inl a⟩
def L0 (b:-((2:Int)^n)<a)(d:a<(2:Int)^n):bits a<=n:=uA (by
 have e:((2^n:Nat):Int)=(2:Int)^n:=by simp
 omega)
def bits_fmod {a b:Int}{n:Nat}(h0:b≠0)(d:bits b<=n):bits (a.fmod b)<=n:=PyProof.Rows.bits_fmod_by h0 d
def bits_fdiv (d:bits a<=n):bits (a.fdiv b)<=n:=PyProof.Rows.bits_fdiv d
def w5 (h:bits a<=m)(b:m<=n:=by decide):bits a<=n:=aAp h b
@[simp]def a4c:fO [.int 3]=.ok [.int 0,.int 1,.int 2]:=rfl
@[simp]def iQ (Y:List D):P8 (.lst Y)=.ok Y:=rfl
@[simp]def IX (Y:List D):DQ (.tup Y)=.ok Y:=rfl
@[simp]def ZE (G:D->Ev->R Ev)(ft:Ev->R Bool)(fe:Ev->R D)(ρ:Ev):u5 G ft fe ρ []=.ok []:=rfl
@[simp]def YV (i:Nat)(ft:Ev->R Bool)(fe:Ev->R D)(ρ:Ev)(d:D)(ds:List D):u5 (λd ρ=>.ok (ρ.set i (Sl.v d))) ft fe ρ (d::ds)=(ft (ρ.set i (Sl.v d))).bind λb=>if b=true then(fe (ρ.set i (Sl.v d))).bind λr=>(u5 (λd ρ=>.ok (ρ.set i (Sl.v d))) ft fe ρ ds).bind λa=>.ok (r::a)else u5 (λd ρ=>.ok (ρ.set i (Sl.v d))) ft fe ρ ds:=rfl
@[simp]def a0n (d:D):seen (.v d)=.v d:=rfl
def VZ (x:D)(r:List D):R7 (.tup (x::r)) (.int 0)=.ok x:=EJ (by rw[Y7 (by decide)];rfl)
def WN (x y:D)(r:List D):R7 (.tup (x::y::r)) (.int 1)=.ok y:=EJ (by rw[Y7 (by decide)];rfl)
def WC (x y z:D)(r:List D):R7 (.tup (x::y::z::r)) (.int 2)=.ok z:=EJ (by rw[Y7 (by decide)];rfl)
theorem fE (Iv:Nat->Ev->Prop)(b:∀n ρ,Iv (n+1) ρ->c ρ=.ok false\/(c ρ=.ok true/\∃ρ2,F ρ=.ok (.nx ρ2)/\Iv n ρ2))(a:∀ρ,¬Iv 0 ρ):∀n ρ,Iv n ρ->∃m ρ',R3 c F n ρ=.ok (.nx ρ')/\Iv m ρ'/\c ρ'=.ok false
 |0,ρ,h=>absurd h (a ρ)
 |n+1,ρ,h=>by
  rcases b n ρ h with e|⟨e,ρ2,d,f⟩
  .exact⟨n+1,ρ,by rw[R3,e];rfl,h,e⟩
  .obtain⟨m,ρ',g,i,j⟩:=fE Iv b a n ρ2 f;exact⟨m,ρ',by rw[R3,e];simp only[R.aa0,if_true,d];exact g,i,j⟩
def JG {Iv:Nat->Ev->Prop}(b:∀n ρ,Iv (n+1) ρ->c ρ=.ok false\/(c ρ=.ok true/\∃ρ2,F ρ=.ok (.nx ρ2)/\Iv n ρ2))(h0:Iv n ρ)(f:∀n ρ',Iv n ρ'->c ρ'=.ok false->L9 (g ρ')=.ok d)(a:∀ρ,¬Iv 0 ρ:=by(intro ρ;rintro⟨x,y,_,z,_⟩;omega)):
  L9 (B5 (R3 c F n ρ) g)=.ok d:=by
 obtain⟨m,ρ',e,h,i⟩:=fE Iv b a n ρ h0;rw[e];exact f m ρ' h i
end DL
namespace DL
open PySem PySem.Spec L2
open PyProof.Rows hiding St
section
variable [Tabs]
section
variable{K:lb}
def EnvOk.ad7 (E:EnvOk K e f H O σ ρ)(i:Nat)(h:H a=none)(d:K.lookup a=none)(r:Reps K H O vs Y):
  EnvOk K e f (upd H a (.lst vs)) (λb=>O b\/b=a) (σ.set i (some (.ref a))) (ρ.set i (.o Y)):=
 E.ae0 i h d trivial λg=>⟨a,vs,rfl,.inr rfl,g,j3,r.ab9 h d⟩
def EnvOk.disown (E:EnvOk K f g H O σ ρ)(e:ρ[i]?=some (.o Y)):∃d,EnvOk K f g H d σ (ρ.set i (.v (.lst Y)))/\(∀b,d b->O b):=by obtain⟨a,l,h,m,n,j,k⟩:=E.own i Y e;exact⟨λb=>O b/\b≠a,E.ae6 e trivial h (λz=>z) ⟨.ref a,rfl,.lst (N2.of j) (λz=>z.2 rfl) (k.sub λ_ z=>z.1)⟩,λb z=>z.1⟩
def EnvOk.write (E:EnvOk K k l H O σ ρ)(e:ρ[i]?=some (.o Y))(b:σ[i]?=some (some (V.ref a)))(r:Reps K H O d f):
  EnvOk K k l (upd H a (.lst d)) O σ (ρ.set i (.o f))/\Kp H O (upd H a (.lst d)) O:=by
 obtain⟨g,q,m,h,n,j,s⟩:=E.own i Y e;have p:g=a:=by rw[m]at b;cases b;rfl
 subst p;exact E.ad6 e trivial b j trivial trivial λ_ _ _=>⟨g,d,rfl,h,n,j3,r.upd j trivial h⟩
end
section
def tF (X:Cx)(f:Ev->R (List D)):TE:=λσ H Q=>∃h i O ρ,EnvOk X.K h i H O σ ρ/\match f ρ with
 |.ok j=>∀d b a,Same H b->b a=none->Reps X.K b O d j->Q (.ref a) (upd b a<|.lst d)
 |.ex e=>∀g,Same H g->XW X e g
 |.bad=>False
def PF (X:Cx)(e:dm)(f:Ev->R (List D)):Prop:=PE X e (tF X f)
def LV (I:Inv X b σ H s)(h:H a=some o):X.K.lookup a=none:=by
 cases e:X.K.lookup a with
 |none=>rfl
 |some d=>have:=(I.bs a d<|I.ok.mod.kin a d e).2;rw[h]at this;cases this
def PF.pd (h:PF X e f):PD X e (λρ=>(f ρ).bind λds=>.ok (.lst ds)):=QF h λσ H Q i j O ρ E q=>⟨i,j,O,ρ,E,by
 dsimp only at q;cases b:f ρ with
 |ok ds=>rw[b]at q;intro k l a g d r;exact q _ _ (g.trans<|j7 d _) (.lst (N2.of j3) ((E.grow g).fresh d) (r.same<|j7 d _))
 |ex x=>rw[b]at q;exact q
 |bad=>rw[b]at q;exact q⟩
def jN (h:JP X es f):PF X (.List es e) (λρ=>(f ρ).bind λds=>if ds.length<=sizeLine then .ok ds else .bad):=
 QF (PN h) λσ H Q g i O ρ E q=>⟨g,i,O,ρ,E,by
  dsimp only at q;cases a:f ρ with
  |ok ds=>
   rw[a,R.aa0]at q;intro j k l d;by_cases b:ds.length<=sizeLine
   .rw[kn b]at q;exact⟨by rw[d.length];exact b,λp m=>q j k p l m d⟩
   .rw[ku b]at q;exact aAh q
  |ex x=>rw[a]at q;exact q
  |bad=>rw[a]at q;exact q⟩
def eF (i:Nat)(L:PF X e f)(Q:X.N.Nodup)(T:X.N[i]?=some x:=by rfl)(U:Loc X.env.scope x:=by first|exact aCn rfl|exact aBA rfl)(Y:ff e (some (.Name x h)) p.line X.env=pure false:=by rfl)(hf:X.fn x=true\/X.env.scope.names.lookup x=some .local:=by first|exact .inl rfl|exact .inr rfl|assumption):
  mZ X (.Assign [.Name x h] e p) (λρ=>(f ρ).bind λds=>.ok (.nx (ρ.set i (.o ds)))):=by
 rintro w A j s σ H D I ⟨O,ρ,E,fk,q⟩;dsimp only at q;refine aFr (D4 (L j s σ H (λv B=>∃g d a ds,v=.ref a/\B=upd d a (.lst g)/\Same H d/\d a=none/\Reps X.K d O g ds/\RS X w A H O (.ok (.nx (ρ.set i<|.o ds))) D) I ⟨w,A,O,ρ,E,?_⟩) λv C z9=>?_) Y
 .cases k:f ρ with
  |ok ds=>rw[k,R.aa0]at q;exactλg d a C l r=>⟨g,d,a,ds,rfl,rfl,C,l,r,q⟩
  |ex x=>rw[k]at q;exactλH' s=>q H' (E.same.trans s)
  |bad=>rw[k]at q;exact q
 .obtain⟨y,B,t,r2,g,d,a,ds,k,e2,m,l,r,q'⟩:=z9;subst k e2;refine Q9 t Q T U r2 (λs3 I3=>⟨_,_,I3,?_⟩) hf;have hk:=LV t (j3 (H:=d) (a:=a) (o:=.lst g));have J:=(E.grow m).ad7 i l hk r;refine q' _ _ _ J (uB t _ J.trk) ?_;exactλb o u n=>⟨by rw[l4 (q9 (m b o u) l)];exact m b o u,λz=>z.elim n (q9 (m b o u) l)⟩
def QO (i:Nat)(ρ:Ev):Ev:=match ρ[i]? with
 |some (.o Y)=>ρ.set i (.v (.lst Y))
 |_=>ρ
def FA (i:Nat){st:dC}(h:mZ X st F):mZ X st (λρ=>F (QO i ρ)):=by
 intro g j f s σ H D I ⟨O,ρ,E,k,q⟩;dsimp only at q;unfold QO at q;cases e:ρ[i]? with
 |none=>rw[e]at q;exact h g j f s σ H D I ⟨O,ρ,E,k,q⟩
 |some l=>
  rw[e]at q;cases l with
  |x C=>exact h g j f s σ H D I ⟨O,ρ,E,k,q⟩
  |c m φ=>exact h g j f s σ H D I ⟨O,ρ,E,k,q⟩
  |d J=>exact h g j f s σ H D I ⟨O,ρ,E,k,q⟩
  |no=>exact h g j f s σ H D I ⟨O,ρ,E,k,q⟩
  |v d=>exact h g j f s σ H D I ⟨O,ρ,E,k,q⟩
  |o Y=>obtain⟨p,r,sub⟩:=E.disown e;exact h g j f s σ H D I ⟨p,_,r,λa o t z=>k a o t (sub a z),RS.grow q λb o u n=>⟨u,λz=>n (sub b z)⟩⟩
def wU (i:Nat)(ρ:Ev)(d:D):R Out:=match ρ[i]? with
 |some (.o Y)=>if Y.length<sizeLine then .ok (.nx (ρ.set i<|.o (Y++[d])))else .bad
 |_=>.bad
def bK (i:Nat)(z:PD X e f)(A:X.N[i]?=some x:=by rfl)(B:vT X.env.scope x:=by first|exact aCn rfl|exact aBA (aCn rfl)|exact aBA (aBA rfl))(I:(x==ll)=false:=by decide)(L:(x==lp)=false:=by decide)(Q:fh (.Name x p) "append" X.env (d3 (.Name x p) X.env)=d3 (.Name x p) X.env:=by rfl)(T:((dn g (bb [e] X.env)).all (λx=>!x.1)&&(backToKw g (keywordEach [] X.env)).all (λx=>x.1.isSome)
   &&decide ([e].length+([]:List ka).length+(if([]:List ka).isEmpty then 0 else 1)<30))=true:=by rfl) (U:(b.endLine==g.line)=true:=by rfl) (r:bb [e] X.env=(false,d3 e X.env)::bb [] X.env:=by rfl) (dh:(dn g (bb [] X.env)).any (·.1)=false:=by rfl) (xa:ff (.Call (.Attribute (.Name x p) "append" b) [e] [] g) none l.line X.env=pure false:=by rfl):
  mZ X (.Expr (.Call (.Attribute (.Name x p) "append" b) [e] [] g) l) (λρ=>(f ρ).bind (wU i ρ)):=λH9 O0=>
 AE (mN (VR PySem.F.plainAttrs_list PySem.F.slot_list_append PySem.F.type_list_append tQ (G6 A B I L) (i9 z o7 r) Q T U r dh) xa) λD σ H O ρ E fk q=>by
 cases j:f ρ with
 |ok d=>
  rw[j,R.aa0]at q;unfold wU at q;cases h:ρ[i]? with
  |none=>rw[h]at q;exact aAh q
  |some s=>
   rw[h]at q;cases s with
   |x C=>exact aAh q
   |c m φ=>exact aAh q
   |d J=>exact aAh q
   |no=>exact aAh q
   |v d=>exact aAh q
   |o Y=>
    dsimp only at q;split at q
    .rename_i hz;obtain⟨a,t,u,h2,h3,w,y⟩:=E.own i Y h;refine⟨_,u,.inl ⟨rfl,t,N2.of w⟩,H9,O0,O,ρ,E,?_⟩;show EA X H O ((f ρ).bind λd=>(R.ok []).bind λds=>.ok (d::ds)) _;rw[j];intro us H1 k n;cases n with
     |cons n rn=>cases rn;have E1:=E.grow k;refine⟨a,t,_,rfl,rfl,k _ _ w,by rw[y.length];exact hz,?_⟩;obtain⟨E2,k2⟩:=E1.write h u ((y.same k).snoc n);exact q σ _ O E2 fk ((Kp.of k).trans k2)
    .exact aAh q
 |ex x=>
  rw[j]at q;cases h:ρ[i]? with
  |none=>exact(q H E.same).elim
  |some s=>exact(q H E.same).elim
 |bad=>rw[j]at q;exact aAh q
def UE (i:Nat)(ρ:Ev)(d:D):R Out:=match ρ[i]?,d with
 |some (.o Y),.lst a=>if Y.length+a.length<=sizeLine then .ok (.nx (ρ.set i<|.o (Y++a)))else .bad
 |_,_=>.bad
def AY (i:Nat)(ρ:Ev):R (D×Ev):=match ρ[i]? with
 |some (.o Y)=>match Y[Y.length-1]? with
  |some d=>.ok (d,ρ.set i (.o Y.dropLast))
  |none=>.bad
 |_=>.bad
def QY (i:Nat)(r:X.N[i]?=some x:=by rfl)(s:vT X.env.scope x:=by first|exact aCn rfl|exact aBA (aCn rfl)|exact aBA (aBA rfl))(t:(x==ll)=false:=by decide)(u:(x==lp)=false:=by decide)(w:fh (.Name x p) "pop" X.env (d3 (.Name x p) X.env)=d3 (.Name x p) X.env:=by rfl)(y:(b.endLine==j.line)=true:=by rfl)(A:ff (.Call (.Attribute (.Name x p) "pop" b) [] [] j) none f.line X.env=pure false:=by rfl):
  mZ X (.Expr (.Call (.Attribute (.Name x p) "pop" b) [] [] j) f) (λρ=>(AY i ρ).bind λz=>.ok (.nx z.2)):=λU O0=>
 AE (mN (JT PySem.F.plainAttrs_list PySem.F.slot_list_pop PySem.F.type_list_pop PQ (G6 r s t u) w y) A) λD σ H O ρ E B q=>by
 unfold AY at q;cases e:ρ[i]? with
 |none=>rw[e]at q;exact aAh q
 |some I=>
  rw[e]at q;cases I with
  |x C=>exact aAh q
  |c m φ=>exact aAh q
  |d J=>exact aAh q
  |no=>exact aAh q
  |v d=>exact aAh q
  |o Y=>
   dsimp only at q;cases g:Y[Y.length-1]? with
   |none=>rw[g]at q;exact aAh q
   |some d=>rw[g]at q;obtain⟨a,k,l,h2,h3,n,h⟩:=E.own i Y e;obtain⟨v,L,g2⟩:=h.get g;refine⟨_,l,.inl ⟨rfl,k,N2.of n⟩,a,k,v,rfl,rfl,n,by rw[h.length];exact L,?_⟩;obtain⟨Q,T⟩:=E.write e l h.dropLast;exact q σ _ O Q B T
def AW (j i:Nat)(f:X.N.Nodup)(jt:i≠j:=by decide)(A:X.N[i]?=some x:=by rfl)(B:X.N[j]?=some y:=by rfl)(I:vT X.env.scope x:=by first|exact aCn rfl|exact aBA (aCn rfl)|exact aBA (aBA rfl))(L:(x==ll)=false:=by decide)(Q:(x==lp)=false:=by decide)(T:fh (.Name x p) "pop" X.env (d3 (.Name x p) X.env)=d3 (.Name x p) X.env:=by rfl)(U:(b.endLine==n.line)=true:=by rfl)(g:Loc X.env.scope y:=by first|exact aCn rfl|exact aBA rfl)(xa:ff (.Call (.Attribute (.Name x p) "pop" b) [] [] n) (some (.Name y py)) h.line X.env=pure false:=by rfl)(hf:X.fn y=true\/X.env.scope.names.lookup y=some .local:=by first|exact .inl rfl|exact .inr rfl|assumption):
  mZ X (.Assign [.Name y py] (.Call (.Attribute (.Name x p) "pop" b) [] [] n) h) (λρ=>(AY i ρ).bind λz=>.ok (.nx (z.2.set j (.v z.1)))):=λH9 O0=>
 AE (KC f B g (JT PySem.F.plainAttrs_list PySem.F.slot_list_pop PySem.F.type_list_pop PQ (G6 A I L Q) T U) xa hf) λD σ H O ρ E r q=>by
 unfold AY at q;cases e:ρ[i]? with
 |none=>rw[e]at q;exact aAh q
 |some sl=>
  rw[e]at q;cases sl with
  |x C=>exact aAh q
  |c m φ=>exact aAh q
  |d J=>exact aAh q
  |no=>exact aAh q
  |v d=>exact aAh q
  |o Y=>
   dsimp only at q;cases k:Y[Y.length-1]? with
   |none=>rw[k]at q;exact aAh q
   |some d=>rw[k]at q;obtain⟨a,s,t,h2,h3,u,l⟩:=E.own i Y e;obtain⟨v,g1,g2⟩:=l.get k;refine⟨_,t,.inl ⟨rfl,s,N2.of u⟩,a,s,v,rfl,rfl,u,by rw[l.length];exact g1,?_⟩;obtain⟨E2,w⟩:=E.write e t l.dropLast;exact q _ _ O (E2.set j<|w.rep E.trk r g2) r w
def YR (i:Nat)(ρ:Ev)(k d:D):R Out:=match ρ[i]?,k with
 |some (.o Y),.int k=>match BU Y.length k with
  |some j=>.ok (.nx (ρ.set i<|.o (Y.set j d)))
  |none=>.bad
 |_,_=>.bad
def IA (i:Nat)(T:PD X e f)(U:PD X k g)(hN:X.N[i]?=some x:=by rfl)(hv:vT X.env.scope x:=by first|exact aCn rfl|exact aBA (aCn rfl)|exact aBA (aBA rfl))(hd:(x==ll)=false:=by decide)(cg:(x==lp)=false:=by decide)(ha:∀v,i5 (.Subscript (.Name x p) k ps) X.env v=(do
   let h<-gv [v] (d3 (.Name x p) X.env)
   let t<-gv [v,h] (d3 k X.env)
   standAt ps
   gv [v,h,t] (setItem h t v)
   release [v,h,t] []):=by intro _;rfl) (hs:hH [.Subscript (.Name x p) k ps] e u.line X.env=pure false:=by rfl) (hw:hV [.Subscript (.Name x p) k ps] e X.env=pure none:=by rfl) (l:(et [.Subscript (.Name x p) k ps] X.env).map (·.2)=[i5 (.Subscript (.Name x p) k ps) X.env]:=by rfl):
  mZ X (.Assign [.Subscript (.Name x p) k ps] e u) (λρ=>(f ρ).bind λd=>(g ρ).bind λw=>YR i ρ w d):=λB I=>
 AE (CL T (OR (G6 hN hv hd cg) U OL ha) hs hw l) λD σ H O ρ E fk q=>⟨B,I,O,ρ,E,by
  cases y:f ρ with
  |ok d=>
   rw[y,R.aa0]at q;intro v H1 L r1;have z:=E.grow L;cases n:g ρ with
   |ok w=>
    rw[n,R.aa0]at q;unfold YR at q;cases r:ρ[i]? with
    |none=>rw[r]at q;exact aAh q
    |some sl=>
     rw[r]at q;cases sl with
     |x C=>exact aAh q
     |c m φ=>exact aAh q
     |d J=>exact aAh q
     |no=>exact aAh q
     |v d=>exact aAh q
     |o Y=>
      obtain⟨a,vs,l,h2,h3,h4,Q⟩:=z.own i Y r;refine⟨_,l,B,I,O,ρ,z,?_⟩;rw[n];intro kv H2 b r2;have E2:=z.grow b;cases w with
      |int kk=>
       dsimp only at q;cases A:BU Y.length kk with
       |none=>rw[A]at q;exact aAh q
       |some j=>rw[A]at q;cases r2;refine⟨a,vs,kk,j,rfl,rfl,b _ _ h4,by rw[Q.length];exact A,?_⟩;obtain⟨E3,k3⟩:=E2.write r l ((Q.same b).set (r1.same b) j);exact q σ _ O E3 fk (((Kp.of L).trans (Kp.of b)).trans k3)
      |_=>exact aAh q
   |ex x=>rw[n]at q;exact(q H E.same).elim
   |bad=>rw[n]at q;exact aAh q
  |ex x=>rw[y]at q;exactλH' s=>q H' (E.same.trans s)
  |bad=>rw[y]at q;exact q⟩
def rX (i:Nat)(own fr:List Str)(L:List Nat)(hN:X.N.Nodup)(hc:X.calm=true)(S:CompSc X f own fr L)(hi:VE X tg y8 fi)(hX:∀(g:N3) (fp:List cp) (X':Cx),(∃s9 Ha C,X'=GE X g s9 Ha (own++fr) f (bY X f C) C fp)->JR X' tg G/\SK X' k ft/\PD X' l fe)(hG:∀ρ d ρ1,G d (f9 own L ρ)=.ok ρ1->oA ρ1 (f9 own L ρ))(hy:X.N[i]?=some y:=by rfl)(U:X.env.scope.names.lookup y=some .local:=by rfl)(xa:ff (.ListComp l [⟨tg,y8,k,0⟩] f Y) (some (.Name y py)) spos.line X.env=pure true:=by rfl)(hs:∀x,fg y8 X.env x=pure x:=by intro _;rfl):
  mZ X (.Assign [.Name y py] (.ListComp l [⟨tg,y8,k,0⟩] f Y) spos) (λρ=>((fi ρ).bind λds=>if ds.length<=sizeLine then(u5 G ft fe (f9 own L ρ) ds).bind λh=>R.ok h else .bad).bind λh=>.ok (.nx (ρ.set i (.o h)))):=by
 rintro H9 O0 g s σ H D I ⟨O,ρ,E,fk,q⟩;dsimp only at q;rw[exec_Assign_Name_used _ _ _ _ xa];refine aAa (aEy<|aAa ?_);show a9 _ X.A (do let _<-comprehension (.ListComp l [⟨tg,y8,k,0⟩] f Y) f X.env _ (newList []) false (d3 y8 X.env) (some<|i5 (.Name y py) X.env)) _ _ s;refine aAa (aCt (wpAny_comprehension_free (use:=some (i5 (.Name y py) X.env)) (Q:=λ_ t=>SP X g D .next t) rfl hs (eM<|Inv.ab5 I S) S.kind S.names ?_) (λ_ t hq=>aAb (aAb hq)) λ_ _ e=>e);refine D4 (hi g s σ H (λJ H1=>∃ds h,Same H H1/\YL X.K J H1 O ds/\ds.length<=sizeLine/\u5 G ft fe (f9 own L ρ) ds=.ok h/\RS X H9 O0 H O (.ok (.nx (ρ.set i<|.o h))) D) I ⟨H9,O0,O,ρ,E,uB I O E.trk,?_⟩) λv s1 h1=>D4 h1 λitv s2 h2=>?_
 .cases e1:fi ρ with
  |ex x=>rw[e1]at q;exactλH' s=>q H' (E.same.trans s)
  |bad=>rw[e1]at q;exact q
  |ok ds=>
   rw[e1,R.aa0]at q;intro J H1 s1 hJ;split at q
   .rename_i hl;cases e2:u5 G ft fe (f9 own L ρ) ds with
    |ex x=>rw[e2]at q;exact(q H E.same).elim
    |bad=>rw[e2]at q;exact q.elim
    |ok h=>rw[e2]at q;exact⟨ds,h,s1,hJ,hl,e2,q⟩
   .exact q.elim
 .obtain⟨it,fp,tn,J,H2,e,I2,T,ke,f2,ds,h,sm,hJ,hl,hrs,q⟩:=h2;subst e;refine zM (RR:=λB C=>compPost (cq X.prog X.w) X.A X.xe (some<|i5 (.Name y py) X.env) (λ_ t=>SP X g D .next t) B C) hc S (hX g fp) (hG ρ) I2 T ke f2 (E.grow sm) hJ.c hrs hl ?_;intro B C t H' m hn hCa j has sm' r nw hC hI;have I3:=hI t.heap (aGH ..);show a9 _ X.A (i5 (.Name y py) X.env<|.ref B) _ _ t;refine wpAny_assign_Name (rZ (i:=i) (v:=.ref B) I3 hN hy (.inl U) rfl (λs4 I4 z9=>?_)<|.inr U);obtain⟨a,hsb,ha⟩:=z9;have ja:∀x c,X.env.cells.lookup x=some c->c≠C:=λx c hc=>by obtain⟨v,hv⟩:=I2.cell x c hc;exact aAl (aAw hv.lt j)
  have hCL:C≠X.env.locals:=aDc (aAw I2.lt j);have hCa2:C≠a:=by
   rcases ha with ha|ha
   .rw[ha];exact hCL
   .exact aBV (ja y a ha)
  refine⟨m,hn.sameBut hsb hCa2,λh' iu=>?_⟩;obtain⟨H1,vs,zi,u,eH,rr⟩:=nw;subst eH;have E2:=((E.grow sm).grow zi).ad7 i u (LV I3<|j3 (H:=H1) (a:=B) (o:=.lst vs)) rr;refine⟨_,_,?_,q _ _ _ E2 (uB I3 _ E2.trk) λb o hb n=>⟨by rw[l4 (q9 ((sm.trans zi) b o hb) u)];exact(sm.trans zi) b o hb,λz=>z.elim n (q9 ((sm.trans zi) b o hb) u)⟩⟩;exact I4.turned (t':=s4.toks) (it:=C) (λb o hb e=>(iu.2 b hb).trans e) hC hCL (.inr (aAp I2.sz j)) ja λp hp=>aAl (aAw (aAf (I2.pin p hp).1) j)
def oH (i:Nat)(own s:List Str)(g:List Nat)(hN:X.N.Nodup)(hc:X.calm=true)(S:CompSc X f own s g)(t:VE X u y8 Q)(hX:∀(h:N3) (fp:List cp) (p:Cx),(∃s9 Ha C,p=GE X h s9 Ha (own++s) f (bY X f C) C fp)->JR p u G/\SK p j ft/\PD p l fe)(hG:∀ρ d ρ1,G d (f9 own g ρ)=.ok ρ1->oA ρ1 (f9 own g ρ))(hy:X.N[i]?=some y:=by rfl)(w:X.env.scope.names.lookup y=some .local:=by rfl)(xa:ff (.ListComp l [⟨u,y8,j,0⟩] f A) (some (.Name y py)) m.line X.env=pure true:=by rfl)(hs:∀x,fg y8 X.env x=pure x:=by intro _;rfl):
  mZ X (.Assign [.Name y py] (.ListComp l [⟨u,y8,j,0⟩] f A) m) (λρ=>((Q ρ).bind λds=>if ds.length<=sizeLine then(u5 G ft fe (f9 own g ρ) ds).bind λr=>.ok (D.lst r)else .bad).bind λd=>.ok (.nx (ρ.set i (.v d)))):=λT U=>AE (rX i own s g hN hc S t hX hG hy w xa hs T U) λD σ H O ρ E fk q=>⟨O,ρ,E,fk,by
 dsimp only at q⊢;cases B:Q ρ with
 |ex x=>rw[B]at q;exact q
 |bad=>rw[B]at q;exact q
 |ok ds=>
  rw[B,R.aa0]at q;rw[R.aa0];by_cases hl:ds.length<=sizeLine
  .rw[kn hl]at q⊢;cases I:u5 G ft fe (f9 own g ρ) ds with
   |ex x=>rw[I]at q;exact q
   |bad=>rw[I]at q;exact q
   |ok r=>
    rw[I]at q;intro ah H' O' J f' L;by_cases t:i<ρ.length
    .obtain⟨O2,E2,sub⟩:=J.disown (i:=i) (Y:=r) (by rw[aBI t]);rw[List.set_set]at E2;exact q ah H' O2 E2 (λa o k z=>f' a o k (sub a z)) λb o hb n=>⟨(L b o hb n).1,λz=>(L b o hb n).2 (sub b z)⟩
    .have e:∀x,ρ.set i x=ρ:=λx=>List.set_eq_of_length_le (by lia);have q:RS X T U H O (.ok (.nx (ρ.set i<|.v (.lst r)))) D:=q;rw[e]at J q;exact q ah H' O' J f' L
  .rw[ku hl]at q;exact aAh q⟩
def iP {st:dC}:mZ X st (λ_=>.bad):=λa b=>AE OF λD σ H O ρ E d q=>q
end
end
section
theorem aT {α β:Type}[BEq α][LawfulBEq α]:∀{l:List (α×β)} {a:α} {b:β},(l.map (·.1)).Nodup->(a,b)∈l->l.lookup a=some b
 |(x,y)::l,a,b,h,f=>by
  rw[aAv,aAG]at h;rw[aBj];rcases aAd.mp f with e|d
  .cases e;simp
  .have:(a==x)=false:=by rw[beq_eq_false_iff_ne];rintro rfl;exact h.1 (aAk.mpr ⟨(a,b),d,rfl⟩)
   rw[this];exact aT h.2 d
theorem mem_lookup {α β:Type}[BEq α][LawfulBEq α]:∀{l:List (α×β)} {a:α} {b:β},l.lookup a=some b->(a,b)∈l
 |(x,y)::l,a,b,h=>by
  rw[aBj]at h;split at h
  .rename_i q;cases h;rw[eq_of_beq q];exact .head _
  .exact .tail _ (mem_lookup h)
def uH (o:Obj):Prop:=∃v,o.data=.cell v
def cM (H:Hp)(cs:N3):Hp:=λb=>match cs.lookup b with
 |some o=>some (.frz o (.own b))
 |none=>H b
def Q1 (H:Hp)(cs:N3):Hp:=λb=>match cs.lookup b with
 |some _=>none
 |none=>H b
section
variable{K:lb}
def dG (e:cs.lookup b=some o):cM H cs b=some (.frz o (.own b)):=by unfold cM;rw[e]
def Q8 (e:cs.lookup b=none):cM H cs b=H b:=by unfold cM;rw[e]
def aO (e:cs.lookup b=some o):Q1 H cs b=none:=by unfold Q1;rw[e]
def N0 (e:cs.lookup b=none):Q1 H cs b=H b:=by unfold Q1;rw[e]
def D5 (a:∀b o,cs.lookup b=some o->H b=none)(e:H b=some u):cM H cs b=some u:=by
 cases q:cs.lookup b with
 |none=>rw[Q8 q];exact e
 |some o=>rw[a b o q]at e;cases e
def dI (a:∀b o,cs.lookup b=some o->H b=none):Same H (cM H cs):=λb u e=>D5 a e
def v8 (a:∀b o,cs.lookup b=some o->H b=some (.frz o (.own b)))(e:H b=some u)(ne:∀o,cs.lookup b=some o->u≠.frz o (.own b)):Q1 H cs b=some u:=by
 cases q:cs.lookup b with
 |none=>rw[N0 q];exact e
 |some o=>rw[a b o q]at e;cases e;exact absurd rfl (ne o q)
def KP (x:fA P w H h)(a:∀b o,cs.lookup b=some o->h.get? b=some o/\H b=none):fA P w (cM H cs) h:=λb u e=>by
 have d:∀b o,cs.lookup b=some o->H b=none:=λb o q=>(a b o q).2;cases q:cs.lookup b with
 |some o=>rw[dG q]at e;cases e;exact⟨(a b o q).1,⟨o,(a b o q).1⟩⟩
 |none=>rw[Q8 q]at e;exact(x b u e).ab8 (λ_ _ _ z=>z) (λc z=>D5 d z) λc u _ z=>D5 d z
def OK (x:fA P w H h)(d:∀b o,cs.lookup b=some o->H b=some (.frz o (.own b))/\uH o):fA P w (Q1 H cs) h:=λb u e=>by
 have g:∀b o,cs.lookup b=some o->H b=some (.frz o (.own b)):=λb o q=>(d b o q).1;cases q:cs.lookup b with
 |some o=>rw[aO q]at e;cases e
 |none=>rw[N0 q]at e;refine(x b u e).ab8 (λ_ _ _ z=>z) (λc z=>v8 g z λo _ a=>by cases a) λc u f z=>v8 g z λo q a=>?_;subst a;obtain⟨k,j⟩:=f;obtain⟨v,i⟩:=(d c o q).2;rw[j]at i;cases i
def XO (U:Un fs [] (cM H cs) g h h')(k:fA P w g h')(i:∀b o,cs.lookup b=some o->h.get? b=some o/\H b=none/\uH o):Un fs [] H (Q1 g cs) h h'/\fA P w (Q1 g cs) h'/\∀b o,cs.lookup b=some o->g b=some (.frz o (.own b)):=by
 have j:∀b o,cs.lookup b=some o->H b=none:=λb o q=>(i b o q).2.1;have a:∀b o,cs.lookup b=some o->g b=some (.frz o (.own b)):=λb o q=>U.frzs b o _ (dG q);refine⟨⟨λb o e n l d=>?_,λb o e n l d=>?_,λb o e n d=>?_,λb o e d=>U.there b o e d,λb Y e=>?_,λb o u e=>?_,λb m e=>?_⟩,OK k λb o q=>⟨a b o q,(i b o q).2.2⟩,a⟩
 .cases q:cs.lookup b with
  |none=>exact U.keep b o e (by rw[Q8 q];exact n) l d
  |some f=>have:=(i b f q).1;rw[e]at this;cases this;exact(k b _<|a b o q).1
 .cases q:cs.lookup b with
  |none=>exact U.slot b o e (by rw[Q8 q];exact n) l d
  |some f=>have:=(i b f q).1;rw[e]at this;cases this;exact⟨o.slots,(k b _<|a b o q).1⟩
 .cases q:cs.lookup b with
  |none=>rw[N0 q];exact U.free b o e (by rw[Q8 q];exact n) d
  |some f=>exact aO q
 .exact v8 a (U.tups b Y<|D5 j e) λo _ z=>by cases z
 .refine v8 a (U.frzs b o u<|D5 j e) λf q z=>?_;rw[j b f q]at e;cases e
 .exact v8 a (U.tbls b m<|D5 j e) λo _ z=>by cases z
def ZQ (U:Un fs [] (Q1 H cs) f h h')(k:fA P w f h')(i:∀b o,cs.lookup b=some o->h.get? b=some o/\H b=some (.frz o (.own b))/\b∉fs):Un fs [] H (cM f cs) h h'/\fA P w (cM f cs) h'/\Same f (cM f cs):=by
 have j:∀b o,cs.lookup b=some o->H b=some (.frz o (.own b)):=λb o q=>(i b o q).2.1;have g:∀b o,cs.lookup b=some o->f b=none:=λb o q=>U.free b o (i b o q).1 (aO q) (by simp);have m:∀b o,cs.lookup b=some o->h'.get? b=some o:=λb o q=>U.keep b o (i b o q).1 (aO q) (i b o q).2.2 (by simp);have a:∀b,H b=none->cs.lookup b=none:=λb n=>by
  cases q:cs.lookup b with
  |none=>rfl
  |some o=>rw[j b o q]at n;cases n
 refine⟨⟨λb o e n l d=>U.keep b o e (by rw[N0 (a b n)];exact n) l d,λb o e n l d=>U.slot b o e (by rw[N0 (a b n)];exact n) l d,λb o e n d=>?_,λb o e d=>U.there b o e d,λb Y e=>?_,λb o u e=>?_,λb p e=>?_⟩,
  KP k λb o q=>⟨m b o q,g b o q⟩,dI g⟩
 .rw[Q8 (a b n)];exact U.free b o e (by rw[N0 (a b n)];exact n) d
 .exact D5 g (U.tups b Y (v8 j e λo _ z=>by cases z))
 .cases q:cs.lookup b with
  |none=>exact D5 g (U.frzs b o u (by rw[N0 q];exact e))
  |some r=>rw[j b r q]at e;cases e;exact dG q
 .exact D5 g (U.tbls b p (v8 j e λo _ z=>by cases z))
def GA (d:∀b o,cs.lookup b=some o->H b=some (.frz o (.own b)))(q:T8 K H a Y):T8 K (Q1 H cs) a Y:=by
 rcases q with(q|⟨o,q⟩)|q
 .exact .inl (.inl (v8 d q λo _ z=>by cases z))
 .exact .inl (.inr ⟨o,v8 d q λo _ z=>by cases z⟩)
 .exact .inr q
def GH (d:∀b o,cs.lookup b=some o->H b=some (.frz o (.own b)))(q:N2 K H a Y):N2 K (Q1 H cs) a Y:=by
 rcases q with(q|⟨o,q⟩)|q
 .exact .inl (.inl (v8 d q λo _ z=>by cases z))
 .exact .inl (.inr ⟨o,v8 d q λo _ z=>by cases z⟩)
 .exact .inr q
def GI {cs:N3}{φ:de->Prop}(a:∀b o,cs.lookup b=some o->H b=some (.frz o (.own b)))(q:H b=some (.ext φ)):Q1 H cs b=some (.ext φ):=by
 unfold Q1;cases e:cs.lookup b with
 |none=>simpa[e]using q
 |some o=>have:=a b o e;rw[q]at this;cases this
def Rep.hid (a:∀b o,cs.lookup b=some o->H b=some (.frz o (.own b)))(r:Rep K H O v d):Rep K (Q1 H cs) O v d:=r.mono (λ_ _ q=>GA a q) (λ_ _ n q=>⟨n,GH a q⟩) λb φ n q=>⟨n,GI a q⟩
def Reps.hid (a:∀b o,cs.lookup b=some o->H b=some (.frz o (.own b)))(r:Reps K H O v d):Reps K (Q1 H cs) O v d:=r.mono (λ_ _ q=>GA a q) (λ_ _ n q=>⟨n,GH a q⟩) λb φ n q=>⟨n,GI a q⟩
end
variable [Tabs]
section
variable(P:cu) (w:cz) (K:lb) (mg:cE) (base:de) (k:Nat)
def JO (n:Nat)(m:List D->R D)(H:Hp)(O:cp->Prop)(a:cp):Prop:=
 (∃i j l p,H a=some (.frz ⟨i,j,.func l,p⟩ (.own a)))/\
 ∀(A:cy) (b:List Env) (s:be) (g:List ae) (h:List V) (e:List D) (d:D) (Q:VK) (E:XK),Room k A->Env0 P w K mg base A b s H->l9 h g->Reps K H O h e->e.length=n->(∀a,O a->∃o,H a=some o/\Mt o)->Tb H->Z2 K O->m e=.ok d->
  (∀v f,Same H f->Rep K f O v d->Q v f)->gy (cq P w) A (.call (.ref a) ⟨g,[]⟩) (CR wG b P w H s Q E) s
end
open Classical in
def callC (Φ:(List D->R D)->Hp->(cp->Prop)->cp->Prop) (i:Nat) (f:Ev->R (List D)):Ev->R D:=λρ=>match ρ[i]? with
 |some (.c m φ)=>if φ=Φ m then(f ρ).bind m else .bad
 |_=>.bad
section
def LZ (i:Nat)(ha:JP X (e::es) f)(hl:IN f n)(hr:Room k X.A)(hN:X.N[i]?=some x:=by rfl)(hv:vT X.env.scope x:=by first|exact aCn rfl|exact aBA (aCn rfl)|exact aBA (aBA rfl))(hd:(x==ll)=false:=by decide)(cg:(x==lp)=false:=by decide)(he:bb (e::es) X.env=(false,d3 e X.env)::bb es X.env:=by rfl)(bc:(dn h (bb es X.env)).any (·.1)=false:=by rfl):
  PD X (.Call (.Name x p) (e::es) [] h) (callC (JO X.prog X.w X.K X.mg X.base k n) i f):=by
 refine wA λb s σ H Q I H9 O0 O ρ E q=>?_;unfold callC at q;cases y:ρ[i]? with
 |none=>rw[y]at q;exact q.elim
 |some l=>
  rw[y]at q;cases l with
  |c m φ=>
   dsimp only at q;split at q
   .rename_i B;subst B;obtain⟨a,h1,T⟩:=E.slot i _ y;obtain⟨⟨U,Y,fd,l,hf⟩,_⟩:=T H O (Kp.refl _ _);refine aAW (D4 (G6 hN hv hd cg b s σ H (λv H'=>v=.ref a/\H'=H) I ⟨_,h1,rfl,rfl⟩) λu s1 z9=>?_);obtain⟨v,H1,I1,r1,ev,eH⟩:=z9;subst ev eH;obtain rfl:u=aDC a:=r1;refine PySem.W.callWith_F ⟨U,Y,fd,l,(I1.hok a _ hf).1⟩ (D4 (ha h b s1 σ H1 _ I1 ⟨H9,O0,O,ρ,E,EA.seq q⟩) λus s2 ⟨vs,H2,o,rv,C,e2,J,rr,g⟩=>⟨⟨U,Y,fd,l,(o.hok a _<|J _ _ hf).1⟩,?_⟩) he bc;cases t:m C with
    |ex z=>rw[t]at g;exact(g H2<|Same.refl _).elim
    |bad=>rw[t]at g;exact g.elim
    |ok d=>
     rw[t]at g;have L:=E.grow J;refine wpAny_call (aDS ((T H2 O<|Kp.of J).2 X.A X.stack s2 us vs C d Q (λ_ _ _=>False) hr o.af2 rv rr (hl ρ C e2) L.trk L.tab (uB o O L.trk) t g) λr s' j=>?_);cases r with
     |error e=>exact j.elim
     |ok fl=>
      cases fl with
      |ret u=>exact o.after j
      |next=>exact aAh j
      |brk=>exact aAh j
      |cont=>exact aAh j
   .exact q.elim
  |_=>exact q.elim
end
def spF (K:lb)(Φ:(List D->R D)->Hp->(cp->Prop)->cp->Prop)(M:D->(List D->R D)->(List D->R D)->R D):Sp:=λl H Q _=>∃O v1 g h i j k d,l=[v1,.ref h,.ref j]/\Rep K H O v1 g/\(∀b e,Kp H O b e->Φ i b e h)/\(∀b e,Kp H O b e->Φ k b e j)/\
 (∀a,O a->∃o,H a=some o/\Mt o)/\Tb H/\Z2 K O/\M g i k=.ok d/\∀v f,Same H f->Rep K f O v d->Q v f
def kE (N:List Str)(Φ:(List D->R D)->Hp->(cp->Prop)->cp->Prop)(d:D)(a b:List D->R D):Ev:=.v d::.c a (Φ a)::.c b (Φ b)::aCS (N.length-3) Sl.no
def CO {K:lb}{H:Hp}{O:cp->Prop}{N:List Str}{v1:V}{f:D}{a1 a2:cp}{g k:List D->R D}{Φ:(List D->R D)->Hp->(cp->Prop)->cp->Prop}(r:Rep K H O v1 f)(l:∀d e,Kp H O d e->Φ g d e a1)(m:∀d e,Kp H O d e->Φ k d e a2)
  (t:∀a,O a->∃o,H a=some o/\Mt o) (tb:Tb H):EnvOk K H O H O (start N [v1,.ref a1,.ref a2]) (kE N Φ f g k)where
 len:=by simp[L2.start,kE]
 same:=Same.refl H
 sub:=λ_ h=>h
 trk:=t
 trk0:=λa h=>let⟨o,q,_⟩:=t a h;⟨o,q⟩
 tab:=tb
 slot:=λi n h=>by
  match i with
  |0=>cases h;exact⟨v1,rfl,r⟩
  |1=>cases h;exact⟨a1,rfl,l⟩
  |2=>cases h;exact⟨a2,rfl,m⟩
  |i+3=>
   have b:(aCS (N.length-3) Sl.no)[i]?=some n:=h;rw[aBy]at b;split at b
   .cases b;trivial
   .cases b
 inj:=λi j x y a h _ o=>by
  match i with
  |0=>cases h;exact o.elim
  |1=>cases h;exact o.elim
  |2=>cases h;exact o.elim
  |i+3=>
   have b:(aCS (N.length-3) Sl.no)[i]?=some x:=h;rw[aBy]at b;split at b
   .cases b;exact o.elim
   .cases b
section
variable{K:lb}
def fnF {x qual:Str}{st:dC}{f:cp}{fd:ek}{N ps:List Str}{k:Nat}{M:D->(List D->R D)->(List D->R D)->R D}{Φ:(List D->R D)->Hp->(cp->Prop)->cp->Prop}{F:Ev->R Out}(m:Fun K x qual st f fd)(S:FnScope N ps (c9 st))(n:ps.length=3)
  (p:∀(L:ae) (A:cy) (a:List Env) (s:be) (H:Hp) (E:XK),Room k (A.deeper (envOfC qual (c9 st) s.heap.objs.size f L))->aL (TF P w K mg base N qual (c9 st) f L A a s H E) (t5 st) F)
  (t:∀g i j d,M g i j=.ok d->L9 (F (kE N Φ g i j))=.ok d):FnOk P w K mg base wG (k+1) f fd ps (spF K Φ M):=by
 refine m.ok S (λu H Q E z=>by obtain⟨O,v1,g,v,i,y,j,d,e,_⟩:=z;rw[e,n];rfl) (λL A a s H u Q E B z=>?_);obtain⟨O,v1,g,v,i,y,j,d,C,r,I,J,T,U,Y,e,q⟩:=z;subst C;refine⟨_,p L A a s H E B H O,O,_,CO r I J T U,Y,?_⟩;have h:=t g i j d e;cases l:F (kE N Φ g i j)with
 |ok o=>
  rw[l]at h;cases o with
  |rt d'=>have b:R.ok d'=R.ok d:=h;injection b with b;subst b;exact q
  |nx ρ=>have b:R.ok D.non=R.ok d:=h;injection b with b;subst b;exactλah H' O' E' _ _=>q .non H' E'.same .non
  |bk ρ=>cases h
  |ct ρ=>cases h
 |ex x=>rw[l]at h;cases h
 |bad=>rw[l]at h;cases h
end
structure NScope (ps ls fn:List Str)(sc:Scope):Prop where
 kind:sc.kind=.function
 co:sc.isCoroutine=false
 gen:sc.isGenerator=false
 nd:(ps++(ls++fn)).Nodup
 par:∀x∈ps,sc.names.lookup x=some .local
 fre:∀x∈fn,sc.names.lookup x=some .free
 all:∀x,sc.names.lookup x=some .free->x∈fn
 nocell:∀y∈sc.names,y.2≠.cell
abbrev pj (P:cu)(w:cz)(K:lb)(mg:cE)(base:de)(N:List Str)(env:Env)(A:cy)(outer:List Env)(s:be)(H:Hp):Cx where
 prog:=P
 w:=w
 K:=K
 mg:=mg
 base:=base
 A:=A.deeper env
 N:=N
 s9:=s
 H9:=H
 env:=env
 outer:=outer
 stack:=env::outer
 ex:=[]
 calm:=true
 fn:=λ_=>false
 pn:=[]
 xe:=λ_ _=>False
def M3 {α:Type}(vs:List α)(n:Nat)(no:α)(ws:List α):List α:=vs++(aCS n no++ws)
def fN {α:Type}{vs ws:List α}{n i:Nat}{no a:α}(h:(M3 vs n no ws)[i]?=some a):vs[i]?=some a\/a=no\/(vs.length+n<=i/\ws[i-(vs.length+n)]?=some a):=by
 unfold M3 at h;by_cases d:i<vs.length
 .rw[aAZ d]at h;exact .inl h
 .rw[aAB (by lia)]at h;by_cases b:i-vs.length<n
  .rw[aAZ (by simpa using b),aBy,kn b]at h;exact .inr (.inl (Option.some.inj h).symm)
  .rw[aAB (by simpa using b),aCr]at h;exact .inr (.inr ⟨by lia,by rw[show i-(vs.length+n)=i-vs.length-n by lia];exact h⟩)
def KG {α:Type}{vs ws:List α}{n i:Nat}{no a:α}(h:vs[i]?=some a):(M3 vs n no ws)[i]?=some a:=by unfold M3;rw[aAZ (aAy.mp h).1];exact h
def JW {α:Type}{vs ws:List α}{n i:Nat}{no a:α}(h:ws[i]?=some a):(M3 vs n no ws)[vs.length+n+i]?=some a:=by unfold M3;rw[aAB (by lia),aAB (by simp;lia),aCr,show vs.length+n+i-vs.length-n=i by lia];exact h
section
variable{K:lb}
def CN {A:cy}{g:List Env}{s:be}{H:Hp}{L:List ae}{vs wv:List V}{h₁:de}{tk:Nat}(S:NScope ps k fn d)(Q:A.handled=none)(j:Env0 P w K mg base A g s H)(B:vs.length=ps.length)(r:l9 vs L)(N:wv.length=fn.length)
  (O:∀(i:Nat) (x:Str) (v:V),fn[i]?=some x->wv[i]?=some v->∃c u,clos.lookup x=some c/\RelV v u/\s.heap.IsCell c (some u)) (t:∀x c,clos.lookup x=some c->(∃v,s.heap.IsCell c v)/\H c=none)
  (T:∀x y c,clos.lookup x=some c->clos.lookup y=some c->x=y) (U:h₁.Ns s.heap.objs.size (λx=>(ps.zip L).reverse.lookup x)) (C:∀b o,s.heap.get? b=some o->h₁.get? b=some o):
  Inv (pj P w K mg base (ps++(k++fn)) (PySem.W.envX qual d s.heap.objs.size fa cd clos) A g s H) [] (M3 (vs.map some) k.length none (wv.map some)) H {s with heap:=h₁,toks:=tk}:=by
 have l:∀b:cp,b∉(pj P w K mg base (ps++(k++fn)) (PySem.W.envX qual d s.heap.objs.size fa cd clos) A g s H).ex:=λb z=>absurd (show b∈([]:List cp)from z) (by simp);have I:ps.Nodup:=(aCl.mp S.nd).1;refine⟨⟨j.mod,S.kind,rfl,rfl,aAg _,T,λy m=>?_,λy c Y _=>(by cases Y),λ_=>Q,aGf j.frames,.inr ⟨rfl,rfl⟩,λb z=>absurd z (l b),j.bs,j.bsz,λb _ _=>l b,λb z=>absurd z (l b),j.funs,j.frf⟩,
  rfl,j.bare,Un.kept C,⟨_,U,λi y v h1 f h3=>?_⟩,λy c h=>?_,j.hok.fresh (aAg _),λy c h=>(t y c h).2,λp hp=>absurd (show p∈([]:N3)from hp) (by simp),j.hok.kept C,?_⟩
 .have m:d.names.lookup y=some .cell\/d.names.lookup y=some .free:=m;rcases m with m|m
  .exact absurd rfl (S.nocell _<|PySem.mem_of_lookup m)
  .have hm:=S.all y m;obtain⟨i,E,e⟩:=aBw hm;have hw:i<wv.length:=by rw[N];exact E
   obtain⟨c,u,q,_⟩:=O i y wv[i] (by rw[aAj E,e]) (aAj hw);exact⟨c,q⟩
 .have n:(ps++(k++fn))[i]?=some y:=h1;rcases fN f with f|f|⟨h4,f⟩
  .rw[aAF]at f;cases e:vs[i]? with
   |none=>rw[e]at f;cases f
   |some a=>
    rw[e]at f;have J:a=v:=Option.some.inj (Option.some.inj f);subst J;obtain⟨u,hu,rv⟩:=r.get e;have E:i<ps.length:=by rw[<-B];exact(aAy.mp e).1
    rw[aAZ E]at n;refine⟨u,rv,.inl ⟨S.par y (aAr n),?_⟩⟩;refine aT ?_ ?_
    .rw[aFH];refine(List.reverse_perm _).nodup_iff.mpr ?_;rw[List.map_fst_zip (by rw[<-B,r.length];exact aAg _)];exact I
    .rw[aCw];exact aAr (i:=i) (by rw[aBF];exact⟨n,hu⟩)
  .cases f
  .rw[aAi]at h4 f;rw[aAF]at f;cases e:wv[i-(vs.length+k.length)]? with
   |none=>rw[e]at f;cases f
   |some a=>rw[e]at f;have J:a=v:=Option.some.inj (Option.some.inj f);subst J;rw[aAB (by lia),aAB (by lia),<-B,show i-vs.length-k.length=i-(vs.length+k.length)by lia]at n;obtain⟨c,u,q1,q2,q3⟩:=O _ y a n e;exact⟨u,q2,.inr ⟨.inr (S.fre y<|aAr n),c,q1,q3.keeps C⟩⟩
 .obtain⟨⟨v,z⟩,_⟩:=t y c h;exact⟨v,z.keeps C⟩
 .unfold M3;simp[B,N]
def DD {H:Hp}{O:cp->Prop}{vs wv:List V}{ds wd:List D}{n:Nat}(r:Reps K H O vs ds)(k:Reps K H O wv wd)(t:∀a,O a->∃o,H a=some o/\Mt o)(tb:Tb H):
  EnvOk K H O H O (M3 (vs.map some) n none (wv.map some)) (M3 (ds.map Sl.v) n .no (wd.map Sl.v))where
 len:=by unfold M3;simp[r.length,k.length]
 same:=Same.refl H
 sub:=λ_ h=>h
 trk:=t
 trk0:=λa h=>let⟨o,q,_⟩:=t a h;⟨o,q⟩
 tab:=tb
 slot:=λi l h=>by
  rcases fN h with h|h|⟨m,h⟩
  .rw[aAF]at h;cases e:ds[i]? with
   |none=>rw[e]at h;cases h
   |some d=>rw[e]at h;have b:Sl.v d=l:=Option.some.inj h;subst b;obtain⟨v,f,g⟩:=r.get e;exact⟨v,KG (by rw[aAF,f];rfl),g⟩
  .subst h;trivial
  .rw[aAF,aAi]at h;rw[aAi]at m;cases e:wd[i-(ds.length+n)]? with
   |none=>rw[e]at h;cases h
   |some d=>rw[e]at h;have b:Sl.v d=l:=Option.some.inj h;subst b;obtain⟨v,f,g⟩:=k.get e;refine⟨v,?_,g⟩;have:=JW (vs:=vs.map some) (n:=n) (no:=(none:Option V)) (ws:=wv.map some) (i:=i-(ds.length+n)) (a:=some v) (by rw[aAF,f];rfl);rw[aAi,r.length,show ds.length+n+(i-(ds.length+n))=i by lia]at this;exact this
 inj:=λi j x y a h _ o=>by
  rcases fN h with h|h|⟨_,h⟩
  .obtain⟨d,_,rfl⟩:=aAk.mp (aAr h);exact o.elim
  .subst h;exact o.elim
  .obtain⟨d,_,rfl⟩:=aAk.mp (aAr h);exact o.elim
def YT {name:Str}{j:Arguments}{body:List dC}{doc pm ctv:ae}{L:cp}{oc:Obj}{k:Nat}{m:List D->R D}{F:Ev->R Out}{H:Hp}{O:cp->Prop}{cs:N3}{wv:List V}{wd:List D}(S:NScope ps ls fn g)
  (hb:∀(A:cy) (f:List Env) (s:be) (H:Hp),Room k (A.deeper (PySem.W.envX qual g s.heap.objs.size fa (.ref L) clos))->aL (pj P w K mg base (ps++(ls++fn)) (PySem.W.envX qual g s.heap.objs.size fa (.ref L) clos) A f s H) body F)
  (hm:∀ds d,ds.length=ps.length->m ds=.ok d->L9 (F (M3 (ds.map Sl.v) ls.length .no (wd.map Sl.v)))=.ok d)
  (xb:∀(s:be) (T:List ae),T.length=ps.length->BindsTo s (PySem.W.fnX name qual j body g clos .none .none doc pm none (.ref L) ctv) ⟨T,[]⟩ (ps.zip T))
  (hfa:H fa=some (.frz (PySem.W.fnMade name qual j body g clos doc pm L ctv) (.own fa))) (hc:H L=some (.frz oc (.own L))) (bo:∃vs t,oc.data=.fields vs/\vs[1]?=some (.str qual t))
  (wm:∀b o,cs.lookup b=some o->H b=some (.frz o (.own b))/\uH o) (ye:∀(i:Nat) (x:Str) (v:V),fn[i]?=some x->wv[i]?=some v->∃c u o,clos.lookup x=some c/\cs.lookup c=some o/\o.data=.cell (some u)/\RelV v u)
  (hcc:∀x c,clos.lookup x=some c->∃o,cs.lookup c=some o) (ko:∀x y c,clos.lookup x=some c->clos.lookup y=some c->x=y) (qi:wv.length=fn.length) (hr:Reps K H O wv wd) (hO:∀a,O a->∃o,H a=some o/\Mt o):
  ∀l U,Kp H O l U->JO P w K mg base (k+1) ps.length m l U fa:=by
 intro l U kp;have fz:∀b o u,H b=some (.frz o u)->l b=some (.frz o u):=λb o u e=>(kp b _ e λz=>by obtain⟨o',q,mt⟩:=hO b z;rw[e]at q;cases q;exact mt).1;have N:∀b o,cs.lookup b=some o->l b=some (.frz o (.own b)):=λb o q=>fz _ _ _ (wm b o q).1;refine⟨⟨_,_,_,_,fz _ _ _ hfa⟩,λA f s T vs ds d Q E qc B rv rr hl ht tb fk em q=>?_⟩;have KX:K.In s.heap:=B.mod.kin.keeps λb o e=>(B.bs b o e).1;have lim:s.heap.NoLimit:=B.mod.nolimit.keeps λb o e=>(B.bs b o e).1;have gfa:=(B.hok fa _<|fz _ _ _ hfa).1;have goc:=(B.hok L _<|fz _ _ _ hc).1;obtain⟨ovs,ot,od1,od2⟩:=bo;have Y:∀b,l b=none->Q1 l cs b=none:=λb n=>by
  cases z:cs.lookup b with
  |none=>rw[N0 z];exact n
  |some o=>exact aO z
 have e1:Env0 P w K mg base A f s (Q1 l cs):=⟨B.frames,B.mod,λb o e=>⟨(B.bs b o e).1,Y b (B.bs b o e).2⟩,B.bsz,B.funs,λb hb=>Y b (B.frf b hb),OK B.hok λb o z=>⟨N b o z,(wm b o z).2⟩,B.bare⟩;have zo:∀b o,cs.lookup b=some o->s.heap.get? b=some o:=λb o z=>(B.hok b _<|N b o z).1;have cfs:∀b o,cs.lookup b=some o->b∉zG f:=λb o z hb=>by have:=B.frf b hb;rw[N b o z]at this;cases this
 have hul:T.length=ps.length:=by rw[<-rv.length,rr.length];exact hl
 have hvl:vs.length=ps.length:=by rw[rr.length];exact hl
 have rwv:Reps K (Q1 l cs) U wv wd:=(kp.ac1 hO fk hr).hid N;have tb1:Tb (Q1 l cs):=λp hp=>v8 N (tb p hp) λo _ z=>by cases z
 have ht1:∀a,U a->∃o,Q1 l cs a=some o/\Mt o:=λa z=>by obtain⟨o,q1,q2⟩:=ht a z;exact⟨o,v8 N q1 λo' _ z'=>by subst z';exact q2,q2⟩
 let Q':VK:=λv H3=>(∀b o,cs.lookup b=some o->H3 b=none)->Q v (cM H3 cs)
 have qq:∀v C,Same (Q1 l cs) C->Rep K C U v d->Q' v C:=λv C sm r hn=>by
  refine q v _ (λb u e=>?_) (r.same<|dI hn);cases z:cs.lookup b with
  |none=>exact D5 hn (sm b u (by rw[N0 z];exact e))
  |some o=>rw[N b o z]at e;cases e;exact dG z
 have fin:∀{u:ae} {s':be},CE f P w (Q1 l cs) s Q' u s'->CE f P w l s Q u s':=λ{u s'} ⟨v,H3,os,bare,un,hok,r,qv⟩=>by obtain⟨U2,k2,yd⟩:=ZQ un hok λb o z=>⟨zo b o z,N b o z,cfs b o z⟩;exact⟨v,_,os,bare,U2,k2,r,qv λb o z=>un.free b o (zo b o z) (aO z) (by simp)⟩
 refine codeAny_call_def (fd:=PySem.W.fnX name qual j body g clos .none .none doc pm none (.ref L) ctv) (body:=body) (binds:=ps.zip T) qc.depth gfa rfl lim ⟨L,oc,ovs,ot,rfl,goc,od1,od2⟩ rfl (xb s T hul) S.nocell (λy hy=>S.par y.1 (aDW hy).1) (λh₁ zf hk=>?_) S.co S.gen S.kind;show a9 (cq P w) (A.deeper<|PySem.W.envX qual g s.heap.objs.size fa (.ref L) clos) (execs body<|PySem.W.envX qual g s.heap.objs.size fa (.ref L) clos) _ _ _;have I:=CN (qual:=qual) (fa:=fa) (cd:=.ref L) (clos:=clos) (tk:=s.toks+(ps.zip T).length) S qc.hd e1 hvl rv qi (λi x v h1 h2=>by
   obtain⟨c,u,o,q1,q2,q3,q4⟩:=ye i x v h1 h2;exact⟨c,u,q1,q4,o,zo c o q2,q3⟩) (λx c h=>by
   obtain⟨o,z⟩:=hcc x c h;obtain⟨v,z2⟩:=(wm c o z).2;exact⟨⟨v,o,zo c o z,z2⟩,aO z⟩) ko zf hk
 have hx:=hb A f s (Q1 l cs) (qc.deeper _) (Q1 l cs) U [] _ _ _ {nx:=λ_ C=>Q' .non C,rt:=Q'} I ⟨U,_,DD (rr.hid N) rwv ht1 tb1,fk,?_⟩
 .refine aCt hx (λfl s' hs=>?_) λe s' hs=>hs.elim;have fin2:∀{ah:St} {C:Hp} {v:V} {u:ae},Inv (pj P w K mg base (ps++(ls++fn)) (PySem.W.envX qual g s.heap.objs.size fa (.ref L) clos) A f s<|Q1 l cs) [] ah C s'->RelV v u->Q' v C->CE f P w l s Q u s':=
   λ{ah C v u} J rv q=>fin ⟨v,C,J.os,J.bare,J.base,J.hok,rv,q⟩
  cases fl with
  |ret u=>obtain⟨v,ah,C,J,rv,q⟩:=hs;exact fin2 J rv q
  |next=>obtain⟨ah,C,J,q⟩:=hs;exact fin2 (v:=V.non) (u:=Value.none) J rfl q
  |brk=>obtain⟨_,_,_,q⟩:=hs;exact aAh q
  |cont=>obtain⟨_,_,_,q⟩:=hs;exact aAh q
 .have h:=hm ds d hl em;cases e1:F (M3 (ds.map Sl.v) ls.length .no (wd.map Sl.v))with
  |ok o=>
   rw[e1]at h;cases o with
   |rt d'=>have h':R.ok d'=R.ok d:=h;injection h' with h';subst h';exact qq
   |nx ρ=>have h':R.ok D.non=R.ok d:=h;injection h' with h';subst h';exactλah C O' E' _ _=>qq .non C E'.same .non
   |bk ρ=>cases h
   |ct ρ=>cases h
  |ex x=>rw[e1]at h;cases h
  |bad=>rw[e1]at h;cases h
end
end
section
variable [Tabs]
def iF (mg:cE)(base:de):Prop:=∃b a,mg "__builtins__"=some (.ref b)/\b≠builtinsNs/\base.get? b=some a/\a.cls=.type "module"/\a.dict=some builtinsNs/\a.data=.plain
def tT:∀(l:List ae),TriplesOk l->gm d l=some x->gm d (l++[eh a,eh b,c])=some x:=λl h e=>by
 fun_induction TriplesOk l with
 |case1=>simp[gm]at e
 |case2 i t j u y rest g=>
  simp only[aBr,gm]at e⊢;split at e
  .rename_i f;rw[kn f];exact e
  .rename_i f;rw[ku f];exact g h e
 |case3 l k m=>exact h.elim
def LA (ne:¬(a=d.line/\b=d.col)):∀(l:List ae),TriplesOk l->gm d l=none->gm d (l++[eh a,eh b,c])=none:=λl h e=>by
 fun_induction TriplesOk l with
 |case1=>simp only[aEH,eh,gm];rw[ku];simp only[aAK,beq_iff_eq];exact ne
 |case2 i t j u y rest f=>
  simp only[aBr,gm]at e⊢;split at e
  .cases e
  .rename_i g;rw[ku g];exact f h e
 |case3 l k m=>exact h.elim
def fS (H:Hp)(fa:cp)(name qual:Str)(a:Arguments)(body:List dC)(b:kb)(clos:List (Str×cp)):Prop:=
 ∃d g e i f,H fa=some (.frz (PySem.W.fnMade name qual a body b clos e i d f) (.own fa))/\H d=some (.frz g (.own d))/\∃h t,g.data=.fields h/\h[1]?=some (.str qual t)
def fS.same (h:fS H fa name qual a body b clos)(s:Same H H'):fS H' fa name qual a body b clos:=
 let⟨f,g,d,i,e,j,k,l⟩:=h;⟨f,g,d,i,e,s _ _ j,s _ _ k,l⟩
section
def xL {Q:Flow->be->Prop}(I:Inv X pins σ H s)(hB:iF X.mg X.base)(kg:X.env.code=.ref c)(hK:PySem.W.codeHdIn X.K c x=true)(hT:H x=some (.tbl tb))(hq:qualnameIn X.env name name=qual)(hm:(g,qual)∈tb)(hu:∀p∈tb,p.1.line=g.line->p.1.col=g.col->p.2=qual)(ye:closureFor f X.env=pure clos)(hd0:d.defaults=[])(hk0:d.kw_defaults=[])(ha:annTrees d none X.env=[])(hN:X.N.Nodup)(hi:X.N[i]?=some name)(hx:Loc X.env.scope name)(hf:X.fn name=true\/X.env.scope.names.lookup name=some .local)(h:∀fa H' s',Inv X pins (σ.set i (some (.ref fa))) H' s'->Same H H'->fS H' fa name qual d body f clos->Q .next s'):a9 (cq X.prog X.w) X.A (exec (.FunctionDef name d body [] none [] f none name g) X.env) Q X.xe s:=by
 refine PySem.W.nestDef_K hd0 hk0 ha ?_;rw[hq];have hg:s.heap.Ns cv X.mg:=I.mod.glob.keeps I.bk;have C:PySem.W.CodeHd s.heap c x:=PySem.W.codeHd_of_K I.kIn hK;obtain⟨ps,hP,m,L⟩:=I.hok x _ hT;have hgP:cv≠x:=λq=>by obtain⟨o,es,ep,e,hd,_⟩:=hg;rw[q,hP]at e;cases e;cases hd
 have O:s.heap.BuiltinsAt X.mg x:=by
  obtain⟨bm,ob,b1,b2,b3,b4,b5,b6⟩:=hB;have y:=I.bk _ _ b3;refine⟨bm,ob,b1,b2,λq=>?_,λq=>?_,y,b4,b5,b6⟩
  .obtain⟨o,es,ep,e,hd,_⟩:=hg;rw[<-q,y]at e;cases e;rw[hd]at b6;cases b6
  .rw[q,hP]at y;cases y;cases b4
 have T:∀b,H b=none->b≠x:=λb n z=>by rw[z,hT]at n;cases n
 have neL:X.env.locals≠x:=T _ I.free;rcases L _ hm with hnf|⟨j,oc,vs,t,yv,ya,cg⟩
 .refine PySem.W.makeFunction_K (mg:=X.mg) ye I.ok.glob hg kg C hP m hnf hgP O λj k l h' tk hx' B ao hrec htb=>?_;obtain⟨c2,oc,vs,t,e2,bo,hd,hv⟩:=hrec;cases e2;have old:∀b u,H b=some u->b<s.heap.objs.size:=λb u e=>I.hok.lt e;have hcN:H j=none:=I.hok.fresh B;have E:H h'.objs.size=none:=I.hok.fresh (aAp B<|aDB ao);have ncf:j≠h'.objs.size:=aAl ao;have J:Same H (upd (upd H j<|.frz oc (.own j)) h'.objs.size<|.frz (PySem.W.fnMade name qual d body f clos l ((X.mg "__name__").getD .none) j k) (.own h'.objs.size)):=λb u e=>by rw[l4 (q9 e E),l4 (q9 e hcN)];exact e
  have qd:∀b o,b≠x->s.heap.get? b=some o->(h'.push<|PySem.W.fnMade name qual d body f clos l ((X.mg "__name__").getD .none) j k).get? b=some o:=λb o O e=>aAc _ (hx' b o O e);have lts:∀b o,s.heap.get? b=some o->b≠j/\b≠h'.objs.size:=λb o e=>⟨aAl (aAw (aAf e) B),aAl (aAw (aAf e)<|aAp B<|aDB ao)⟩;have I1:=I.step (H':=upd (upd H j<|.frz oc (.own j)) h'.objs.size (.frz (PySem.W.fnMade name qual d body f clos l ((X.mg "__name__").getD .none) j k) (.own h'.objs.size)))
   (h':=h'.push (PySem.W.fnMade name qual d body f clos l ((X.mg "__name__").getD .none) j k)) (g':=s.gens) (t':=tk) (d':=s.drawn) (ch:=[]) (λ_ z=>nomatch z) (λb o _ _ _ e n=>qd b o (T b n) e) (λb o _ _ _ e n=>⟨o.slots,qd b o (T b n) e⟩)
   (λb o _ e n=>by rw[l4 (lts b o e).2,l4 (lts b o e).1];exact n) (λb o _ e=>by
    by_cases O:b=x
    .subst O;exact⟨_,aAc _ htb⟩
    .exact⟨o,qd b o O e⟩) (λb Y e=>J _ _ e) (λb o u e=>J _ _ e) (λb tb e=>J _ _ e) (λm' hm'=>by
    obtain⟨o,es,ep,e,r⟩:=hm';exact⟨o,es,ep,qd _ o neL e,r⟩) (λb u e=>by
    by_cases yf:b=h'.objs.size
    .subst yf;rw[j3]at e;cases e;exact⟨aAn _ rfl,_,aAn _ rfl⟩
    .rw[l4 yf]at e;by_cases hbc:b=j
     .subst hbc;rw[j3]at e;cases e;exact⟨aAc _ bo,_,aAc _ bo⟩
     .rw[l4 hbc]at e;by_cases hbP:b=x
      .subst hbP;rw[hT]at e;cases e;refine⟨_,aAc _ htb,?_,λp hp=>?_⟩
       .rw[aGx];exact TriplesOk_snoc _ _ _ _ m
       .rw[aGx];show gm p.1 (ps.toList++[eh g.line,eh g.col,.ref j])=none\/_;by_cases U:(g.line:Int)=p.1.line/\(g.col:Int)=p.1.col
        .rcases L p hp with h0|⟨c3,oc3,vs3,t3,h0,h1,h2⟩
         .have e1:g.line=p.1.line:=by exact_mod_cast U.1
          have e2:g.col=p.1.col:=by exact_mod_cast U.2
          refine .inr ⟨j,oc,vs,t,?_,by rw[l4 ncf,j3],hd,?_⟩
          .rw[e1,e2];exact codeAmong_snoc _ m h0
          .rw[hu p hp e1.symm e2.symm];exact hv
         .exact .inr ⟨c3,oc3,vs3,t3,tT _ m h0,J _ _ h1,h2⟩
        .rcases L p hp with h0|⟨c3,oc3,vs3,t3,h0,h1,h2⟩
         .exact .inl (LA U _ m h0)
         .exact .inr ⟨c3,oc3,vs3,t3,tT _ m h0,J _ _ h1,h2⟩
      .refine(I.hok b u e).ab8 (λb2 v hc q=>qd b2 v (λz=>?_) q) (λb2 z=>J _ _ z) λb2 u _ z=>J _ _ z;rcases hc with hc|hc
       .exact hbP (hc▸z)
       .rw[z,hT]at hc;cases hc) I.bare
  refine Q9 I1 hN hi hx (show RelV (.ref h'.objs.size) _ from rfl) (λs' I'=>h _ _ s' I' J ⟨j,oc,l,_,k,j3,by rw[l4 ncf,j3],vs,t,hd,hv⟩) hf
 .refine PySem.W.makeFunction_hit (mg:=X.mg) ye I.ok.glob hg kg C hP m yv O λk l h' tk hk hsz=>?_;have E:H h'.objs.size=none:=I.hok.fresh hsz;have I1:=I.laid (a:=h'.objs.size) (o:=.frz (PySem.W.fnMade name qual d body f clos l ((X.mg "__name__").getD .none) j k) (.own h'.objs.size)) (h':=h'.push (PySem.W.fnMade name qual d body f clos l ((X.mg "__name__").getD .none) j k)) (t':=tk)
   (λb u e=>aAc _ (hk b u e)) hsz ⟨aAn _ rfl,_,aAn _ rfl⟩
  refine Q9 I1 hN hi hx (show RelV (.ref h'.objs.size) _ from rfl) (λs' I'=>h _ _ s' I' (j7 E _) ⟨j,oc,l,_,k,j3,j7 E _ _ _ ya,vs,t,cg⟩) hf
end
structure Nst where
 name:Str
 qual:Str
 params:Arguments
 body:List Stmt
 scope:Scope
 pos:Pos
 ps:List Str
 ls:List Str
 fn:List Str
 js:List Nat
 F:Ev->R Out
 mm:List D->List D->R D
 i:Nat
abbrev Nst.stmt (n:Nst):dC:=.FunctionDef n.name n.params n.body [] none [] n.scope none n.name n.pos
structure NstOk (X:Cx)(k:Nat)(n:Nst):Prop where
 sc:NScope n.ps n.ls n.fn n.scope
 one:n.ps.length=1
 body:∀(fa:Addr) (cd:Value) (clos:List (Str×Addr)) (A:Around) (outer:List Env) (s:Shared) (H:Hp),Room k (A.deeper (PySem.W.envX n.qual n.scope s.heap.objs.size fa cd clos))->aL (pj X.prog X.w X.K X.mg X.base (n.ps++(n.ls++n.fn)) (PySem.W.envX n.qual n.scope s.heap.objs.size fa cd clos) A outer s H) n.body n.F
 mm:∀wd ds d,wd.length=n.fn.length->ds.length=n.ps.length->n.mm wd ds=.ok d->L9 (n.F (M3 (ds.map Sl.v) n.ls.length .no (wd.map Sl.v)))=.ok d
 bind:∀(clos:List (Str×Addr)) (doc pm cd ctv:Value) (us:List Value),us.length=n.ps.length->bindArgs (PySem.W.fnX n.name n.qual n.params n.body n.scope clos .none .none doc pm none cd ctv) ⟨us,[]⟩=pure (n.ps.zip us)
 len:n.js.length=n.fn.length
 at_:∀(i j:Nat) (x:Str),n.js[i]?=some j->n.fn[i]?=some x->X.N[j]?=some x/\X.env.scope.names.lookup x=some .cell
 d0:n.params.defaults=[]
 k0:n.params.kw_defaults=[]
 nm:X.N[n.i]?=some n.name
 lc:Loc X.env.scope n.name
 st:X.fn n.name=true\/X.env.scope.names.lookup n.name=some .local
 dbg:(n.name==ll)=false
 cdt:(n.name==lp)=false
structure ClosOk (X:Cx)(n:Nst)(clos:List (Str×Addr)):Prop where
 eq:closureFor n.scope X.env=pure clos
 ann:annTrees n.params none X.env=[]
 qn:qualnameIn X.env n.name n.name=n.qual
 sub:∀x c,clos.lookup x=some c->X.env.cells.lookup x=some c
 has:∀x∈n.fn,∃c,clos.lookup x=some c
def cS:List Nat->Ev->R (List D)
 |[],_=>.ok []
 |j::a,ρ=>(U1 j ρ).bind λd=>(cS a ρ).bind λb=>.ok (d::b)
theorem OP {K:lb}{l H:Hp}{m O:cp->Prop}{σ:St}{ρ:Ev}(E:EnvOk K l m H O σ ρ):∀{b:List Nat} {wd:List D},cS b ρ=.ok wd->∃wv,Reps K H O wv wd/\wv.length=b.length/\∀(i j:Nat) (v:V),b[i]?=some j->wv[i]?=some v->σ[j]?=some (some v)
 |[],wd,h=>by cases h;exact⟨[],.nil,rfl,λi j v e=>by simp at e⟩
 |j::b,wd,h=>by
  unfold cS at h;cases a:U1 j ρ with
  |ok d=>
   rw[a,R.aa0]at h;cases f:cS b ρ with
   |ok u=>
    rw[f,R.aa0]at h;cases h;obtain⟨wv,r,n,at_⟩:=OP E f;have:ρ[j]?=some (.v d):=by
     unfold U1 at a;split at a
     .rename_i q;cases a;exact q
     .cases a
    obtain⟨v,o,p⟩:=E.val j d this;refine⟨v::wv,.cons p r,by simp[n],λi s t g k=>?_⟩;cases i with
    |zero=>simp at g k;subst g k;exact o
    |succ i=>exact at_ i s t (by simpa using g) (by simpa using k)
   |ex z=>rw[f]at h;cases h
   |bad=>rw[f]at h;cases h
  |ex z=>rw[a]at h;cases h
  |bad=>rw[a]at h;cases h
section
def S6 (h:de)(a:List (Str×cp)):List (cp×Obj):=a.filterMap λp=>(h.get? p.2).map λo=>(p.2,o)
def K9 (e:(S6 h a).lookup b=some o):h.get? b=some o/\∃x,(x,b)∈a:=by
 obtain⟨p,d,q⟩:=aCb.mp (mem_lookup e);cases z:h.get? p.2 with
 |none=>rw[z]at q;cases q
 |some f=>rw[z]at q;have g:(p.2,f)=(b,o):=Option.some.inj q;injection g with i j;subst i j;exact⟨z,p.1,d⟩
def kS (f:(x,b)∈a)(e:h.get? b=some o):∃d,(S6 h a).lookup b=some d:=by
 have:(b,o)∈S6 h a:=aCb.mpr ⟨(x,b),f,by show(h.get? b).map _=_;rw[e];rfl⟩;cases q:(S6 h a).lookup b with
 |some d=>exact⟨d,rfl⟩
 |none=>have:=List.lookup_eq_none_iff.mp q (b,o) this;simp at this
def qx (X:Cx)(n1 n2:Nst)(clos1 clos2:List (Str×cp))(f:Ev->R D)(M:D->(List D->R D)->(List D->R D)->R D):TE:=λσ H Q=>∃d e O ρ b a,EnvOk X.K d e H O σ ρ/\σ[n1.i]?=some (some<|V.ref b)/\σ[n2.i]?=some (some<|V.ref a)/\
 fS H b n1.name n1.qual n1.params n1.body n1.scope clos1/\fS H a n2.name n2.qual n2.params n2.body n2.scope clos2/\RC X H O ((f ρ).bind λg=>(cS n1.js ρ).bind λh=>(cS n2.js ρ).bind λj=>M g (n1.mm h) (n2.mm j)) Q
def zC {n:Nst}{clos a:List (Str×cp)}{k:Nat}{h:N3}{σ:St}{H:Hp}{s:be}{H9:Hp}{O0 O:cp->Prop}{ρ:Ev}{fa:cp}{wd:List D}(ok:NstOk X k n)(j:ClosOk X n clos)(I:Inv X h σ H s)(E:EnvOk X.K H9 O0 H O σ ρ)
  (hA:∀p∈clos,p∈a) (l:∀x b,(x,b)∈a->X.env.cells.lookup x=some b) (r:fS H fa n.name n.qual n.params n.body n.scope clos) (hw:cS n.js ρ=.ok wd):
  ∀t z,Kp (cM H (S6 s.heap a)) O t z->JO X.prog X.w X.K X.mg X.base (k+1) 1 (n.mm wd) t z fa:=by
 obtain⟨c',oc,T,pm,U,h1,h2,h3⟩:=r;obtain⟨wv,lg,hl,at_⟩:=OP E hw;have hn:∀b o,(S6 s.heap a).lookup b=some o->H b=none:=λb o q=>by obtain⟨_,x,Y⟩:=K9 q;exact I.freeC x b (l x b Y)
 have N:=dI hn
 suffices B:∀t z,Kp (cM H<|S6 s.heap a) O t z->JO X.prog X.w X.K X.mg X.base (k+1) n.ps.length (n.mm wd) t z fa by rw[ok.one]at B;exact B
 refine YT (cs:=S6 s.heap a) (wv:=wv) (wd:=wd) (F:=n.F) ok.sc (λA g s H hr=>ok.body fa (.ref c') clos A g s H hr) (λds d om e=>ok.mm wd ds d (by rw[<-lg.length,hl,ok.len]) om e) (λs us om=>.of_eq (ok.bind clos T pm (.ref c') U us om)) (N _ _ h1) (N _ _ h2) h3
  (λb o q=>⟨dG q,?_⟩) (λi x v C q2=>?_) (λx c q=>?_) (λx y c C q2=>I.ok.inj x y c (j.sub x c C) (j.sub y c q2)) (by rw[hl,ok.len]) (lg.same N) (E.grow N).trk
 .obtain⟨e1,x,Y⟩:=K9 q;obtain⟨v,o',e2,e3⟩:=I.cell x b (l x b Y);rw[e1]at e2;cases e2;exact⟨v,e3⟩
 .have hi:i<n.js.length:=by rw[ok.len];exact(aAy.mp C).1
  have ej:n.js[i]?=some n.js[i]:=aAj hi;obtain⟨hN,hk⟩:=ok.at_ i _ x ej C;have hσ:=at_ i _ v ej q2;obtain⟨m,zf,J⟩:=I.loc;obtain⟨u,ru,L⟩:=J _ x v hN hσ (.inr (.inl hk));rcases L with⟨jm,_⟩|⟨_,c,ja,o,Q,hd⟩
  .have f:X.env.scope.names.lookup x=some .local:=jm;rw[hk]at f;cases f
  .obtain⟨c2,q3⟩:=j.has x (aAr C);have q4:=j.sub x c2 q3;rw[ja]at q4;cases q4;obtain⟨o',q5⟩:=kS (hA _<|PySem.mem_of_lookup q3) Q;have:=(K9 q5).1;rw[Q]at this;cases this;exact⟨c,u,o,q3,q5,hd,ru⟩
 .obtain⟨v,o,Q,_⟩:=I.cell x c (j.sub x c q);exact kS (hA _<|PySem.mem_of_lookup q) Q
def UU (sr:NstOk X k n1)(sv:NstOk X k n2)(yh:ClosOk X n1 clos1)(jg:ClosOk X n2 clos2)(J:∀x b,(x,b)∈clos1++clos2->X.env.cells.lookup x=some b)(FF:FnOk X.prog X.w X.K X.mg X.base wG kf g gd L (spF X.K (JO X.prog X.w X.K X.mg X.base (k+1) 1) M))(hr:Room kf X.A)(U:X.mg x=some (.ref g))(hk:PySem.W.keepIn X.K (.ref g)=true)(n:Binds X.K gd L [])(h3:L.length=3)(he:PD X e f)(xv:∀y,X.fn y=true)(hg:Gl X x:=by rfl)(jb:(x==ll)=false:=by decide)(zg:bb [e,.Name n1.name Y,.Name n2.name t] X.env=(false,d3 e X.env)::bb [.Name n1.name Y,.Name n2.name t] X.env:=by rfl)(xc:bb [.Name n1.name Y,.Name n2.name t] X.env=(false,d3 (.Name n1.name Y) X.env)::bb [.Name n2.name t] X.env:=by rfl)(hs3:bb [.Name n2.name t] X.env=(false,d3 (.Name n2.name t) X.env)::bb [] X.env:=by rfl)(bc:(dn pos (bb [.Name n1.name Y,.Name n2.name t] X.env)).any (·.1)=false:=by rfl):
  PE X (.Call (.Name x p) [e,.Name n1.name Y,.Name n2.name t] [] pos) (qx X n1 n2 clos1 clos2 f M):=by
 rintro pins s σ H Q I ⟨H9,O0,O,ρ,yg,fa2,E,h1,h2,md1,md2,q⟩;have vis:∀{y:Str},Loc X.env.scope y->vT X.env.scope y:=λh=>h.elim .inl λz=>.inr (.inl z);have kr:PA X [e,.Name n1.name Y,.Name n2.name t] _:=N1 he (N1 (G6 sr.nm (vis sr.lc) sr.dbg sr.cdt) (N1 (G6 sv.nm (vis sv.lc) sv.dbg sv.cdt) bH hs3) xc) zg;refine aAW (vE I hg U ?_ jb);refine PySem.W.callWith_K (h₀:=X.base) I.ok.mod.kin hk (D4 (kr pos pins s σ H (λvs i=>∃v1 N w1 w2 d,vs=[v1,.ref yg,.ref fa2]/\Same H i/\Rep X.K i O v1 N/\cS n1.js ρ=.ok w1/\cS n2.js ρ=.ok w2/\M N (n1.mm w1) (n2.mm w2)=.ok d/\∀v l,Same i l->Rep X.K l O v d->Q v l) I ⟨H9,O0,O,ρ,E,?_⟩) λus B z9=>?_) zg bc
 .cases e1:f ρ with
  |ex z=>rw[e1]at q;exact q
  |bad=>rw[e1]at q;exact q
  |ok N=>
   rw[e1,R.aa0]at q;cases C:cS n1.js ρ with
   |ex z=>rw[C]at q;exact(q H<|Same.refl _).elim
   |bad=>rw[C]at q;exact q.elim
   |ok w1=>
    rw[C,R.aa0]at q;cases e3:cS n2.js ρ with
    |ex z=>rw[e3]at q;exact(q H<|Same.refl _).elim
    |bad=>rw[e3]at q;exact q.elim
    |ok w2=>
     rw[e3,R.aa0]at q;cases e4:M N (n1.mm w1) (n2.mm w2)with
     |ex z=>rw[e4]at q;exact(q H<|Same.refl _).elim
     |bad=>rw[e4]at q;exact q.elim
     |ok d=>rw[e4]at q;exactλv1 i B r1=>⟨_,h1,_,h2,v1,N,w1,w2,d,rfl,B,r1,rfl,rfl,e4,λv l s2 r2=>q v l (B.trans s2) r2⟩
 .obtain⟨vs,i,a,r,v1,N,w1,w2,d,ev,sm,r1,c1,c2,em,qq⟩:=z9;refine⟨a.kIn,?_⟩;subst ev;have E1:=E.grow sm;generalize wm:S6 B.heap (clos1++clos2)=j;have hn:∀b o,j.lookup b=some o->B.heap.get? b=some o/\i b=none/\uH o:=λb o z=>by rw[<-wm]at z;obtain⟨e1,y,U⟩:=K9 z;obtain⟨v,o',C,e3⟩:=a.cell y b (J y b U);rw[e1]at C;cases C;exact⟨e1,a.freeC y b (J y b U),v,e3⟩
  have hn0:∀b o,j.lookup b=some o->i b=none:=λb o z=>(hn b o z).2.1;have T:Same i (cM i j):=dI hn0;have E2:=E1.grow T;have m:=a.af2;have nofr:∀b o,j.lookup b=some o->b∉zG X.stack:=λb o z n=>by
   rw[<-wm]at z;obtain⟨_,y,hmy⟩:=K9 z;rcases aAd.mp (a.ab6 b n)with e|n
   .exact a.cne y b (J y b hmy) e
   .obtain⟨_,o',ho,_⟩:=a.ok.funs.mem n;exact absurd (aAw (aAf ho)<|a.ok.cab y b (xv y)<|J y b hmy) (aBg _)
  have nob:∀b o,X.base.get? b=some o->j.lookup b=none:=λb o e=>by
   cases z:j.lookup b with
   |none=>rfl
   |some o'=>rw[<-wm]at z;obtain⟨_,y,U⟩:=K9 z;exact absurd (aAw (aAf e)<|aAp a.ok.bsz<|a.ok.cab y b (xv y)<|J y b U) (aBg _)
  have C:Env0 X.prog X.w X.K X.mg X.base X.A X.stack B (cM i j):=⟨m.frames,m.mod,λb o e=>⟨(m.bs b o e).1,by rw[Q8 (nob b o e)];exact(m.bs b o e).2⟩,m.bsz,m.funs,λb n=>by
   cases z:j.lookup b with
   |none=>rw[Q8 z];exact m.frf b n
   |some o=>exact absurd n (nofr b o z),KP m.hok λb o z=>⟨(hn b o z).1,(hn b o z).2.1⟩,m.bare⟩
  have cl1:=zC sr yh a E1 (λp hp=>aBq _ hp) J (md1.same sm) c1;have cl2:=zC sv jg a E1 (λp hp=>aAH _ hp) J (md2.same sm) c2;rw[wm]at cl1 cl2;have hl:us.length=L.length:=by rw[<-r.length,h3];rfl
  have hbs:=n B us a.kIn (by rw[aBR];exact hl);rw[aBR]at hbs;refine wpAny_call (aDS (FF.run X.A X.stack B (cM i j) ⟨us,[]⟩ us _ (λv l=>Q v (Q1 l j)) (λ_ _ _=>False) hr C hbs r ⟨O,v1,N,yg,_,fa2,_,d,rfl,r1.same T,cl1,cl2,E2.trk,E2.tab,uB a O E1.trk,em,λv l s2 r2=>?_⟩) λrr s' hq=>?_)
  .have hz:∀b o,j.lookup b=some o->l b=some (.frz o (.own b)):=λb o z=>s2 _ _ (dG z);refine qq v _ (λb u e=>v8 hz (s2 b u<|T b u e) λo z _=>?_) (r2.hid hz);rw[hn0 b o z]at e;cases e
  .cases rr with
   |error e=>exact hq.elim
   |ok fl=>
    cases fl with
    |next=>exact aAh hq
    |brk=>exact aAh hq
    |cont=>exact aAh hq
    |ret u=>obtain⟨v,l,os,bare,un,hok,rv,qv⟩:=hq;obtain⟨U2,k2,_⟩:=XO un hok hn;exact a.after ⟨v,_,os,bare,U2,k2,rv,qv⟩
def HY (a:NstOk X k n1)(h:NstOk X k n2)(u:ClosOk X n1 clos1)(B:ClosOk X n2 clos2)(hA:∀x b,(x,b)∈clos1++clos2->X.env.cells.lookup x=some b)(hB:iF X.mg X.base)(kg:X.env.code=.ref c)(hK:PySem.W.codeHdIn X.K c Pt=true)(l:(Pt,tb)∈Tabs.tbs)(L:(n1.pos,n1.qual)∈tb)(ju:(n2.pos,n2.qual)∈tb)(dc:∀p∈tb,p.1.line=n1.pos.line->p.1.col=n1.pos.col->p.2=n1.qual)(Q:∀p∈tb,p.1.line=n2.pos.line->p.1.col=n2.pos.col->p.2=n2.qual)(ai:n1.i≠n2.i)(hN:X.N.Nodup)(FF:FnOk X.prog X.w X.K X.mg X.base wG kf g gd m (spF X.K (JO X.prog X.w X.K X.mg X.base (k+1) 1) M))(hr:Room kf X.A)(hm:X.mg x=some (.ref g))(hk:PySem.W.keepIn X.K (.ref g)=true)(hb:Binds X.K gd m [])(h3:m.length=3)(he:PD X e f)(xv:∀y,X.fn y=true)(hg:Gl X x:=by rfl)(jb:(x==ll)=false:=by decide)(zg:bb [e,.Name n1.name n,.Name n2.name j] X.env=(false,d3 e X.env)::bb [.Name n1.name n,.Name n2.name j] X.env:=by rfl)(xc:bb [.Name n1.name n,.Name n2.name j] X.env=(false,d3 (.Name n1.name n) X.env)::bb [.Name n2.name j] X.env:=by rfl)(T:bb [.Name n2.name j] X.env=(false,d3 (.Name n2.name j) X.env)::bb [] X.env:=by rfl)(bc:(dn U (bb [.Name n1.name n,.Name n2.name j] X.env)).any (·.1)=false:=by rfl):
  aL X [n1.stmt,n2.stmt,.Return (some (.Call (.Name x p) [e,.Name n1.name n,.Name n2.name j] [] U)) rpos] (λρ=>((f ((ρ.set n1.i .no).set n2.i .no)).bind λY=>(cS n1.js ((ρ.set n1.i .no).set n2.i .no)).bind λw1=>(cS n2.js ((ρ.set n1.i .no).set n2.i .no)).bind λw2=>M Y (n1.mm w1) (n2.mm w2)).bind λd=>.ok (.rt d)):=by
 rintro H9 O0 o s σ H D I ⟨O,ρ,E,fk,q⟩;refine aEs (xL (σ:=σ) I hB kg hK (E.tab _ l) u.qn L dc u.eq a.d0 a.k0 u.ann hN a.nm a.lc a.st λC H1 s1 I1 sm1 md1=>?_);have E1:EnvOk X.K H9 O0 H1 O (σ.set n1.i<|some<|.ref C) (ρ.set n1.i .no):=(E.grow sm1).put n1.i (λz=>z) trivial;refine aEs (xL (σ:=σ.set n1.i (some<|.ref C)) I1 hB kg hK (E1.tab _ l) B.qn ju Q B.eq h.d0 h.k0 B.ann hN h.nm h.lc h.st λt H2 s2 I2 yd md2=>?_);have J:EnvOk X.K H9 O0 H2 O ((σ.set n1.i<|some<|.ref C).set n2.i (some<|.ref t)) ((ρ.set n1.i .no).set n2.i .no):=(E1.grow yd).put n2.i (λz=>z) trivial;have l1:n1.i<σ.length:=by rw[I.len];exact(aAy.mp a.nm).1
 have l2:n2.i<σ.length:=by rw[I.len];exact(aAy.mp h.nm).1
 refine FI (MA<|UU a h u B hA FF hr hm hk hb h3 he xv hg jb zg xc T bc) o s2 _ H2 D I2 ⟨H9,O0,O,_,C,t,J,?_,?_,md1.same yd,md2,?_⟩
 .rw[aCy (aBV ai),aBI l1]
 .rw[aBI (by rw[aFZ];exact l2)]
 .revert q;dsimp only;generalize((f<|(ρ.set n1.i .no).set n2.i .no).bind λY=>(cS n1.js<|(ρ.set n1.i .no).set n2.i .no).bind λw1=>(cS n2.js<|(ρ.set n1.i .no).set n2.i .no).bind λw2=>M Y (n1.mm w1) (n2.mm w2))=rr;intro q;cases rr with
  |ok d=>exactλv H' s r=>q v H' (J.same.trans s) (r.sub J.sub)
  |ex z=>exactλH' s=>q H' (J.same.trans s)
  |bad=>exact q
end
def uF (K:lb):Sp:=λd H Q _=>∃(a:cp) (b:List Int),d=[.ref a]/\N2 K H a (b.map V.int)/\b.length<=63/\(∀x∈b,aBf x<=1048576)/\Tb H/\∀e,Q (.bl true) e
def RV {P:cu}{w:cz}{K:lb}{mg:cE}{base:de}{k:Nat}{f:cp}{fd:ek}{m:List D->R D}(F:FnOk P w K mg base wG k f fd ["script"] (gq K 1 m))
  (h:∀ns:List Int,ns.length<=63->(∀x∈ns,aBf x<=1048576)->m [.lst (ns.map D.int)]=.ok (.bl true)):FnOk P w K mg base wG k f fd ["script"] (uF K):=
 F.imp<|by rintro l H Q E ⟨a,ns,e,b,d,g,i,q⟩;exact⟨λ_=>False,_,_,by rw[e];exact .cons (.lst b (λz=>z) (Reps.ints ns)) .nil,rfl,λ_ z=>z.elim,i,λ_ _ _ z=>z,h ns d g,λv j _ r=>by cases r;exact q j⟩
def GU {P:cu}{w:cz}{K:lb}{mg mb:cE}{k:Nat}{fa a:cp}{fd:ek}{f:be}{vs:List ae}{ns:List Int}
  (KX:K.In f.heap) (zf:f.heap.Ns cv mg) (j:f.heap.Ns builtinsNs mb) (hbb:∀x:Str,x≠ "__name__"->mb x=dq x) (J:f.heap.NoLimit) (hB:iF mg f.heap) (hg:f.gens=#[])
  (L:f.heap.get? a=some {cls:=.type "list",data:=.seq vs.toArray}) (hi:IntsAre vs ns) (hl:ns.length<=63) (xf:∀x∈ns,aBf x<=1048576) (hr:Room k callerA)
  (hT:∀p∈Tabs.tbs,f.heap.get? p.1=some (PySem.W.tabObj #[])/\isCodeTable f.heap p.1) (hTd:(Tabs.tbs.map (·.1)).Nodup) (hKn:PySem.W.noTabs K=true)
  (F:∀base:de,K.In base->base.Ns cv mg->iF mg base->FnOk P w K mg base wG k fa fd ["script"] (uF K)) (xb:∀(s:be) (u:ae),BindsTo s fd ⟨[u],[]⟩ [("script",u)]):
  gy (cq P w) callerA (.call (.ref fa) ⟨[.ref a],[]⟩) (λr s'=>r=.ok (.ret (.bool true))/\OldK f.heap s'.heap/\s'.os=f.os/\AllBare s'.gens) f:=by
 have rv:=L2.rL hi;have N:=hi.length;have je:ns.length<=sizeLine:=aAp hl (by decide);have C:∀b i,Tabs.tbs.lookup b=some i->f.heap.get? b=some (PySem.W.tabObj #[])/\isCodeTable f.heap b:=λb i e=>hT (b,i) (mem_lookup e);have nta:Tabs.tbs.lookup a=none:=by
  cases e:Tabs.tbs.lookup a with
  |none=>rfl
  |some i=>have:=(C a i e).1;rw[L]at this;cases this
 have noK:∀b o,K.lookup b=some o->Tabs.tbs.lookup b=none:=λb o e=>by
  cases z:Tabs.tbs.lookup b with
  |none=>rfl
  |some i=>have O:=KX b o e;rw[(C b i z).1]at O;cases O;have l:=aBC.mp hKn (b,_) (PySem.W.mem_of_lookupK e);exact absurd (show false=true from l) aBc
 let put:Hp->Hp:=λH b=>match Tabs.tbs.lookup b with
  |some i=>some (.tbl i)
  |none=>H b
 have mR:∀(H:Hp) b i,Tabs.tbs.lookup b=some i->put H b=some (.tbl i):=λH b i e=>by show(match Tabs.tbs.lookup b with|some i=>some (HO.tbl i)|none=>H b)=_;rw[e]
 have E:∀(H:Hp) b,Tabs.tbs.lookup b=none->put H b=H b:=λH b e=>by show(match Tabs.tbs.lookup b with|some i=>some (HO.tbl i)|none=>H b)=_;rw[e]
 have y:∀g:Hp,(∀b,g b=none\/∃Y,g b=some (.frz {cls:=.type "list",data:=.seq vs.toArray} (.lst Y)))->N2 K (put g) a (ns.map V.int)->(∀b u,g b=some u->ObjOk P w (put g) f.heap b u)->(∀b,g b≠none->b=a)->(g a≠none->K.lookup a=none)->
   gy (cq P w) callerA (.call (.ref fa) ⟨[.ref a],[]⟩) (λr s'=>r=.ok (.ret (.bool true))/\OldK f.heap s'.heap/\s'.os=f.os/\AllBare s'.gens) f:=by
  intro g hO hS Q hA hK;have T:fA P w (put g) f.heap:=λb u e=>by
   cases z:Tabs.tbs.lookup b with
   |none=>rw[E _ b z]at e;exact Q b u e
   |some i=>rw[mR _ b i z]at e;cases e;exact⟨#[],(C b i z).1,trivial,λp _=>.inl rfl⟩
  have oa:∀{b:cp} {o:Obj},f.heap.get? b=some o->put g b=none->(qN f.heap<|put g).get? b=some o:=λe n=>OW e n;have none_of:∀{b:cp} {o:Obj},f.heap.get? b=some o->o≠PySem.W.tabObj #[]->o≠{cls:=.type "list",data:=.seq vs.toArray}->put g b=none:=λ{b o} e n1 n2=>by
   cases z:Tabs.tbs.lookup b with
   |some i=>have:=(C b i z).1;rw[e]at this;exact absurd (Option.some.inj this) n1
   |none=>
    rw[E _ b z];cases q:g b with
    |none=>rfl
    |some u=>have e':b=a:=hA b (by rw[q];simp);subst e';rw[L]at e;exact absurd (Option.some.inj e).symm n2
  have t:∀{b:cp} {m:cE},f.heap.Ns b m->(qN f.heap<|put g).Ns b m:=λ{b m} ⟨o,es,ep,e,d,r⟩=>⟨o,es,ep,oa e (none_of e (λz=>by rw[z]at d;cases d) λz=>by rw[z]at d;cases d),d,r⟩;have U:K.In (qN f.heap<|put g):=λb o e=>oa (KX b o e) (by
   rw[E _ b (noK b o e)];cases q:g b with
   |none=>rfl
   |some u=>have e':b=a:=hA b (by rw[q];simp);subst e';rw[hK (by rw[q];simp)]at e;cases e)
  have hBb:iF mg (qN f.heap<|put g):=by obtain⟨bm,ob,b1,b2,b3,b4,b5,b6⟩:=hB;exact⟨bm,ob,b1,b2,oa b3 (none_of b3 (λz=>by rw[z]at b6;cases b6) λz=>by rw[z]at b6;cases b6),b4,b5,b6⟩
  have hM:Mod K mg (qN f.heap<|put g):=⟨U,t zf,⟨mb,t j,hbb⟩,let⟨mc,A,l⟩:=J;⟨mc,t A,l⟩⟩;have e0:Env0 P w K mg (qN f.heap<|put g) callerA [] f (put g):=⟨rfl,hM,λb o e=>TJ e,aEp (IJ _ _),trivial,λb j=>absurd (show b∈([]:List cp)from j) (by simp),T,.of_eq hg⟩;have tb0:Tb (put g):=λp hp=>mR _ p.1 p.2 (aT hTd hp);refine aDS ((F _ U (t zf) hBb).run callerA [] f (put g) ⟨[.ref a],[]⟩ [.ref a] [.ref a] (λv _=>v=.bl true) (λ_ _ _=>False) hr e0 (xb f<|.ref a) (.cons rfl .nil) ⟨a,ns,rfl,hS,hl,xf,tb0,λ_=>rfl⟩) λr s' h=>?_;cases r with
  |error e=>exact(show False from h).elim
  |ok fl=>
   cases fl with
   |next=>exact aAh h
   |brk=>exact aAh h
   |cont=>exact aAh h
   |ret u=>
    obtain⟨v,H',os,bare,un,zh,r',q⟩:=h;have q':v=.bl true:=q;subst q';obtain rfl:u=aDm true:=r';have B:∀b o,f.heap.get? b=some o->s'.heap.get? b=some o\/(isCodeTable f.heap b/\o=PySem.W.tabObj #[]/\∃I,s'.heap.get? b=some (PySem.W.tabObj I)):=λb o e=>by
     cases z:Tabs.tbs.lookup b with
     |some i=>have:=(C b i z).1;rw[e]at this;obtain⟨I,hps,_⟩:=zh b _ (un.tbls b i<|mR _ b i z);exact .inr ⟨(C b i z).2,Option.some.inj this,I,hps⟩
     |none=>
      refine .inl ?_;rcases hO b with n|⟨Y,n⟩
      .exact un.keep b o e (by rw[E _ b z];exact n) (by intro z;exact absurd (show b∈([]:List cp)from z) (by simp)) (by simp)
      .have z1:put g b=some (.frz {cls:=.type "list",data:=.seq vs.toArray} (.lst Y)):=by rw[E _ b z];exact n
       have z2:=un.frzs b _ _ z1;obtain⟨O,_⟩:=T b _ z1;obtain⟨e2,_⟩:=zh b _ z2;rw[e]at O;cases O;exact e2
    refine⟨rfl,⟨λb o e=>?_,λb o e=>?_⟩,os,bare⟩
    .rcases B b o e with h|⟨A,l,I,h3⟩
     .exact .inl h
     .subst l;exact .inr (.inl ⟨A,rfl,#[],I,rfl,by rw[Array.empty_append];exact h3⟩)
    .rcases B b o e with h|⟨A,l,I,h3⟩
     .exact⟨o,h⟩
     .exact⟨_,h3⟩
 cases hk:K.lookup a with
 |some o=>have e:=KX a o hk;rw[L]at e;cases e;refine y (λ_=>none) (λ_=>.inl rfl) (.inr ⟨_,vs.toArray,_,hk,rfl,rfl,rfl,by rw[aAm,N];exact je,by simpa using rv⟩) (λb u z=>by have z':(none:Option HO)=some u:=z;cases z') (λb z=>absurd rfl z) λz=>absurd rfl z
 |none=>
  obtain⟨g,A,l⟩:∃g:Hp,g a=some (.frz {cls:=.type "list",data:=.seq vs.toArray} (.lst (ns.map V.int)))/\∀b,b≠a->g b=none:=⟨λb=>if b=a then _ else none,kn rfl,λb j=>ku j⟩;refine y g (λb=>?_) (.inl (.inr ⟨{cls:=.type "list",data:=.seq vs.toArray},(E g a nta).trans A⟩)) (λb u z=>?_) (λb z=>?_) λ_=>hk
  .by_cases j:b=a
   .subst j;exact .inr ⟨_,A⟩
   .exact .inl (l b j)
  .by_cases j:b=a
   .subst j;rw[A]at z;cases z;exact⟨L,by rw[aAi];exact je,vs,_,rv,L⟩
   .rw[l b j]at z;cases z
  .by_cases j:b=a
   .exact j
   .exact absurd (l b j) z
def RJ {l:PySem.W.OpenLaw}{k:Nat}{q:cu}{e:List Str}{B:(Str->Option ae)->de->Prop}{y:cz->de->Prop}{d:DefRec}{K:Params->lb}{z:List cp}
  (C:l.most=some 63) (n:d.params.defaults=[]) (E:Room k callerA)
  (H:∀(w:cz) (h:de),y w h->(K w.params).In h/\∀P∈z,h.get? P=some (PySem.W.tabObj #[]))
  (r:∀p∈Tabs.tbs,p.1∈z/\∃c,∀w:cz,PySem.W.codeHdIn (K w.params) c p.1=true) (t:(Tabs.tbs.map (·.1)).Nodup) (v:∀w:cz,PySem.W.noTabs (K w.params)=true)
  (F:∀(w:cz) (mg:cE) (fa:cp) (h:de),(K w.params).In h->h.Ns cv mg->mg d.name=some (.ref fa)->
   ∃fd:ek,(∀(s:be) (u:ae),BindsTo s fd ⟨[u],[]⟩ [("script",u)])/\
    ∀base:de,(K w.params).In base->base.Ns cv mg->iF mg base->FnOk l.prog w (K w.params) mg base wG k fa fd ["script"] (uF (K w.params))):
  PySem.W.WalkO q e B y l.row.toRowW d [] (λf vs=>PySem.call f vs):=by
 refine Att2.attach_bits C n λw s9 aa mg mb fa o pm cd I a vs ns G Y ho hd cg J j i m L N=>?_;obtain⟨x,O⟩:=H w _ Y;obtain⟨fd,Q,U⟩:=F w mg fa _ x G.T.g J;refine GU x G.T.g G.T.b G.T.builtins G.T.nolimit G.T.bmain N j i m L E (λp hp=>?_) t (v w) U Q;obtain⟨h1,c,h2⟩:=r p hp;have A:=O p.1 h1;exact⟨A,((PySem.W.codeHd_of_K x<|h2 w).tab A).isCodeTable⟩
section
def xx {Y es:List dm}{p:Pos}{env:Env}:bb (.List Y p::es) env=(false,d3 (.List Y p) env)::bb es env:=rfl
def gx {Y:List dm}{p:Pos}{t:Option dm}{l:Nat}{env:Env}:ff (Expr.List Y p) t l env=pure false:=rfl
end
end
end DL
namespace DL
open PySem L2
def K8 (G:D->Ev->R Ev)(F:Ev->R Out)(d:D)(ρ:Ev):R Out:=match G d ρ with
 |.ok a=>F a
 |_=>.bad
@[simp]def fP (i:Nat)(F:Ev->R Out)(d:D)(ρ:Ev):K8 (λd ρ=>.ok (ρ.set i (Sl.v d))) F d ρ=F (ρ.set i (.v d)):=rfl
theorem sN (Iv:Ev->Prop):∀{ds:List D} {ρ:Ev},(∀d∈ds,∀ρ,Iv ρ->∃ρ2,K8 G F d ρ=.ok (.nx ρ2)/\Iv ρ2)->Iv ρ->∃ρ',M2 G F ds ρ=.ok (.nx ρ')/\Iv ρ'
 |[],ρ,_,h=>⟨ρ,rfl,h⟩
 |d::ds,ρ,b,h=>by
  obtain⟨ρ2,e,f⟩:=b d aAU ρ h;obtain⟨ρ',g,i⟩:=sN Iv (ds:=ds) (ρ:=ρ2) (λd j=>b d (aAe _ j)) f;unfold K8 at e;cases a:G d ρ with
  |ok k=>rw[a]at e;exact⟨ρ',by rw[M2,a];dsimp only at e⊢;rw[e];exact g,i⟩
  |ex x=>rw[a]at e;cases e
  |bad=>rw[a]at e;cases e
def yI (Iv:Ev->Prop)(a:∀d∈ds,∀ρ,Iv ρ->∃ρ2,K8 G F d ρ=.ok (.nx ρ2)/\Iv ρ2)(h0:Iv ρ)(b:∀ρ',Iv ρ'->L9 (f ρ')=.ok d):
  L9 (B5 (M2 G F ds ρ) f)=.ok d:=by
 obtain⟨ρ',e,h⟩:=sN Iv a h0;rw[e];exact b ρ' h
@[simp]def yw (G:D->Ev->R Ev)(F:Ev->R Out)(ρ:Ev):M2 G F [] ρ=.ok (.nx ρ):=rfl
def QC {α:Type}{a b:α}:(R.ok a=R.ok b)=(a=b):=by simp
class Bd (a:Int)(n:outParam Nat):Prop where
 h:bits a<=n
def l6 (h:bits a<=m)(b:m<=n):bits a<=n:=aAp h b
section
end
abbrev vd (v:G.V):D:=.tup [.int v.x,.int v.y,.int v.z]
def Sz (n:Nat)(v:G.V):Prop:=bits v.x<=n/\bits v.y<=n/\bits v.z<=n
def Sz.mono (h:Sz m v)(a:m<=n:=by decide):Sz n v:=⟨l6 h.1 a,l6 h.2.1 a,l6 h.2.2 a⟩
def Sz.sub (h:Sz n u)(h':Sz n v):Sz (n+1) (u-v):=⟨bits_sub h.1 h'.1,bits_sub h.2.1 h'.2.1,bits_sub h.2.2 h'.2.2⟩
def Sz.add (h:Sz n u)(h':Sz n v):Sz (n+1) (u+v):=⟨bits_add h.1 h'.1,bits_add h.2.1 h'.2.1,bits_add h.2.2 h'.2.2⟩
def Sz.cr (h:Sz m u)(h':Sz n v):Sz (m+n+1) (G.cr u v):=⟨bits_sub (bits_mul h.2.1 h'.2.2) (bits_mul h.2.2 h'.2.1),bits_sub (bits_mul h.2.2 h'.1) (bits_mul h.1 h'.2.2),bits_sub (bits_mul h.1 h'.2.1) (bits_mul h.2.1 h'.1)⟩
end DL
namespace M
open PySem L2 DL
abbrev pt (a b c:Int):D:=.tup [.int a,.int b,.int c]
abbrev WJ (n:Nat)(a b c:Int):Prop:=bits a<=n/\bits b<=n/\bits c<=n
def JS (k:List D->List D->R D):List D->R D
 |.lst Y::a=>k Y a
 |_=>.bad
def QH (k:List D->List D->R D):List D->R D
 |.tup Y::a=>k Y a
 |_=>.bad
def uK (k:Int->List D->R D):List D->R D
 |.int a::b=>k a b
 |_=>.bad
def X8 {k:Int->List D->R D}{ds:List D}{r:D}(h:uK k ds=.ok r):∃a e,ds=.int a::e/\k a e=.ok r:=by
 unfold uK at h;split at h
 .exact⟨_,_,rfl,h⟩
 .cases h
def qG (q:R D):List D->R D
 |[]=>q
 |_=>.bad
def pF (h:JS k ds=.ok r):∃Y e,ds=.lst Y::e/\k Y e=.ok r:=by
 unfold JS at h;split at h
 .exact⟨_,_,rfl,h⟩
 .cases h
def uM (h:QH k ds=.ok r):∃Y e,ds=.tup Y::e/\k Y e=.ok r:=by
 unfold QH at h;split at h
 .exact⟨_,_,rfl,h⟩
 .cases h
def D7 (h:qG q ds=.ok r):ds=[]/\q=.ok r:=by
 unfold qG at h;split at h
 .exact⟨rfl,h⟩
 .cases h
def v1 (k:Int->Int->Int->List D->R D):List D->R D:=QH λY e=>uK (λa=>uK λb=>uK λc=>qG (k a b c e)) Y
def v4 (k:Int->Int->Int->Int->List D->R D):List D->R D:=QH λY e=>uK (λa=>uK λb=>uK λc=>uK λd=>qG (k a b c d e)) Y
def v3 (k:Int->Int->Int->List D->R D):List D->R D:=QH λY e=>uK (λa=>uK λb=>uK λc _=>k a b c e) Y
def VT (h:v3 k ds=.ok r):∃a b c t e,ds=.tup (.int a::.int b::.int c::t)::e/\k a b c e=.ok r:=by obtain⟨Y,e,rfl,h⟩:=uM h;obtain⟨a,x,rfl,h⟩:=X8 h;obtain⟨b,y,rfl,h⟩:=X8 h;obtain⟨c,z,rfl,h⟩:=X8 h;exact⟨a,b,c,z,e,rfl,h⟩
def F8 (h:v1 k ds=.ok r):∃a b c e,ds=.tup [.int a,.int b,.int c]::e/\k a b c e=.ok r:=by obtain⟨Y,e,rfl,h⟩:=uM h;obtain⟨a,x,rfl,h⟩:=X8 h;obtain⟨b,y,rfl,h⟩:=X8 h;obtain⟨c,z,rfl,h⟩:=X8 h;obtain⟨rfl,h⟩:=D7 h;exact⟨a,b,c,e,rfl,h⟩
def VY (h:v4 k ds=.ok r):∃a b c d e,ds=.tup [.int a,.int b,.int c,.int d]::e/\k a b c d e=.ok r:=by obtain⟨Y,e,rfl,h⟩:=uM h;obtain⟨a,x,rfl,h⟩:=X8 h;obtain⟨b,y,rfl,h⟩:=X8 h;obtain⟨c,z,rfl,h⟩:=X8 h;obtain⟨d,w,rfl,h⟩:=X8 h;obtain⟨rfl,h⟩:=D7 h;exact⟨a,b,c,d,e,rfl,h⟩
def m6:List D->R D:=v1 λa b c=>v1 λd e f=>qG (.ok (pt (d-a) (e-b)<|f-c))
def w9:List D->R D:=v1 λa b c=>v1 λd e f=>qG (if WJ 20000000 a b c/\WJ 20000000 d e f then .ok (pt (b*f-c*e) (c*d-a*f)<|a*e-b*d)else .bad)
def k5:List D->R D:=v3 λa b c=>v1 λd e f=>qG (if WJ 50000000 a b c/\WJ 50000000 d e f then .ok (.int (a*d+b*e+c*f))else .bad)
@[simp]def XQ (P Q:G.V):m6 [vd P,vd Q]=.ok (vd (Q-P)):=rfl
def cA (a:Sz 20000000 u)(b:Sz 20000000 v):w9 [vd u,vd v]=.ok (vd (G.cr u v)):=kn ⟨a,b⟩
def iE (a:Sz 50000000 u)(b:Sz 50000000 v):k5 [vd u,vd v]=.ok (.int (G.b9 u v)):=kn ⟨a,b⟩
def rule (k:Int):Int:=7*k*k+10*k+3
def P64:Int:=10^64
def P34:Int:=10^34
def a3e:Int:=P64*P34
def sgn (x:Int):Int:=if 0<x then 1 else if x<0 then-1 else 0
def Z4:List D->R D:=v4 λa b c d=>v1 λx y z=>qG (if WJ 50000000 a b c/\WJ 50000000 x y z then .ok (.int (sgn<|a*x+b*y+c*z-d))else .bad)
def SF (e:WJ 50000000 a b c)(f:WJ 50000000 x y z):Z4 [.tup [.int a,.int b,.int c,.int d],pt x y z]=.ok (.int (sgn (a*x+b*y+c*z-d))):=kn ⟨e,f⟩
def uq (i:Nat)(ρ:Ev):Nat:=match ρ[i]? with
 |some (.v (.int b))=>b.natAbs+2
 |_=>0
def zA (d:bits a<=n)(f:bits b<=n):bits (aGI a b)<=n:=by
 refine uA ?_;have g:=EZ d;have h:=EZ f;have e:((aGI a b:Nat):Int).natAbs=aGI a b:=by simp
 rw[e];unfold aGI;rcases Nat.eq_zero_or_pos a.natAbs with z|z
 .rw[z,Nat.gcd_zero_left];exact h
 .exact aDu (Nat.gcd_le_left _ z) g
end M
namespace DL
open PySem PySem.Spec L2
open PyProof.Rows hiding St
section
variable [Tabs]in
end
theorem rT (Iv:List D->Ev->Prop)(b:∀d ds ρ,Iv (d::ds) ρ->∃ρ2,K8 G F d ρ=.ok (.nx ρ2)/\Iv ds ρ2):∀{ds:List D} {ρ:Ev},Iv ds ρ->∃ρ',M2 G F ds ρ=.ok (.nx ρ')/\Iv [] ρ'
 |[],ρ,h=>⟨ρ,rfl,h⟩
 |d::ds,ρ,h=>by
  obtain⟨ρ2,e,f⟩:=b d ds ρ h;obtain⟨ρ',g,i⟩:=rT Iv b f;unfold K8 at e;cases a:G d ρ with
  |ok j=>rw[a]at e;exact⟨ρ',by rw[M2,a];dsimp only at e⊢;rw[e];exact g,i⟩
  |ex x=>rw[a]at e;cases e
  |bad=>rw[a]at e;cases e
def Z1 (Iv:List D->Ev->Prop)(a:∀d ds ρ,Iv (d::ds) ρ->∃ρ2,K8 G F d ρ=.ok (.nx ρ2)/\Iv ds ρ2)(h0:Iv ds ρ)(b:∀ρ',Iv [] ρ'->L9 (f ρ')=.ok d):
  L9 (B5 (M2 G F ds ρ) f)=.ok d:=by
 obtain⟨ρ',e,h⟩:=rT Iv a h0;rw[e];exact b ρ' h
def yN {Post:Ev->Prop}(Iv:Nat->Ev->Prop)(b:∀n ρ,Iv (n+1) ρ->c ρ=.ok false\/(c ρ=.ok true/\∃ρ2,F ρ=.ok (.nx ρ2)/\Iv n ρ2))(a:∀ρ,¬Iv 0 ρ)(h0:Iv n ρ)(d:∀m ρ',Iv m ρ'->c ρ'=.ok false->Post ρ'):∃ρ2,R3 c F n ρ=.ok (.nx ρ2)/\Post ρ2:=by obtain⟨m,ρ',e,h,f⟩:=fE Iv b a n ρ h0;exact⟨ρ',e,d m ρ' h f⟩
end DL
namespace M
open PySem L2 DL
abbrev mJ (n:G.V)(d:Int):D:=.tup [.int n.x,.int n.y,.int n.z,.int d]
def G2:List D->R D:=v1 λa b c=>qG (.ok (.int (G.x6 ⟨a,b,c⟩)))
def BE (v:G.V):G2 [vd v]=.ok (.int (G.x6 v)):=rfl
def Sz3 (P Q R:G.V):Prop:=Sz 1000 P/\Sz 1000 Q/\Sz 1000 R
open Classical in
def R9:List D->R D:=v1 λa b c=>v1 λd e f=>v1 λg h i=>qG (
 if Sz3 ⟨a,b,c⟩ ⟨d,e,f⟩ ⟨g,h,i⟩/\G.cr ((⟨d,e,f⟩:G.V)-⟨a,b,c⟩) ((⟨g,h,i⟩:G.V)-⟨a,b,c⟩)≠0 then .ok (mJ (G.j4 ⟨a,b,c⟩ ⟨d,e,f⟩ ⟨g,h,i⟩).1 (G.j4 ⟨a,b,c⟩ ⟨d,e,f⟩ ⟨g,h,i⟩).2)else .bad)
def NM {P Q R:G.V}(h:Sz3 P Q R)(a:G.cr (Q-P) (R-P)≠0):R9 [vd P,vd Q,vd R]=.ok (mJ (G.j4 P Q R).1 (G.j4 P Q R).2):=kn ⟨h,a⟩
def GM (h:Sz n v):bits (G.x6 v:Nat)<=n:=by
 have e:((G.x6 v:Nat):Int)=aGI (aGI v.x v.y:Nat) v.z:=by simp[G.x6,aGI]
 rw[e];exact zA (zA h.1 h.2.1) h.2.2
def nA {a g:Int}(h:0<g):a.fdiv g=a/g:=Int.fdiv_eq_ediv_of_nonneg a (aAO h)
end M
namespace DL
open PySem PySem.Spec L2
open PyProof.Rows hiding St
variable [Tabs]
mutual
inductive HV (h:Heap):Value->D->Prop
 |int (i:Int) (t:Tok):HV h (.int i t) (.int i)
 |tup {a:Addr} {B:Array Value} {ds:List D} (p:IsTup h a B) (r:HVs h B.toList ds):HV h (.ref a) (.tup ds)
inductive HVs (h:Heap):List Value->List D->Prop
 |nil:HVs h [] []
 |cons {v:Value} {d:D} {vs:List Value} {ds:List D} (r:HV h v d) (t:HVs h vs ds):HVs h (v::vs) (d::ds)
end
mutual
def lA:D->Bool
 |.int _=>true
 |.tup Y=>bX Y
 |_=>false
def bX:List D->Bool
 |[]=>true
 |x::Y=>lA x&&bX Y
end
theorem fG:∀Y:List D,vW Y=Y.map n9
 |[]=>rfl
 |x::Y=>by rw[vW,fG Y];rfl
section
mutual
theorem HV.keeps (k:∀b o,h.get? b=some o->o.cls=.type "tuple"->h'.get? b=some o):∀{v:ae} {d:D},HV h v d->HV h' v d
 |_,_,.int i t=>.int i t
 |_,_,.tup p r=>.tup (by obtain⟨o,e,c,n,d⟩:=p;exact⟨o,k _ _ e c,c,n,d⟩) (HVs.keeps k r)
theorem HVs.keeps (k:∀b o,h.get? b=some o->o.cls=.type "tuple"->h'.get? b=some o):∀{v:List ae} {d:List D},HVs h v d->HVs h' v d
 |_,_,.nil=>.nil
 |_,_,.cons r t=>.cons (HV.keeps k r) (HVs.keeps k t)
end
mutual
theorem HV.inj:∀{v:ae} {d d':D},HV h v d->HV h v d'->d=d'
 |_,_,_,.int i t,.int _ _=>rfl
 |_,_,_,.tup p r,.tup f g=>by obtain⟨o,e,c,n,j⟩:=p;obtain⟨k,a,l,m,b⟩:=f;rw[e]at a;cases a;rw[j]at b;injection b with q _;subst q;rw[HVs.inj r g]
theorem HVs.inj:∀{v:List ae} {d d':List D},HVs h v d->HVs h v d'->d=d'
 |_,_,_,.nil,.nil=>rfl
 |_,_,_,.cons r t,.cons a b=>by rw[HV.inj r a,HVs.inj t b]
end
theorem HVs.length:∀{v:List ae} {d:List D},HVs h v d->v.length=d.length
 |_,_,.nil=>rfl
 |_,_,.cons _ t=>by simp[HVs.length t]
end
section
variable{prog:cu} {w:cz}
def PH (prog:cu)(w:cz)(h:de)(v:ae)(d:D):Prop:=∀(A:cy) (E:A3) (s:be) (Q:Int->be->Prop),s.heap=h->A.units+8*A7 d<df->(∀a,s.toks<=a->Q (n9 d) {s with toks:=a})->a9 (cq prog w) A (pyHash v) Q E s
mutual
theorem WR:∀{v:ae} {d:D},HV h v d->PH prog w h v d
 |_,_,.int i t=>λA E s Q L N q=>by exact(intKind prog w).pyHash (k:=i) (intKind_is _ _ _ _) (q _<|Nat.le_succ _)
 |_,_,.tup (a:=a) (B:=B) (ds:=ds) p r=>λA E s Q L N q=>by
  have fs:=LY r;subst L;obtain⟨o,O,U,n,Y⟩:=p;have u:s.TypeIs (.ref a) "tuple":=⟨o,O,U⟩;have H:A.units<df:=by lia
  rw[A7]at N;unfold pyHash;first|unfold pyHashByItsType|skip
  first|refine aAa (wpAny_cRoomFor_or (.inr H) ?_)|skip
  refine aAa (aBB u PySem.F.slot_tuple_hash.lookup ?_);show a9 _ _ (if(some (aGB "tuple.__hash__")==some Value.none)=true then _ else _) Q E s;rw[ku (by rw[aFI];exact aBc)];refine aAa (aBB u PySem.F.slot_tuple_hash.lookup ?_);show a9 _ _ (callSpecialIfBoundUnlessNone? (.ref a) "__hash__" _>>=_) Q E s;refine aAa (aDx u PySem.F.slot_tuple_hash<|aBe PySem.F.slot_tuple_hash u PySem.F.entry_tuple_hash ?_ (PySem.F.args_tuple_hash_1 _));show a9 _ _ (aDJ (.ref a)>>=_) _ _ s;refine aAa (wpAny_tupleItemsOf O Y ?_);refine aAa ?_;rw[<-aCv];refine aCh _
   (λrest (b:Array Int) I=>∃done left g,ds=done++left/\Paired (PH prog w s.heap) rest left/\b.toList=done.map n9/\s.toks<=g/\I={s with toks:=g})
   _ ?_ ?_ _ _ ⟨[],ds,s.toks,rfl,fs,rfl,aAg _,rfl⟩
  .rintro x rest b I ⟨done,left,g,l,J,y,xg,rfl⟩;cases J with
   |@cons _ d _ e h1 T=>
    refine aAa (h1 _ _ _ _ rfl ?_ λz f=>?_)
    .have:A7 d<=w8 ds:=by rw[l];exact lX (j:=done.length) (by simp)
     rw[l5];lia
    first
     |exact aAb ⟨done++[d],e,z,by simp[l],T,by simp[y],by(have:g<=z:=f);lia,rfl⟩
     |exact aAa (aAb (aAb ⟨done++[d],e,z,by simp[l],T,by simp[y],by(have:g<=z:=f;lia),rfl⟩))
  .rintro b I ⟨done,left,g,l,J,y,xg,rfl⟩;cases J;rw[aBR]at l;subst l;show a9 _ _ (retInt<|aAS b.toList) _ _ _;rw[y];refine wpAny_ret_mkInt ?_;show a9 _ _ (if(decide (-(2:Int)^63<=aAS (ds.map n9))&&decide (aAS (ds.map n9)<2^63))=true then _ else _) Q E _;have m:=q (g+1) (by lia);rw[n9,fG]at m;unfold reduceHash at m;by_cases C:(decide (-(2:Int)^63<=aAS (ds.map n9))&&decide (aAS (ds.map n9)<2^63))=true
   .rw[kn C];rw[kn C]at m;exact aAb m
   .rw[ku C];rw[ku C]at m;exact aAa (aDG<|aAb m)
theorem LY:∀{v:List ae} {d:List D},HVs h v d->Paired (PH prog w h) v d
 |_,_,.nil=>.nil
 |_,_,.cons r t=>.cons (WR r) (LY t)
end
mutual
theorem rM:∀{v u:ae} {d e:D} {A:cy},HV s.heap v d->HV s.heap u e->A.units+A7 d<df->SeqAt.EqAt A s v u (t7 d e)
 |_,_,_,_,A,.int i t,.int j h,_=>by simp only[t7];exact aFc _ _ _ _
 |_,_,_,_,A,.int i t,.tup p r,b=>by simp only[t7];exact aGj _ _ p (by lia)
 |_,_,_,_,A,.tup p r,.int j h,b=>by simp only[t7];exact aGk _ _ p (by lia)
 |_,_,_,_,A,.tup (a:=a) (ds:=ds) p r,.tup (a:=k) (ds:=l) g f,b=>by
  by_cases e:a=k
  .subst e;have:=HV.inj (.tup p r) (.tup g f);rw[this,M1];exact aDZ _
  .simp only[t7];rw[A7]at b;exact aFe e (iR (by simpa using p) (by simpa using g) r.length f.length (by lia) (JY r f (by rw[l5];lia))).1
theorem JY:∀{vs e:List ae} {ds es:List D} {A:cy},HVs s.heap vs ds->HVs s.heap e es->A.in1.units+w8 ds<df->mC A s vs e ds es
 |_,_,_,_,A,.nil,_,_=>λj u w a b=>by simp at a
 |_,_,_,_,A,.cons r t,.nil,_=>λj u w a b=>by simp at b
 |_,_,_,_,A,.cons (d:=d) (ds:=ds) r t,.cons (d:=i) (ds:=k) f g,h=>λj u w a b=>by
  rw[w8]at h;match j,a,b with
  |0,a,b=>simp only[aCz,aGG]at a b;subst a b;exact rM r f (by lia)
  |j+1,a,b=>simp only[aCA]at a b;exact JY t g (by lia) j u w a b
end
mutual
theorem W9:∀{d e:D},lA d=true->lA e=true->t7 d e=true->d=e
 |.int i,.int j,_,_,h=>by simp[t7]at h;rw[h]
 |.tup Y,.tup f,a,b,h=>by rw[lA]at a b;rw[t7]at h;rw[yH a b h]
 |.int _,.tup _,_,_,h=>by simp[t7]at h
 |.tup _,.int _,_,_,h=>by simp[t7]at h
 |.non,_,h,_,_=>by simp[lA]at h
 |.bl _,_,h,_,_=>by simp[lA]at h
 |.str _,_,h,_,_=>by simp[lA]at h
 |.lst _,_,h,_,_=>by simp[lA]at h
 |_,.non,_,h,_=>by simp[lA]at h
 |_,.bl _,_,h,_=>by simp[lA]at h
 |_,.str _,_,h,_=>by simp[lA]at h
 |_,.lst _,_,h,_=>by simp[lA]at h
theorem yH:∀{d e:List D},bX d=true->bX e=true->V9 d e=true->d=e
 |[],[],_,_,_=>rfl
 |[],_::_,_,_,h=>by simp[V9]at h
 |_::_,[],_,_,h=>by simp[V9]at h
 |x::Y,y::f,a,b,h=>by rw[bX,aAK]at a b;rw[V9,aAK]at h;rw[W9 a.1 b.1 h.1,yH a.2 b.2 h.2]
end
mutual
theorem HV.ok:∀{v:ae} {d:D},HV h v d->lA d=true
 |_,_,.int i t=>rfl
 |_,_,.tup p r=>by rw[lA];exact HVs.ok r
theorem HVs.ok:∀{v:List ae} {d:List D},HVs h v d->bX d=true
 |_,_,.nil=>rfl
 |_,_,.cons r t=>by rw[bX,HV.ok r,HVs.ok t];rfl
end
mutual
theorem gN:∀{v:ae} {d:D} (k:Nat),HV h v d->A7 d<k->∀(M:Model) (A:cy) (E:A3) (s:be) (Q:wJ),s.heap=h->Q true s->a9 M A (eqIsQuiet k v) Q E s
 |_,_,k,.int i t,_=>λM A E s Q m q=>by unfold eqIsQuiet;exact aAb q
 |_,_,k,.tup (a:=a) (B:=B) (ds:=ds) p r,e=>λM A E s Q m q=>by
  subst m;obtain⟨o,u,y,n,z⟩:=p;have x:s.TypeIs (.ref a) "tuple":=⟨o,u,y⟩;match k,e with
  |k+1,e=>
   rw[A7]at e;unfold eqIsQuiet;refine aAa (aBB x PySem.F.slot_tuple_eq.lookup ?_);show a9 _ _ (isInstance (.ref a) (.type "tuple")>>=_) _ _ s;refine aAa (aDj x isSubtype_tuple_tuple ?_);simp only[aDd,aAq,if_false];refine aAa (aBu u z ?_);refine aAa ?_;show a9 _ _ (forIn B _ _) _ _ s;rw[<-aCv];refine aCh _ (λrest r b=>r.1=none/\b=s/\∃f,HVs s.heap rest f/\w8 f<k) _ ?_ ?_ _ _ ⟨rfl,rfl,ds,r,by lia⟩
   .rintro v rest r b ⟨g,rfl,f,j,l⟩;cases j with
    |@cons _ d _ C j H=>rw[w8]at l;refine aAa (gN k j (by lia) M A E b _ rfl ?_);simp only[aDd,aAq,if_false];exact aAb ⟨rfl,rfl,C,H,by lia⟩
   .rintro⟨I,J⟩ b ⟨g,rfl,_⟩;simp only at g;subst g;exact aAb q
end
mutual
theorem fQ:∀{v:ae} {d:D} (k:Nat),HV h v d->A7 d<k->∀(M:Model) (A:cy) (E:A3) (s:be) (Q:wJ),s.heap=h->Q false s->a9 M A (ofAClassStatement k v) Q E s
 |_,_,k,.int i t,_=>λM A E s Q m q=>by unfold ofAClassStatement;exact aAb q
 |_,_,k,.tup (a:=a) (B:=B) (ds:=ds) p r,e=>λM A E s Q m q=>by
  subst m;obtain⟨o,u,x,n,y⟩:=p;have z:s.TypeIs (.ref a) "tuple":=⟨o,u,x⟩;match k,e with
  |k+1,e=>
   rw[A7]at e;unfold ofAClassStatement;refine aAa (aDT z ?_);dsimp only;rw[kn (by decide)];refine aAa (aAb ?_);simp only[aDd,aAq,if_false];refine aAa (aBu u y ?_);dsimp only;refine aAa ?_;show a9 _ _ (forIn B _ _) _ _ s;rw[<-aCv];refine aCh _ (λrest r b=>r.1=none/\b=s/\∃f,HVs s.heap rest f/\w8 f<k) _ ?_ ?_ _ _ ⟨rfl,rfl,ds,r,by lia⟩
   .rintro v rest r b ⟨g,rfl,f,j,l⟩;cases j with
    |@cons _ d _ C j H=>rw[w8]at l;refine aAa (fQ k j (by lia) M A E b _ rfl ?_);simp only[aAq,if_false];exact aAb ⟨rfl,rfl,C,H,by lia⟩
   .rintro⟨I,J⟩ b ⟨g,rfl,_⟩;simp only at g;subst g;exact aAb q
end
mutual
theorem pI:∀{v:ae} {d:D} (k:Nat),HV h v d->A7 d<k->∀(M:Model) (A:cy) (E:A3) (s:be) (Q:wJ),s.heap=h->Q true s->a9 M A (hashByValue k v) Q E s
 |_,_,k,.int i t,_=>λM A E s Q m q=>by unfold hashByValue;exact aAb q
 |_,_,k,.tup (a:=a) (B:=B) (ds:=ds) p r,e=>λM A E s Q m q=>by
  subst m;obtain⟨o,u,x,n,y⟩:=p;have z:s.TypeIs (.ref a) "tuple":=⟨o,u,x⟩;match k,e with
  |k+1,e=>
   rw[A7]at e;unfold hashByValue;refine aAa (aBB z PySem.F.slot_tuple_hash.lookup ?_);dsimp only;refine aAa (aBu u y ?_);refine aAa ?_;show a9 _ _ (forIn B _ _) _ _ s;rw[<-aCv];refine aCh _ (λrest r b=>r.1=none/\b=s/\∃f,HVs s.heap rest f/\w8 f<k) _ ?_ ?_ _ _ ⟨rfl,rfl,ds,r,by lia⟩
   .rintro v rest r b ⟨g,rfl,f,j,l⟩;cases j with
    |@cons _ d _ C j H=>rw[w8]at l;refine aAa (pI k j (by lia) M A E b _ rfl ?_);simp only[aDd,aAq,if_false];exact aAb ⟨rfl,rfl,C,H,by lia⟩
   .rintro⟨I,J⟩ b ⟨g,rfl,_⟩;simp only at g;subst g;exact aAb q
end
def jS {α:Type}{M:Model}{A:cy}{E:A3}{s:be}{Q:α->be->Prop}{c:Prop}[Decidable c]{a b:Sem α}(d:c->a9 M A a Q E s)(e:¬c->a9 M A b Q E s):a9 M A (if c then a else b) Q E s:=by
 by_cases h:c
 .rw[kn h];exact d h
 .rw[ku h];exact e h
def ZM {M:Model}{A:cy}{E:A3}{s:be}{Q:wJ}{x:ae}{d:D}(k:HV s.heap x d)(l:A7 d<8)(f:List ae)(n:∀y∈f,∃e,HV s.heap y e/\A7 e<8)(q:Q false s):a9 M A (searchCouldBeSeen x f) Q E s:=by
 unfold searchCouldBeSeen;refine aAa ?_;refine aCh _ (λrest r a=>r.1=none/\a=s/\∀y∈rest,y∈f) _ ?_ ?_ _ _ ⟨rfl,rfl,λy h=>h⟩
 .rintro y rest r a ⟨g,rfl,i⟩;obtain⟨e,m,b⟩:=n y (i y (by simp));dsimp only;refine jS (λ_=>?_) (λ_=>?_)
  .exact aAb ⟨rfl,rfl,λz j=>i z (aAe _ j)⟩
  .refine aAa (gN 8 k l M A E a _ rfl ?_);simp only[aDd,aAq,if_false];refine aAa (gN 8 m b M A E a _ rfl ?_);simp only[aDd,aAq,if_false];refine aAa (fQ 8 k l M A E a _ rfl ?_);simp only[aAq,if_false];refine aAa (fQ 8 m b M A E a _ rfl ?_);simp only[aAq,if_false];exact aAb ⟨rfl,rfl,λz j=>i z (aAe _ j)⟩
 .rintro⟨o,p⟩ a ⟨g,rfl,_⟩;simp only at g;subst g;exact aAb q
end
def EV (h:de)(e:Int×ae)(d:D):Prop:=HV h e.2 d/\e.1=n9 d
theorem B4 {α β:Type}{F:α->β->Prop}:∀{l:List α} {m:List β} {i:Nat} {a:α},Paired F l m->l[i]?=some a->∃b,m[i]?=some b/\F a b
 |_,_,_,_,.nil,h=>by simp at h
 |_,_,0,_,.cons r _,h=>by simp at h;subst h;exact⟨_,rfl,r⟩
 |_,_,i+1,a,.cons _ t,h=>by obtain⟨b,d,e⟩:=B4 (i:=i) t (by simpa using h);exact⟨b,by simpa using d,e⟩
theorem cH {α β:Type}{F:α->β->Prop}:∀{l:List α} {m:List β} {i:Nat} {b:β},Paired F l m->m[i]?=some b->∃a,l[i]?=some a/\F a b
 |_,_,_,_,.nil,h=>by simp at h
 |_,_,0,_,.cons r _,h=>by simp at h;subst h;exact⟨_,rfl,r⟩
 |_,_,i+1,a,.cons _ t,h=>by obtain⟨b,d,e⟩:=cH (i:=i) t (by simpa using h);exact⟨b,by simpa using d,e⟩
theorem fX {α β:Type}{F:α->β->Prop}:∀{l:List α} {m:List β},Paired F l m->l.length=m.length
 |_,_,.nil=>rfl
 |_,_,.cons _ t=>by simp[fX t]
section
variable{es:Array (Int×ae)}
def gI (K:ST.SOk t es.toList):t.fits es.size=true:=by
 have a:=K.len;have d:=K.room;have b:=K.tab.nod;unfold aGC SetTable.fill;rw[b];simp at a⊢
 lia
theorem kO (ho:s.heap.get? S=some o)(hd:o.data=.set es ep t)(K:ST.SOk t es.toList)(B:t.mask%2=1)(P:Paired (EV s.heap) es.toList ds)(O:HV s.heap (.ref x) (.tup Y))(C:A7 (.tup Y)<8)(yb:∀e∈ds,A7 e<8)(hT:∀e∈ds,∃H,e=.tup H)
  (hu:A.units+16<df) (hf:ST.U0 t (n9 (.tup Y)) n0) {Q:SetFound->be->Prop} (g:D.tup Y∈ds->Q (.there none) s) (b:D.tup Y∉ds->Q (.free (ST.m4 t.mask (n9 (.tup Y)) n0).j false) s):
  ∀(a n:Nat) (T:Option SetTable.Probe),T.getD (t.probeStart (n9 (.tup Y)))=ST.m4 t.mask (n9 (.tup Y)) n->n<=n0->n0-n<a->
   (∀m<n,∀(i:Nat),t.place[i]?=some (ST.m4 t.mask (n9 (.tup Y)) m).j->ds[i]?≠some (.tup Y))->a9 (cq prog w) A (setSearchFrom S (.ref x) (n9 (.tup Y)) true a T) Q E s
 |0,n,T,_,_,h,_=>by lia
 |a+1,n,T,ia,hn,hfu,I=>by
  unfold setSearchFrom;refine aAa (aCm ho hd (gI K) ?_);dsimp only;refine jS (λz=>?_) (λ_=>?_)
  .unfold SetTable.gaveWay at z;simp at z;lia
  rw[ia];obtain⟨U,a1,a2,a3,a4⟩:=ST.OD K.tab (λi=>(es[i]?.map (·.1)).getD 0) (n9<|.tup Y) hf n hn;generalize hg:t.probe _ (n9<|.tup Y) (ST.m4 t.mask (n9<|.tup Y) n)=pm;rcases a4 with⟨en,e⟩|⟨ao,i,u,hh,e⟩
  .have ep:pm=_:=hg.symm.trans e;rw[ep];dsimp only;refine aAb (b λJ=>?_);obtain⟨i,u⟩:=aDA.mp J;obtain⟨⟨L,v⟩,he,h1,h2⟩:=cH P u;obtain⟨j,hj,td⟩:=ST.RF K.len he;dsimp only at h2;have hr:=K.reach _ td;dsimp only at hr;rw[h2]at hr;obtain⟨m,J,em⟩:=ST.Reach.before hf (by rw[<-aAE]at hj;exact aAr hj) hr;by_cases z:m<n
   .exact I m z i (by rw[em];exact hj) u
   .obtain⟨f,dg,ai⟩:=a3 m (by lia) (by lia);have:f=i:=by have g:=ST.K6 K.tab dg;have b:=ST.K6 K.tab hj;rw[em]at g;rw[g]at b;injection b
    subst this;refine ai ?_;show(es[f]?.map (·.1)).getD 0=_;rw[<-aAE,he];exact h2
  .have ep:pm=_:=hg.symm.trans e;rw[ep];dsimp only;have N:i<es.size:=by
    have:=(aCj.mp u).1;have h1:=K.len;simp at h1
    lia
   have l:es[i]?=some es[i]:=aAD N;obtain⟨di,d,L,q⟩:=B4 P (show es.toList[i]?=some es[i]by rw[aAE];exact l);obtain⟨H,rfl⟩:=hT di (aAr d);have go:a9 (cq prog w) A (do
     let some (_,y):=es[i]?|unsupported "internal:set-entry"
     let equal<-gv [y] (eqBool y<|.ref x)
     let(es',_,t')<-setState S
     if true&&equal then return .there none
     let some same:=t'.sameMemory t.moves t.mask|unsupported "set.changed-during-lookup:is-the-new-block-at-the-old-address"
     let WQ<-match(if same then t'.slot (ST.m4 t.mask (n9<|.tup Y) U).j else .empty)with
      |.live f=>match es'[f]? with
       |some (_,y')=>do pure (if<-isSame y' y then some f else none)
       |none=>pure none
      |_=>pure none
     match WQ with
     |none=>rule "set.search.anew";setSearchFrom S (.ref x) (n9<|.tup Y) true a none
     |some f=>if equal then return .there (some f)else setSearchFrom S (.ref x) (n9<|.tup Y) true a (some<|ST.m4 t.mask (n9<|.tup Y)<|U+1)) Q E s:=by
    rw[l];generalize he:es[i]=en at*
    obtain⟨hn,y⟩:=en;dsimp only at L q⊢;refine aAa (aAL (rM L O (by have:=yb _ (aAr d);lia) prog w E _ ?_));refine aAa (aCm ho hd (gI K) ?_);dsimp only;cases hq:t7 (.tup H) (.tup Y)with
    |true=>rw[kn (show(true&&true)=true from rfl)];have:D.tup H=.tup Y:=W9 L.ok O.ok hq;rw[this]at d;exact aAb (g<|aAr d)
    |false=>
     rw[ku (by simp)];have hsm:t.sameMemory t.moves t.mask=some true:=by unfold SetTable.sameMemory;rw[kn (by simp)]
     rw[hsm];dsimp only;rw[kn rfl,ST.K6 K.tab u];dsimp only;rw[l];dsimp only;cases L with
     |tup p r=>
      refine aAa (wpAny_isSame_ref_self ?_);refine aAa (aAb ?_);rw[kn rfl];dsimp only;rw[ku (by simp)];refine kO ho hd K B P O C yb hT hu hf g b a (U+1) _ rfl (by lia) (by lia) λm J i2 zu hz=>?_;by_cases z:m<n
      .exact I m z i2 zu hz
      .by_cases z2:m=U
       .subst z2;have:i2=i:=by have g:=ST.K6 K.tab zu;have b:=ST.K6 K.tab u;rw[g]at b;injection b
        subst this;rw[d]at hz;have:D.tup H=.tup Y:=Option.some.inj hz;rw[this,M1]at hq;cases hq
       .obtain⟨f,dg,ai⟩:=a3 m (by lia) (by lia);have:f=i2:=by have g:=ST.K6 K.tab dg;have b:=ST.K6 K.tab zu;rw[g]at b;injection b
        subst this;obtain⟨⟨h0,v0⟩,he0,hv0,hh0⟩:=cH P hz;refine ai ?_;show(es[f]?.map (·.1)).getD 0=_;rw[<-aAE,he0];exact hh0
   refine jS (λ_=>?_) (λ_=>go);refine aAa (ZM O C _ (λy hy=>?_) ?_)
   .obtain⟨e',qo,rfl⟩:=aAk.mp hy;rw[Array.toList_filter]at qo;have J:=(aAQ.mp qo).1;obtain⟨k,hk⟩:=aDA.mp J;obtain⟨dk,hdk,hvk,_⟩:=B4 P hk;exact⟨dk,hvk,yb _ (aAr hdk)⟩
   .rw[ku (by simp)];exact go
def uQ (m n:Nat):Prop:=(m=7/\n<=4)\/(m=31/\n<=18)\/(m=127/\n<=76)
def uQ.odd (h:uQ m n):m%2=1:=by rcases h with⟨rfl,_⟩|⟨rfl,_⟩|⟨rfl,_⟩<;>rfl
def Keeps (h0 h:de):Prop:=∀b o,h0.get? b=some o->h.get? b=some o
structure SetAt (L:Bool)(h0 h:Heap)(S:Addr)(ds:List D):Prop where
 ex:∃(o:Obj) (es:Array (Int×Value)) (ep:Nat) (t:SetTable),h.get? S=some o/\o.cls=.type "set"/\o.dict=none/\o.slots=#[]/\o.data=.set es ep t/\ST.SOk t es.toList/\uQ t.mask es.size/\Paired (EV h0) es.toList ds/\t.led=L/\t.plain=true
 nd:ds.Nodup
def W3 {α β:Type}{F:α->β->Prop}:∀{l b:List α} {m:List β},b.Perm l->Paired F l m->∃a,a.Perm m/\Paired F b a:=λ{l b m} p=>by
 induction p generalizing m with
 |nil=>intro h;exact⟨m,.refl _,h⟩
 |cons x _ f=>
  intro h;cases h with
  |cons r t=>obtain⟨a,g,i⟩:=f t;exact⟨_::a,g.cons _,.cons r i⟩
 |swap x y l=>
  intro h;cases h with
  |cons r t=>
   cases t with
   |cons j k=>exact⟨_,.swap _ _ _,.cons j (.cons r k)⟩
 |trans _ _ d e=>intro h;obtain⟨v,n,o⟩:=e h;obtain⟨q,s,u⟩:=d o;exact⟨q,s.trans n,u⟩
theorem dD {α β:Type}{F G:α->β->Prop}(i:∀a b,F a b->G a b):∀{l:List α} {m:List β},Paired F l m->Paired G l m
 |_,_,.nil=>.nil
 |_,_,.cons r t=>.cons (i _ _ r) (dD i t)
theorem nJ {α β:Type}{F:α->β->Prop}{a:α}{b:β}(r:F a b):∀{l:List α} {m:List β} (p:Nat),Paired F l m->Paired F (l.take p++a::l.drop p) (m.take p++b::m.drop p)
 |_,_,0,h=>.cons r h
 |_,_,p+1,.nil=>.cons r .nil
 |_,_,p+1,.cons d t=>.cons d (nJ r p t)
def NJ {α:Type}(a:α)(l:List α)(p:Nat):(l.take p++a::l.drop p).Perm (a::l):=by have h:=List.perm_middle (a:=a) (l₁:=l.take p) (l₂:=l.drop p);rw[aFS]at h;exact h
def wV {α β:Type}{M:Model}{Q:α->be->Prop}{c:Prop}[Decidable c]{a:Sem β}{k:β->Sem α}(b:β)(e:∀d:β->be->Prop,d b s->a9 M A a d E s)(h:a9 M A (k b) Q E s):a9 M A (if c then a>>=k else pure b>>=k) Q E s:=
 jS (λ_=>aAa (e _ h)) (λ_=>aAa (aAb h))
def kM (h:de)(S:cp)(f:Obj->Obj):Heap.SameBut S h (h.update S f):=⟨by simp[Heap.size_update],λb a=>aAx _ _ (aBV a)⟩
def rQ {h:de}{S:cp}{o:Obj}{es es':Array (Int×ae)}{ep:Nat}{t t':gk}(b:h.get? S=some o)(a:o.data=.set es ep t):(h.update S (aEA es' t')).get? S=some {o with data:=.set es' (ep+1) t'}:=by
 have e:aEA es' t' o={o with data:=.set es' (ep+1) t'}:=by obtain⟨c,d,f,g⟩:=o;cases f<;>simp at a;obtain⟨rfl,rfl,rfl⟩:=a;rfl
 rw[aAV _ b (by rw[e];rfl),e]
def ez {L:Bool}{h0:de}{Q:wJ}(hS:SetAt L h0 s.heap S ds)(kp:Keeps h0 s.heap)(B:HV h0 (.ref x) (.tup Y))(C:A7 (.tup Y)<8)(yb:∀e∈ds,A7 e<8)(hT:∀e∈ds,∃ys,e=.tup ys)(hu:A.units+128<df)(hn:ds.length<76)
  (q1:D.tup Y∈ds->∀tk,s.toks<=tk->Q false {s with toks:=tk})
  (q2:D.tup Y∉ds->∀h' tk au,s.toks<=tk->Heap.SameBut S s.heap h'->SetAt L h0 h' S au->au.Perm (.tup Y::ds)->Q true {s with heap:=h',toks:=tk}):a9 (cq prog w) A (setAdd S (.ref x)) Q E s:=by
 obtain⟨⟨o,es,ep,t,H,hc,zv,ym,I,K,mk,P0,lp0⟩,nd⟩:=hS;have hx:HV s.heap (.ref x) (.tup Y):=B.keeps λb o e _=>kp b o e;have P:Paired (EV s.heap) es.toList ds:=dD (λe d r=>⟨r.1.keeps λb o e _=>kp b o e,r.2⟩) P0;have hsz:es.size=ds.length:=by have:=fX P;simpa using this
 unfold setAdd;refine aAL (aAa (WR hx A E s _ rfl (by lia) λtk xg=>?_));unfold setAddHashed setAddHashedIn;refine aAL (aAa<|aCm (s:={s with toks:=tk}) H I (gI K) ?_);dsimp only;rw[show byScan (.ref x) es=false from rfl];simp only[aAq,if_false];obtain⟨n0,hf⟩:=ST.CK K.full K.room (n9<|.tup Y);refine aAa (kO (s:={s with toks:=tk}) (n0:=n0) H I K mk.odd P hx C yb hT (by lia) hf (λn=>?_) (λn=>?_) 100000 0 none rfl (aAX _) ?_ (λm n=>by lia))
 .dsimp only;exact aAb (q1 n tk xg)
 .dsimp only;refine aAa (aCm (s:={s with toks:=tk}) H I (gI K) ?_);dsimp only;refine wV true (λT q=>pI 8 hx C _ _ _ _ _ rfl q) ?_;rw[kn rfl];have qc:t.place.size+1<=t.mask:=by have:=K.len;simp at this;rcases mk with⟨a,k⟩|⟨a,k⟩|⟨a,k⟩<;>lia
  have p:=ST.YF K (x:=.ref x) hf qc;have el:=ST.fB es (t.put (ST.m4 t.mask (n9<|.tup Y) n0).j).2 (n9 (.tup Y),aDC x);have U:(t.put (ST.m4 t.mask (n9<|.tup Y) n0).j).1.led=L/\(t.put (ST.m4 t.mask (n9<|.tup Y) n0).j).1.plain=true:=lp0;have em:(t.put (ST.m4 t.mask (n9<|.tup Y) n0).j).1.mask=t.mask:=rfl;rw[<-el]at p;have J:Paired (EV h0) (aGJ es (t.put (ST.m4 t.mask (n9<|.tup Y) n0).j).2 (n9 (.tup Y),aDC x)).toList (ds.take (t.put (ST.m4 t.mask (n9<|.tup Y) n0).j).2++.tup Y::ds.drop (t.put (ST.m4 t.mask (n9<|.tup Y) n0).j).2):=by rw[el];exact nJ ⟨B,rfl⟩ _ P0
  have N:=NJ (D.tup Y) ds (t.put (ST.m4 t.mask (n9<|.tup Y) n0).j).2;generalize hds2:ds.take (t.put (ST.m4 t.mask (n9<|.tup Y) n0).j).2++.tup Y::ds.drop (t.put (ST.m4 t.mask (n9<|.tup Y) n0).j).2=oo at J N;generalize hes2:aGJ es (t.put (ST.m4 t.mask (n9<|.tup Y) n0).j).2 (n9 (.tup Y),aDC x)=h at p J⊢;generalize ht2:(t.put (ST.m4 t.mask (n9<|.tup Y) n0).j).1=g at p em U⊢;have ou:oo.Nodup:=N.nodup_iff.mpr (aAG.mpr ⟨n,nd⟩);have i:h.size=es.size+1:=by
   have h1:=fX J;have h2:=N.length_eq;simp at h1 h2
   lia
  have bf:h.size<=sizeLine:=by rw[i,aFB];lia
  refine aAa (wpAny_storeSet_of (s:={s with toks:=tk}) H I ?_ bf);have jn:=rQ (es':=h) (t':=g) H I;have O:=kM s.heap S (aEA h g);have l:g.fill=h.size:=by have h1:=p.len;have h2:=p.tab.nod;unfold SetTable.fill;rw[h2];simp at h1⊢;lia
  refine jS (λxh=>?_) (λxh=>?_)
  .
   have tf:g.fill*5>=g.mask*3:=by
    have:g.tooFull=true:=by simpa using xh
    simpa[aGS]using this
   rw[l,em,i]at tf;obtain⟨M,hM,hM1,u⟩:∃M,SetTable.sizeAbove (SetTable.grown<|es.size+1)=M+1/\ST.lT (M+1)/\uQ M (es.size+1):=by
    rcases mk with⟨a,k⟩|⟨a,k⟩|⟨a,k⟩
    .have:es.size=4:=by lia
     rw[this];exact⟨31,by decide,ST.YD,.inr (.inl ⟨rfl,by lia⟩)⟩
    .have:es.size=18:=by lia
     rw[this];exact⟨127,by decide,ST.SG,.inr (.inr ⟨rfl,by lia⟩)⟩
    .lia
   unfold setRelay;refine aAa (aAa<|aCm (s:={s with heap:=s.heap.update S (aEA h g),toks:=tk}) jn rfl (gI p) ?_);dsimp only;rw[hM];refine jS (λz=>?_) (λ_=>?_)
   .exfalso;rcases u with⟨a,_⟩|⟨a,_⟩|⟨a,_⟩<;>(subst a;exact absurd z (by rw[aFB];decide))
   obtain⟨y,f,r1,r2,r3,r4,r5,r6,r7,r8,r9⟩:=ST.OB (finger:=g.finger) (moves:=g.movedTo M) (led:=g.led) (plain:=g.plain) hM1 h (by rw[i];rcases u with⟨a,k⟩|⟨a,k⟩|⟨a,k⟩<;>lia);have er:g.relaid (h.map (·.1)) (SetTable.grown<|es.size+1)=some (y,f):=by unfold SetTable.relaid;rw[hM];exact r1
   rw[er];have hre:∀{T:Array (Int×ae)×gk->be->Prop} {s':be},T (f.filterMap (h[·]?),y) s'->a9 (cq prog w) A (do
     let es':=f.filterMap (h[·]?)
     if es'.size !=h.size then unsupported "internal:set-table-lost-an-element"
     pure (es',y)) T E s':=λ{T s'} qq=>by
    dsimp only;rw[ku (by simp[r2])];exact aAb qq
   refine aAa (hre ?_);dsimp only;generalize hes3:f.filterMap (h[·]?)=v at r2 r3 r4⊢;refine wpAny_storeSet_of (s:={s with heap:=s.heap.update S (aEA h g),toks:=tk}) jn rfl ?_ (by rw[r2];exact bf);refine aAb ?_;have ho3:=rQ (es':=v) (t':=y) jn rfl;have sb3:=kM (s.heap.update S<|aEA h g) S (aEA v y);obtain⟨ds3,p3,P5⟩:=W3 r3 J;exact q2 n _ tk ds3 xg (O.trans sb3) ⟨⟨_,v,_,y,ho3,hc,zv,ym,rfl,r4,by rw[r5,r2,i];exact u,P5,by rw[r7];exact U.1,by rw[r8];exact U.2⟩,p3.nodup_iff.mpr ou⟩ (p3.trans N)
  .refine aAb ?_;refine q2 n _ tk oo xg O ⟨⟨_,h,_,g,jn,hc,zv,ym,rfl,p,?_,J,U⟩,ou⟩ N;have tf:¬g.fill*5>=g.mask*3:=λz=>xh (by simp[aGS,z]);rw[l,em,i]at tf;rw[em,i];rcases mk with⟨a,k⟩|⟨a,k⟩|⟨a,k⟩
   .exact .inl ⟨a,by lia⟩
   .exact .inr (.inl ⟨a,by lia⟩)
   .exact .inr (.inr ⟨a,by lia⟩)
 .have:=hf.1;have n:t.mask<=127:=by rcases mk with⟨a,_⟩|⟨a,_⟩|⟨a,_⟩<;>lia
  lia
end
section
variable{prog:cu} {w:cz} {A:cy} {R:Result->be->Prop} {I:cp} {fp wr:List cp} {G:Array GenState->Array GenState->Prop} {n:Nat} {P:Nat->ae->Prop} {St:Nat->be->Prop} {h0:de}
def ZC (h0:de)(v:ae)(d:D):Prop:=∃a Y,v=.ref a/\d=.tup Y/\A7 d<8/\HV h0 v d
def KB {L:Bool}(W:WalksS prog w A.in1 I fp wr G n P St)(S:cp)(jo:S∉fp)(hS0:h0.get? S=none)(hw0:∀b∈wr,h0.get? b=none)
  (val:Nat->D) (y:∀i v,P i v->ZC h0 v (val i)) (vc:∀i<n,A7 (val i)<8/\∃ys,val i=.tup ys) {U:List D} (hU:∀i<n,val i∈U) (f:U.length<=75) (hu:A.units+200<df):
  ∀(k i:Nat) (s:be),n-i=k->i<=n->St i s->Keeps h0 s.heap->(∃ds,SetAt L h0 s.heap S ds/\∀d,d∈ds↔∃j<i,val j=d)->
   (∀s',Moved (S::wr) G s s'->(∃ds,SetAt L h0 s'.heap S ds/\∀d,d∈ds↔∃j<n,val j=d)->R (.ok (.ret .none)) s')->
   gy (cq prog w) A (.builtin "set.update.loop" ⟨[.ref S,.ref I],[]⟩) R s:=by
 have vh:S∉wr:=λh=>jo (W.sub _ h);have gc:∀b∈wr,b∈S::wr:=λb f=>aAe _ f;intro k;induction k with
 |zero=>
  intro i s hk hi ia B hS N;have O:i=n:=by omega
  subst O;refine aBs F.entry_set_update_loop ?_;rw[aAY F.plain_set_update_loop _];show a9 _ A.in1 (fo (.ref I)>>=_) _ _ s;refine aAa (W.done s _ _ ia λs' l=>?_);show a9 _ A.in1 (ret Value.none) _ _ s';refine aAb (N s' (l.mono gc) ?_);obtain⟨ds,⟨⟨o,es,ep,t,ho,r⟩,Q⟩,p⟩:=hS;exact⟨ds,⟨⟨o,es,ep,t,l.heap S _ vh ho,r⟩,Q⟩,p⟩
 |succ k ih=>
  intro i s hk hi ia B hS N;have ao:i<n:=by omega
  refine aBs F.entry_set_update_loop ?_;rw[aAY F.plain_set_update_loop _];show a9 _ A.in1 (fo (.ref I)>>=_) _ _ s;refine aAa (W.item i s _ _ ao ia λv s' hP ib l=>?_);obtain⟨ds,⟨⟨o,es,ep,t,ho,r⟩,Q⟩,p⟩:=hS;have gg:SetAt L h0 s'.heap S ds:=⟨⟨o,es,ep,t,l.heap S _ vh ho,r⟩,Q⟩;have q:Keeps h0 s'.heap:=λb ob e=>l.heap b ob (λz=>by rw[hw0 b z]at e;cases e) (B b ob e);obtain⟨a,Y,rfl,T,C,hv⟩:=y i v hP;rw[T]at C hv;show a9 _ A.in1 (gv [aDC a] (setAdd S<|.ref a)>>=_) _ _ s';have g:∀e∈ds,A7 e<8/\∃ys,e=.tup ys:=λe E=>by obtain⟨j,H,ej⟩:=(p e).mp E;rw[<-ej];exact vc j (by omega)
  refine aAa (aAL (ez gg q hv C (λe E=>(g e E).1) (λe E=>(g e E).2) (by rw[l5];omega) (by letI:DecidableEq D:=λa b=>aDe _;have:=ST.P3 (m:=U) Q (λd hd=>by obtain⟨j,H,e⟩:=(p d).mp hd;rw[<-e];exact hU j (by omega));omega) (λO tk J=>?_)<|λhni h' tk au J hsb hS2 pm=>?_))
  .
   refine aAb ⟨aBz F.plain_set_update_loop _,ih (i+1) _ (by omega) ao (W.frame _ s' _ _ ib J λb f o e=>e) q ⟨ds,gg,λd=>?_⟩ λu ip xi=>?_⟩
   .rw[p];constructor
    .rintro⟨j,H,e⟩;exact⟨j,by omega,e⟩
    .rintro⟨j,H,e⟩;by_cases z:j=i
     .subst z;rw[T]at e;rw[e]at O;exact(p d).mp O
     .exact⟨j,by omega,e⟩
   .exact N u (aDR W.gtrans ((l.mono gc).then_heap J λb o f e=>e) ip) xi
  .have x:∀b,b≠S->h'.get? b=s'.heap.get? b:=λb f=>hsb.2 b f;refine aAb ⟨aBz F.plain_set_update_loop _,ih (i+1) _ (by omega) ao (W.frame _ s' _ _ ib J λb f o e=>?_) (λb o e=>?_) ⟨au,hS2,λd=>?_⟩ λu ip xi=>?_⟩
   .rw[x b (λz:b=S=>jo (by rw[<-z];exact f))];exact e
   .show h'.get? b=some o;rw[x b (λz=>by subst z;rw[hS0]at e;cases e)];exact q b o e
   .rw[pm.mem_iff,aAd,p];constructor
    .rintro(rfl|⟨j,H,e⟩)
     .exact⟨i,by omega,T⟩
     .exact⟨j,by omega,e⟩
    .rintro⟨j,H,e⟩;by_cases z:j=i
     .subst z;rw[T]at e;exact .inl e.symm
     .exact .inr ⟨j,by omega,e⟩
   .refine N u (aDR W.gtrans ((l.mono gc).then_heap J λb o f e=>?_) ip) xi;rw[x b (λz:b=S=>f (by rw[z];exact aAU))];exact e
end
section
variable{prog:cu} {w:cz} {A:cy} {E:A3} {s:be}
abbrev lN (led:Bool):Obj:={cls:=.type "set",dict:=none,data:=.set #[] 0 (.fresh 0 0 led)}
def JN (h0 h:de)(S:cp)(led:Bool)(e:h.get? S=some (lN led)):SetAt led h0 h S []:=by
 refine⟨⟨_,#[],0,.fresh 0 0 led,e,rfl,rfl,rfl,rfl,⟨⟨λi k a=>?_,λj b=>?_,rfl⟩,ST.kj,rfl,?_,λe d=>?_⟩,.inl ⟨rfl,aAX _⟩,.nil,rfl,rfl⟩,aDl⟩
 .exact absurd a (by show¬i<0;omega)
 .exact absurd b (by show¬j∈[];simp)
 .show 0<=7;omega
 .exact absurd d (by show¬e∈[];simp)
def wL (a:ae){Q₁:A3}(h:Q₁ (.ref s.heap.objs.size) {s with heap:=s.heap.push (lN (!w.params.followText "set-order"))}):
  gy (cq prog w) A (.call (.builtin "set.__new__") ⟨[.type "set",a],[]⟩) (wants Q₁ E) s:=by
 refine codeAny_of_tree ?_;show a9 _ A.in1 (do checkBuiltinCall "set.__new__" ⟨[.type "set",a],[]⟩;again (.builtin "set.__new__" ⟨[.type "set",a],[]⟩)) _ _ s;refine aAa (aFD (F.newCall_set_1 a)<|aAb ⟨aBz F.plain_set_new _,aBs F.entry_set_new ?_⟩);rw[aAY F.plain_set_new _];unfold Builtin.«set.__new__» Builtin.Frozenset.newClass;have b:=sub_set_self;obtain⟨e,g,d,f,os⟩:=s;dsimp only
 wp_walk
 refine aFJ (aAb ?_);dsimp only;simp only[newObj];exact aAa (wpAny_alloc<|aAb<|aAb h)
def yB {h0:de}(m:Keeps h0 s.heap){l:cp}{its:Array ae}{val:Nat->D}{Q:A3}(hh:A.handled=none)(hl:s.heap.IsList l its)
  (n:∀(i:Nat) (v:ae),its[i]?=some v->ZC h0 v (val i)) (vc:∀i<its.size,A7 (val i)<8/\∃ys,val i=.tup ys) {U:List D} (hU:∀i<its.size,val i∈U) (g:U.length<=75) (hu:A.units+300<df)
  (h:∀(h':de) (tk:Nat) (ds:List D),SetAt (!w.params.followText "set-order") h0 h' s.heap.objs.size ds->(∀d,d∈ds↔∃j<its.size,val j=d)->Keeps s.heap h'->Q (.ref s.heap.objs.size) {s with heap:=h',toks:=tk}):
  a9 (cq prog w) A (call (.type "set") [.ref l]) Q E s:=by
 obtain⟨c,tl,Y⟩:=PySem.F.called_set.mro;have C:=PySem.F.called_set.made;have gc:=PySem.F.called_set.sub;refine wpAny_call (codeAny_of_tree ?_);show a9 _ _ (callAny (.type "set") _) _ _ _;refine aAb ⟨Code.quiet_builtin _ (by decide+kernel),aBs PySem.F.entry_type_call ?_⟩;rw[Around.under_plain (weight_type_call_type "set" [.ref l] []) rfl];have h1:=PySem.F.called_set.notType;have h2:=PySem.F.called_set.canCreate;have hct:=PySem.F.typeCall_set_1 (.ref l);repeat(any_goals(first|assumption|wp_step))
 refine aDS (wL (.ref l) (E:=E) (Q₁:=λob aa=>∃led:Bool,led=!w.params.followText "set-order"/\ob=.ref s.heap.objs.size/\aa={s with heap:=s.heap.push (lN led)}) ⟨_,rfl,rfl,rfl⟩) λr aa p=>?_;cases r with
 |error e=>exact p
 |ok fl=>
  cases fl with
  |next=>exact p.elim
  |brk=>exact p.elim
  |cont=>exact p.elim
  |ret ob=>
   obtain⟨led,eL,rfl,rfl⟩:=p;have hS:(s.heap.push<|lN led).get? s.heap.objs.size=some (lN led):=aAn _ rfl;have hT:Shared.TypeIs {s with heap:=s.heap.push (lN led)} (.ref s.heap.objs.size) "set":=⟨_,hS,rfl⟩;have hli:=PySem.F.called_set.init.lookup;have hbi:=PySem.F.called_set.init.bind (.ref s.heap.objs.size);repeat(any_goals(first|assumption|wp_step))
   refine aDS (codeAny_call_builtin (R:=wants (λr ba=>r=.none/\∃h' tk ds,ba={s with heap:=h',toks:=tk}/\SetAt (!w.params.followText "set-order") h0 h' s.heap.objs.size ds/\(∀d,d∈ds↔∃j<its.size,val j=d)/\Keeps s.heap h') E) PySem.F.called_set.init.plain PySem.F.entry_set_init<|check_set_init_1 hT ?_) λrh ba a=>?_
   .obtain⟨ol,q,ye,nl,t⟩:=hl;obtain⟨ocls,k,H,f⟩:=ol;simp only at ye t;subst ye;subst t;have u:(s.heap.push<|lN led).get? l=some {cls:=.type "list",dict:=k,data:=.seq its nl,slots:=f}:=aAc _ q;have hsls:=PySem.F.sub_list_set;have hslf:=PySem.F.sub_list_frozenset;have ai:(aCu "list"==aCu "dict")=false:=by decide
    have ua:(s.heap.push<|lN led).IsList l its:=⟨_,u,rfl,nl,rfl⟩;unfold Builtin.«set.__init__» noKeywords Builtin.Frozenset.updateFrom;generalize I:pyIter=PI
    wp_walk
    subst I;refine aDH ua (aAa<|wpAny_runValue ?_);have x:l<s.heap.objs.size:=aAf q;have J:A.in1.in1.in1.handled=none:=by simp[hh]
    have y:l≠(s.heap.push<|lN led).objs.size:=by rw[aBt];exact aAl (aBi x)
    have jo:s.heap.objs.size∉[(s.heap.push<|lN led).objs.size,l]:=by rw[aBt];simp only[aAd,aAJ,or_false,not_or];exact⟨aAl (aDh _),aDc x⟩
    have qe:∀b,s.heap.objs.size<=b->h0.get? b=none:=λb g=>by
     cases e:h0.get? b with
     |none=>rfl
     |some o=>have:=m b o e;rw[aEx g]at this;cases this
    refine KB (h0:=h0) ((Walks.list J _ l y its).toS) s.heap.objs.size jo (qe _<|aAg _) (λb g=>?hw) val n vc hU g (by show A.units+1+1+200<df;omega) (its.size-0) 0 _ (by omega) (aAX _) ⟨⟨_,aAn _ rfl,rfl,rfl⟩,(ua.push _)⟩ (λb o e=>aAc _ (aAc _<|m b o e)) ⟨[],JN _ _ _ led (aAc _ hS),λd=>?he⟩ ?hR
    case he=>exact⟨λz=>(by cases z),by rintro⟨j,hj,_⟩;exact(by omega)⟩
    case hw=>
     have il:b=(s.heap.push<|lN led).objs.size:=by simpa using g
     subst il;rw[aBt];exact qe _ (Nat.le_succ _)
    case hR=>
     rintro⟨h',g',d',yi,L⟩ B ⟨ds,N,O⟩;have eg:g'=s.gens:=B.gens;have ed:d'=s.drawn:=B.drawn;have eo:L=s.os:=B.os;subst eg;subst ed;subst eo;refine aAb ?_;show a9 _ _ (ret Value.none) _ _ _;refine aAb ⟨rfl,h',yi,ds,rfl,(eL▸N),O,λb o e=>?_⟩;have g:=aAf e;have xr:b≠(s.heap.push<|lN led).objs.size:=by rw[aBt];exact aAl (aBi g)
     exact B.heap b o (by simp only[aAd,aAJ,or_false,not_or];exact⟨aAl g,xr⟩) (aAc _<|aAc _ e)
   .cases rh with
    |error e=>exact a
    |ok T=>
     cases T with
     |next=>exact a.elim
     |brk=>exact a.elim
     |cont=>exact a.elim
     |ret r=>
      obtain⟨rfl,h',tk,ds,rfl,N,O,jm⟩:=a;repeat(any_goals(first|assumption|wp_step))
      exact h _ _ _ N O jm
end
end DL
namespace SI
open PySem
theorem DU {α:Type}(next:Nat->Nat):∀(a k:Nat) (left:List α) (b:Array α),left.length=a->(aGR next a k left b).toList.Perm (b.toList++left)
 |0,k,left,b,h=>by have:left=[]:=List.eq_nil_of_length_eq_zero h;subst this;simp[aGR]
 |a+1,k,left,b,h=>by
  unfold aGR;have e:0<left.length:=by lia
  have d:next k%left.length<left.length:=aEe _ e
  rw[aAj d];dsimp only;refine(DU next a (k+1) _ _ (by rw[List.length_eraseIdx_of_lt d];lia)).trans ?_;rw[Array.toList_push,aDI];refine List.Perm.append_left _ ?_;have:∀(l:List α) (i:Nat) (h:i<l.length),(l[i]::l.eraseIdx i).Perm l:=by
   intro l;induction l with
   |nil=>intro i h;simp at h
   |cons x l f=>
    intro i h;cases i with
    |zero=>simp
    |succ i=>
     have g:i<l.length:=by simpa using h
     rw[aFC,aFO];exact(List.Perm.swap _ _ _).trans ((f i g).cons _)
  exact this left _ d
def rP {α:Type}(next:Nat->Nat)(Y:Array α):(kc next Y).toList.Perm Y.toList:=by unfold kc;simpa using DU next Y.size 0 Y.toList #[] (by simp)
def walkL (w:cz)(S:cp)(es:Array (Int×ae))(ep:Nat):List (Int×ae):=if w.params.followText "set-order"=true then(kc (w.params.setOrder S ep) es).toList else es.toList
def walkL_perm (w:cz)(S:cp)(es:Array (Int×ae))(ep:Nat):(walkL w S es ep).Perm es.toList:=by
 unfold walkL;split
 .exact rP _ _
 .exact aGp _
def slotAt (w:cz)(t:gk):Nat->Nat
 |0=>0
 |i+1=>if w.params.followText "set-order"=true then 0 else t.place.getD i 0+1
def N9 (h:de)(w:cz)(it S:cp)(t:gk)(i n ep:Nat):Prop:=
 h.get? it=some {cls:=.type "set_iterator",dict:=none,data:=.fields #[eh (slotAt w t i),eh i,.ref S,eh n,eh ep],slots:=#[]}
def IsSet (h:de)(S:cp)(es:Array (Int×ae))(ep:Nat)(t:gk):Prop:=∃o,h.get? S=some o/\o.cls=.type "set"/\o.data=.set es ep t
namespace F
def entry_set_iter:entryFor table "set.__iter__"=some Builtin.«frozenset.__iter__»:=entryFor_alias (id':= "frozenset.__iter__") (by kernel_rfl) rfl (by decide+kernel) (by kernel_rfl)
def slot_seti_next:Slot "set_iterator" "__next__" "set_iterator.__next__":=
 .of (owner:= "set_iterator") (n:= "__next__") (by rw[aDF,aCs];kernel_rfl) (by decide+kernel) (by decide+kernel) (by decide+kernel)
  (by first|exact .inl (by decide+kernel)|exact .inr (by decide+kernel)) (by rw[aFk];kernel_rfl)
def entry_seti_next:entryFor table "set_iterator.__next__"=some Builtin.«set_iterator.__next__»:=entryFor_of_tree (by kernel_rfl)
def args_seti_next (a:ae):argsOk "set_iterator.__next__" ⟨[a],[]⟩:=by unfold argsOk;kernel_rfl
def slot_seti_iter:Slot "set_iterator" "__iter__" "set_iterator.__iter__":=
 .of (owner:= "set_iterator") (n:= "__iter__") (by rw[aDF,aCs];kernel_rfl) (by decide+kernel) (by decide+kernel) (by decide+kernel)
  (by first|exact .inl (by decide+kernel)|exact .inr (by decide+kernel)) (by rw[aFk];kernel_rfl)
def entry_seti_iter:entryFor table "set_iterator.__iter__"=some Builtin.«dict_keyiterator.__iter__»:=entryFor_alias (id':= "dict_keyiterator.__iter__") (by kernel_rfl) rfl (by decide+kernel) (by kernel_rfl)
def args_seti_iter (a:ae):argsOk "set_iterator.__iter__" ⟨[a],[]⟩:=by unfold argsOk;kernel_rfl
end F
section
variable{s:be} {t:gk}
def GN {α:Type}{M:Model}{Q:α->be->Prop}{c:Prop}[Decidable c]{a b:Sem α}(h:c)(k:a9 M A a Q E s):a9 M A (if c then a else b) Q E s:=by rw[kn h];exact k
def yJ (es:Array (Int×ae))(a:t.plain=true):(!t.plain&&decide (es.size>1))=false:=by rw[a];rfl
def CS {Q:wJ}(h:Q (w.params.followText "set-order") s):a9 (cq prog w) A setsByText Q E s:=by unfold setsByText;exact aAa (aFJ<|aAb h)
def ML {Q:A3}(f:IsSet s.heap S es ep t)(b:t.fits es.size=true)(g:t.plain=true)
  (h:Q (.ref s.heap.objs.size) {s with heap:=s.heap.push {cls:=.type "set_iterator",dict:=none,data:=.fields #[eh (slotAt w t 0),eh (0:Nat),.ref S,eh es.size,eh ep],slots:=#[]}}):
  a9 (cq prog w) A (pyIter (.ref S)) Q E s:=by
 obtain⟨o,a,i,d⟩:=f;have e:s.TypeIs (.ref S) "set":=⟨o,a,i⟩;refine aEh e PySem.F.slot_set_iter (aBe PySem.F.slot_set_iter e F.entry_set_iter ?_ (PySem.F.args_set_iter_1 _));unfold Builtin.«frozenset.__iter__»;show a9 _ _ (aFE "__iter__" ⟨[.ref S],[]⟩>>=_) _ _ s;have j:aFE "__iter__" ⟨[.ref S],[]⟩=pure S:=rfl;rw[j];refine aAa (aAb ?_);unfold Builtin.Frozenset.sizeOf;refine aAa (aAa<|aEI a d b<|aAb ?_);refine aAa ?_;unfold setDrawn;refine aAa (aCm a d b<|aAa<|CS<|aAb ?_);show a9 _ _ (if(!w.params.followText "set-order"&&(!t.plain&&decide (es.size>1)))=true then _ else _) _ _ s;rw[yJ es g,aGn];simp only[aAq,if_false];refine aAa (aAb<|aAa<|wpAny_setEpoch_of a d b ?_);refine aAa (aBb<|aAb ⟨_,rfl, "set_iterator",_,⟨_,aAn _ rfl,rfl⟩,F.slot_seti_next.lookup,?_⟩);simpa[slotAt]using h
def DG (a:ST.GP Y):aDO Y 0=0:=by
 obtain⟨d,b,e⟩:=ST.bJ a 0;by_cases h:aDO Y 0=0
 .exact h
 .exact absurd (b 0 (by lia) (by lia)) (by lia)
def BV (b:ST.GP Y)(a:i<Y.size):aDO Y (Y.getD i 0+1)=i+1:=by
 have e:Y.getD i 0=Y[i]:=by simp[aFo,a]
 rw[e];obtain⟨h,f,g⟩:=ST.bJ b (Y[i]+1);rcases Nat.lt_trichotomy (aDO Y<|Y[i]+1) (i+1)with q|q|q
 .have:=g i a (by lia);lia
 .exact q
 .have d:i+1<Y.size:=by lia
  have:=f (i+1) d q;have:=b i (i+1) a d (by lia)
  lia
def BI (t:gk)(a:ST.GP t.place)(b:¬w.params.followText "set-order"=true)(d:i<=t.place.size):aDO t.place (slotAt w t i)=i:=by
 cases i with
 |zero=>exact DG a
 |succ i=>show aDO t.place (if w.params.followText "set-order"=true then 0 else t.place.getD i 0+1)=i+1;rw[ku b];exact BV a (by lia)
def zP {Q:Option (ae×Nat)->be->Prop}(p:IsSet s.heap S es ep t)(d:t.fits es.size=true)(q:t.plain=true)(r:¬w.params.followText "set-order"=true->t.led=true)(u:ST.GP t.place)(H:i<=es.size)(f:∀e,(walkL w S es ep)[i]?=some e->Q (some (e.2,slotAt w t (i+1))) s)(k:i=es.size->Q none s):a9 (cq prog w) A (setNext S (slotAt w t i) i ep) Q E s:=by
 obtain⟨o,l,I,m⟩:=p;have v:t.place.size=es.size:=by simp only[aGC,aAK,beq_iff_eq,decide_eq_true_eq]at d;exact d.1
 unfold setNext;refine aAa (aCm l m d ?_);refine aAa (CS ?_);by_cases a:w.params.followText "set-order"=true
 .rw[kn a,ku (by simp)];unfold setWalk;refine aAa (aAa<|aCm l m d<|aAa<|CS ?_);rw[kn a];refine aAa (aFJ<|aAb ?_);refine aAb ?_;have h:(walkL w S es ep)=(kc (w.params.setOrder S ep) es).toList:=by unfold walkL;rw[kn a]
  have j:slotAt w t i=slotAt w t (i+1):=by
   cases i with
   |zero=>show 0=if w.params.followText "set-order"=true then 0 else _;rw[kn a]
   |succ i=>show(if w.params.followText "set-order"=true then 0 else _)=if w.params.followText "set-order"=true then 0 else _;rw[kn a,kn a]
  rw[h,aAE]at f;show Q (((kc (w.params.setOrder S ep) es)[i]?).map λe=>(e.2,slotAt w t i)) s;cases e:(kc (w.params.setOrder S ep) es)[i]? with
  |some x=>rw[j];exact f x e
  |none=>
   have n:(kc (w.params.setOrder S ep) es).size=es.size:=by have:=(rP (w.params.setOrder S ep) es).length_eq;simpa using this
   have:=Array.getElem?_eq_none_iff.mp e;exact k (by lia)
 .rw[ku a];have y:¬(!t.plain&&decide (es.size>1))=true:=by rw[q];simp
  show a9 _ _ (if(!t.plain&&decide (es.size>1))=true then _ else _) _ _ s;rw[ku y];show a9 _ _ ((if(!t.led&&!es.isEmpty)=true then _ else _)>>=_) _ _ s;rw[ku (by rw[r a];simp)];refine aAa (aAb<|aAb ?_);rw[BI t u a (by lia)];have h:(walkL w S es ep)=es.toList:=by unfold walkL;rw[ku a]
  rw[h,aAE]at f;by_cases z:i<es.size
  .have g:es[i]?=some es[i]:=aAD z;have b:i<t.place.size:=by lia
   have B:t.place[i]?=some t.place[i]:=aAD b;have:=f _ g;rw[g,B];have C:slotAt w t (i+1)=t.place[i]+1:=by show(if w.params.followText "set-order"=true then 0 else t.place.getD i 0+1)=_;rw[ku a];simp[aFo,b]
   rw[C]at this;exact this
  .have g:es[i]?=none:=aCk (by lia);rw[g];exact k (by lia)
def Q0 (h:N9 s.heap w it S t i n ep):s.TypeIs (.ref it) "set_iterator":=⟨_,h,rfl⟩
def NE {Q:Option ae->be->Prop}(a:N9 s.heap w it S t i es.size ep)(b:IsSet s.heap S es ep t)(d:t.fits es.size=true)(j:t.plain=true)(k:¬w.params.followText "set-order"=true->t.led=true)(l:ST.GP t.place)(m:i<es.size)(h:∀e h',(walkL w S es ep)[i]?=some e->N9 h' w it S t (i+1) es.size ep->Heap.SameBut it s.heap h'->Q (some e.2) {s with heap:=h'}):a9 (cq prog w) A (fo (.ref it)) Q E s:=by
 have f:=Q0 a;obtain⟨o,n,z,p⟩:=id b;unfold fo;refine aAa (aDY (aBP (name:=aCD "__next__") f F.slot_seti_next
  (aBe F.slot_seti_next f F.entry_seti_next ?_ (F.args_seti_next _))))
 refine aAa (aAb ?_);refine aAa (aGq a rfl ?_);show a9 _ _ (setEntries S>>=_) _ _ s;refine aAa (aEI n p d ?_);rw[ku (by simp)];show a9 _ _ (setNext S (aEJ (slotAt w t i:Int)) (aEJ (i:Int)) (aEJ (ep:Int))>>=_) _ _ s;rw[aBH,aBH,aBH];refine aAa (zP b d j k l (aDB m) (λe q=>?_) λe=>by lia);show a9 _ _ (setField (.ref it) 0 (eh<|slotAt w t<|i+1)>>=_) _ _ s;refine aAa (aCd a (by simp) λr u v=>?_);show a9 _ _ (setField (.ref it) 1 (eh<|(i:Int)+1)>>=_) _ _ _;refine aAa (aCd (s:={s with heap:=r}) u (by simp) λg x y=>?_);refine aAb ⟨_,rfl,aAb (h e g q ?_ (v.trans y))⟩;have:g.get? it=some _:=x;unfold N9;rw[this];simp
def US {Q:Option ae->be->Prop}(k:A.handled=none)(d:N9 s.heap w it S t es.size es.size ep)(f:IsSet s.heap S es ep t)(g:t.fits es.size=true)(l:t.plain=true)(n:¬w.params.followText "set-order"=true->t.led=true)(p:ST.GP t.place)(h:∀h',Heap.ExtBut it s.heap h'->Q none {s with heap:=h'}):a9 (cq prog w) A (fo (.ref it)) Q E s:=by
 have i:=Q0 d;obtain⟨o,q,x,r⟩:=id f;unfold fo;refine aAa (aDY (aBP (name:=aCD "__next__") i F.slot_seti_next
  (aBe F.slot_seti_next i F.entry_seti_next ?_ (F.args_seti_next _))))
 refine aAa (aAb ?_);refine aAa (aGq d rfl ?_);show a9 _ _ (setEntries S>>=_) _ _ s;refine aAa (aEI q r g ?_);rw[ku (by simp)];show a9 _ _ (setNext S (aEJ (slotAt w t es.size:Int)) (aEJ (es.size:Int)) (aEJ (ep:Int))>>=_) _ _ s;rw[aBH,aBH,aBH];refine aAa (zP f g l n p (aAg _) (λe u=>?_) λ_=>?_)
 .have v:=(walkL_perm w S es ep).length_eq;have j:=(aAy.mp u).1;rw[v]at j;simp at j
 .show a9 _ _ (setField (.ref it) 2 .none>>=_) _ _ s;refine aAa (aGr d rfl (by simp) ?_);show a9 _ _ (newExc (.type "StopIteration") []>>=_) _ _ _;refine aAa ?_;simp only[newExc,newTuple];refine aAa (aBb ?_ (by size_fits));refine aAa (m:=firstArgMember _ _) (aFD (a:=Value.none) (by first|rfl|(simp only[firstArgMember];rfl)) ?_);refine aBb ?_ (by size_fits);simp only[raiseNew];refine aAa (wpAny_handled ?_);rw[show A.in1.handled=none from k];refine aAa (aAb<|wpAny_throw ?_);refine aAa (aDj (T:= "StopIteration") (b:=true) ⟨_,aAn _ rfl,rfl⟩ aGs ?_);exact aAb (h _<|((aEK ..).extBut.push _).push _)
def cK (x:IsSet h S es ep t)(e:∀o,h.get? S=some o->h'.get? S=some o):IsSet h' S es ep t:=let⟨o,a,r⟩:=x;⟨o,e o a,r⟩
end
section
def JM (p:A.handled=none)(I S:cp)(r:S≠I)(g:t.fits es.size=true)(j:t.plain=true)(k:¬w.params.followText "set-order"=true->t.led=true)(l:ST.GP t.place):
  Walks prog w A I [I,S] [I] es.size (λi v=>∃e,(walkL w S es ep)[i]?=some e/\v=e.2) (λi h=>N9 h w I S t i es.size ep/\IsSet h S es ep t)where
 sub:=λb a=>by simp at a;simp[a]
 frame:=λ_ _ _ st m=>⟨m I (by simp) _ st.1,cK st.2 λo e=>m S (by simp) o e⟩
 item:=λi s Q E u st d=>NE st.1 st.2 g j k l u λe f x y n=>d e.2 f s.toks ⟨e,x,rfl⟩ ⟨y,cK st.2 λo q=>(n.2 S r).trans q⟩ λb o a q=>(n.2 b (λz=>a (by simp[z]))).trans q
 done:=λs Q E st d=>US p st.1 st.2 g j k l λf B=>d f s.toks λb o a q=>B b o (λz=>a (by simp[z])) q
 self:=λi s Q E st d=>by refine aEh (Q0 st.1) F.slot_seti_iter (aBe F.slot_seti_iter (Q0 st.1) F.entry_seti_iter ?_ (F.args_seti_iter _));refine aAa (aAb<|aAb ⟨_,rfl, "set_iterator",_,Q0 st.1,F.slot_seti_next.lookup,d⟩)
def collect_set {Q:List ae->be->Prop}(hh:A.handled=none)(hS:IsSet s.heap S es ep t)(hf:t.fits es.size=true)(hp:t.plain=true)(hl:¬w.params.followText "set-order"=true->t.led=true)(ha:ST.GP t.place)(hn:es.size<=sizeLine)
  (hQ:∀h' tk,(∀b o,s.heap.get? b=some o->h'.get? b=some o)->Q ((walkL w S es ep).map (·.2)) {s with heap:=h',toks:=tk}):a9 (cq prog w) A (collect (.ref S)) Q E s:=by
 obtain⟨I,f,j,hdS⟩:=id hS;have hT:s.TypeIs (.ref S) "set":=⟨I,f,j⟩;have C:S<s.heap.objs.size:=aAf f;unfold collect;refine aAa (wpAny_runValue<|aBs PySem.F.entry_proto_collect ?_);rw[aAY PySem.F.plain_proto_collect _];show a9 _ A.in1 (newList []>>=λl=>again (.builtin "list.__iadd__" ⟨[l,.ref S],[]⟩)) _ _ s;refine aAa (aBb ?_);refine aAb ⟨aBz PySem.F.plain_list_iadd _,aBs PySem.F.entry_list_iadd ?_⟩;rw[aAY PySem.F.plain_list_iadd _];generalize k:s.heap.push {cls:=.type "list",data:=.seq ([]:List ae).toArray}=a;have g:∀b o,s.heap.get? b=some o->a.get? b=some o:=λb o e=>by rw[<-k];exact aAc _ e
 have d:a.objs.size=s.heap.objs.size+1:=by rw[<-k,aBt]
 have J:a.get? s.heap.objs.size=some {cls:=.type "list",data:=.seq ([]:List ae).toArray}:=by rw[<-k];exact aAn _ rfl
 have p:IsSet a S es ep t:=cK hS λo e=>g S o e;have L:Shared.TypeIs {s with heap:=a} (.ref S) "set":=⟨I,g _ _ f,j⟩;have q:aDb (.ref s.heap.objs.size) (.ref S)=false:=by simp[aDb,aDc C]
 show a9 _ A.in1 (aCe (.ref s.heap.objs.size) (.ref S)<|.ref s.heap.objs.size) _ _ _;unfold aCe;refine aAa (aDT L ?_);rw[ku (by rw[q];decide)];refine aAa (ML (s:={s with heap:=a}) p hf hp ?_);refine aAa (aAL ?_);generalize r:a.push {cls:=.type "set_iterator",dict:=none,data:=.fields #[eh (slotAt w t 0),eh (0:Nat),.ref S,eh es.size,eh ep],slots:=#[]}=n;have h:∀b o,a.get? b=some o->n.get? b=some o:=λb o e=>by rw[<-r];exact aAc _ e
 have N:N9 n w a.objs.size S t 0 es.size ep:=by rw[<-r];exact aAn _ rfl
 have O:IsSet n S es ep t:=cK p λo e=>h S o e;have m:Shared.TypeIs {s with heap:=n} (.ref S) "set":=⟨I,h _ _ (g _ _ f),j⟩;have u:=h _ _ J;unfold aCH;refine aAa (aBB m PySem.F.slot_set_len.lookup ?_)
 (generalize hid:("set.__len__":String)=v;(fail_if_success (clear hid v));wp_delta;rw[show splitId v=some ("set", "__len__")from by subst hid;decide+kernel];subst hid)
 refine aAa (aDj (b:=true) m (by rw[aFk];kernel_rfl) ?_);rw[ku (by decide)];refine GN (by decide+kernel) ?_
 .refine aAa (aDT m<|aAb ?_);rw[kn (by decide)];show a9 _ A.in1 (rule "list.extend.makes-room">>=λ_=>aFP (.ref s.heap.objs.size)>>=λ_=>again (.builtin "list.extend.loop" ⟨[.ref s.heap.objs.size,.ref a.objs.size,.ref s.heap.objs.size],[]⟩)) _ _ _
  refine aAa (aDG ?_);refine aAa ?_;show a9 _ A.in1 (gW s.heap.objs.size (·.push .none)>>=λ_=>gW s.heap.objs.size (·.pop)) _ _ _;refine aAa (aBD u rfl ?_);have x:=aAV (aBG (·.push Value.none)) u rfl;refine aBD x rfl ?_;have T:=aAV (aBG (·.pop)) x rfl;have U:∀b o,b≠s.heap.objs.size->n.get? b=some o->((n.update s.heap.objs.size (aBG (·.push Value.none))).update s.heap.objs.size (aBG (·.pop))).get? b=some o:=
   λb o y e=>(aAx _ _<|aBV y).trans ((aAx _ _<|aBV y).trans e)
  have z:a.objs.size≠s.heap.objs.size:=by rw[d];lia
  have W:=(JM (prog:=prog) (w:=w) (A:=A.in1) (by simp[hh]) a.objs.size S (by rw[d];exact aAl (aBi C)) (es:=es) (ep:=ep) (t:=t) hf hp hl ha).toS;refine aAb ⟨aBz PySem.F.plain_extend_loop _,codeAny_extend_loopS W hn _ (by simp only[aAd,aAJ,or_false,not_or];exact⟨aBV z,aDc C⟩) _ es.size 0 _ _ _ rfl (aAX _) ⟨U _ _ z N,cK O λo e=>U S o (aAl C) e⟩ T (ItemsOf.nil _) λB jr c' H gg Y=>?_⟩;show a9 _ A (load s.heap.objs.size>>=_) _ _ B;refine aAa (wpAny_load gg ?_);refine aAb ?_;have g0:B.gens=s.gens:=H.gens;have d0:B.drawn=s.drawn:=H.drawn;have o0:B.os=s.os:=H.os;have ea:jr.toList=(walkL w S es ep).map (·.2):=by
   have om:=(walkL_perm w S es ep).length_eq;apply aEf;intro i;rw[aAF,aAE];by_cases hi:i<es.size
   .have zu:i<jr.size:=by rw[Y.1];exact hi
    obtain⟨e,he,hv⟩:=Y.2 i _ (aAD zu);rw[he,aAD zu,hv];rfl
   .rw[aCk (by rw[Y.1];lia),aEr (by rw[om];simp;lia)];rfl
  obtain⟨h',g',d',yi,os'⟩:=B;subst g0 d0 o0;rw[ea];refine hQ h' yi λb o e=>?_;have y:b≠s.heap.objs.size:=aAl (aAf e);have xr:b≠a.objs.size:=by rw[d];exact aAl (aBi<|aAf e)
  exact H.heap b o (by simp only[aAd,aAJ,or_false,not_or];exact⟨y,xr⟩) (U b o y<|h _ _<|g _ _ e)
end
end SI
namespace DL
open PySem PySem.Spec L2
open PyProof.Rows hiding St
def MT:D->Bool
 |.int _=>true
 |_=>false
def P9:D->Bool
 |.tup Y=>!Y.isEmpty&&Y.all MT
 |_=>false
def intD:D->Int
 |.int i=>i
 |_=>0
def flat:D->List Int
 |.tup Y=>Y.map intD
 |_=>[]
theorem NH:∀{Y:List D},Y.all MT=true->Y=(Y.map intD).map D.int
 |[],_=>rfl
 |x::Y,h=>by
  simp only[aGA,aAK]at h;cases x with
  |int i=>show D.int i::Y=D.int i::(Y.map intD).map D.int;rw[<-NH h.2]
  |_=>cases h.1
def aR (h:P9 d=true):flat d≠[]/\d=.tup ((flat d).map .int):=by
 cases d with
 |tup Y=>simp only[P9,aAK,Bool.not_eq_true',List.isEmpty_eq_false_iff]at h;refine⟨by simpa[flat]using h.1,?_⟩;show D.tup Y=D.tup ((Y.map intD).map D.int);rw[<-NH h.2]
 |_=>cases h
def cT (h:P9 d=true)(h':P9 e=true)(q:flat d=flat e):d=e:=by rw[(aR h).2,(aR h').2,q]
theorem sS:∀l:List Int,bX (l.map D.int)=true
 |[]=>rfl
 |i::l=>by show(true&&bX (l.map D.int))=true;rw[sS l];rfl
def A0 (h:P9 d=true):lA d=true:=by rw[(aR h).2];exact sS _
def mG (h:P9 d=true):A7 d<8:=by
 rw[(aR h).2];have:∀l:List Int,w8 (l.map D.int)=0:=λl=>by
  induction l with
  |nil=>rfl
  |cons i l a=>show max 0 (w8<|l.map D.int)=0;rw[a];rfl
 show w8 _+1<8;rw[this];lia
def qL (d:D):List D->List D
 |[]=>[d]
 |x::Y=>if flat d=flat x then x::Y else if HT.lexLt (flat d) (flat x)=true then d::x::Y else x::qL d Y
def bV (ds:List D):List D:=ds.foldr qL []
def QJ (ds:List D):Prop:=ds.Pairwise λx y=>HT.lexLt (flat x) (flat y)=true
theorem gP:∀{Y:List D},e∈qL d Y->e=d\/e∈Y
 |[],h=>by rcases aAd.mp h with h|h;exact .inl h;cases h
 |x::Y,h=>by
  unfold qL at h;split at h
  .exact .inr h
  .split at h
   .rcases aAd.mp h with h|h
    .exact .inl h
    .exact .inr h
   .rcases aAd.mp h with h|h
    .exact .inr (by rw[h];exact .head _)
    .rcases gP h with h|h
     .exact .inl h
     .exact .inr (.tail _ h)
theorem yK:∀{Y:List D},e∈Y->e∈qL d Y
 |x::Y,h=>by
  unfold qL;split
  .exact h
  .split
   .exact .tail _ h
   .rcases aAd.mp h with h|h
    .rw[h];exact .head _
    .exact .tail _ (yK h)
theorem yY (a:P9 d=true):∀{Y:List D},(∀x∈Y,P9 x=true)->d∈qL d Y
 |[],_=>.head _
 |x::Y,h=>by
  unfold qL;split
  .rename_i q;rw[cT a (h x (.head _)) q];exact .head _
  .split
   .exact .head _
   .exact .tail _ (yY a λy b=>h y (.tail _ b))
theorem xD:∀{Y:List D},QJ Y->QJ (qL d Y)
 |[],_=>aDV _ _
 |x::Y,h=>by
  have b:=aAA.mp h;unfold qL;split
  .exact h
  .rename_i ne;split
   .rename_i lt;refine aAA.mpr ⟨λy a=>?_,h⟩;rcases aAd.mp a with rfl|a
    .exact lt
    .exact TS.lex_trans _ _ _ lt (b.1 y a)
   .rename_i e;refine aAA.mpr ⟨λy a=>?_,xD b.2⟩;rcases gP a with rfl|a
    .cases q:HT.lexLt (flat x) (flat y)with
     |true=>rfl
     |false=>exact absurd (TS.lex_total _ _ (by simpa using e) q) ne
    .exact b.1 y a
theorem dW:∀ds:List D,QJ (bV ds)
 |[]=>.nil
 |_::ds=>xD (dW ds)
theorem zQ:∀{ds:List D},(∀d∈ds,P9 d=true)->∀d∈bV ds,P9 d=true
 |[],_,d,h=>by cases h
 |e::ds,h,d,hd=>by
  rcases gP hd with rfl|hd
  .exact h _ (.head _)
  .exact zQ (λd hd=>h d (.tail _ hd)) d hd
theorem O9:∀{ds:List D},(∀d∈ds,P9 d=true)->∀d,d∈bV ds↔d∈ds
 |[],_,d=>Iff.rfl
 |e::ds,h,d=>by
  have a:∀d∈ds,P9 d=true:=λd b=>h d (.tail _ b);constructor
  .intro q;rcases gP q with rfl|q
   .exact .head _
   .exact .tail _ ((O9 a d).mp q)
  .intro q;rcases aAd.mp q with rfl|q
   .exact yY (h _<|.head _) (zQ a)
   .exact yK ((O9 a d).mpr q)
theorem pQ:∀{Y b:List D},QJ Y->QJ b->(∀d,d∈Y↔d∈b)->Y=b
 |[],[],_,_,_=>rfl
 |[],y::b,_,_,h=>by have:=(h y).mpr (.head _);cases this
 |x::Y,[],_,_,h=>by have:=(h x).mp (.head _);cases this
 |x::Y,y::b,j,k,h=>by
  have e:=aAA.mp j;have f:=aAA.mp k;have a:∀d:D,HT.lexLt (flat d) (flat d)≠true:=λd q=>by rw[TS.lex_irrefl]at q;cases q
  have g:x=y:=by
   rcases aAd.mp ((h x).mp (.head _))with q|q
   .exact q
   .rcases aAd.mp ((h y).mpr (.head _))with i|i
    .exact i.symm
    .exact absurd (TS.lex_trans _ _ _ (f.1 x q)<|e.1 y i) (a y)
  subst g;congr 1;refine pQ e.2 f.2 λd=>?_;constructor
  .intro q;rcases aAd.mp ((h d).mp (.tail _ q))with z|z
   .subst z;exact absurd (e.1 d q) (a d)
   .exact z
  .intro q;rcases aAd.mp ((h d).mpr (.tail _ q))with z|z
   .subst z;exact absurd (f.1 d q) (a d)
   .exact z
def GY (h:QJ Y):Y.Nodup:=h.imp λ{x y} q z=>by subst z;rw[TS.lex_irrefl]at q;cases q
def qy:D->R (List D)
 |.lst a=>if a.all P9=true/\(bV a).length<=63 then .ok (bV a)else .bad
 |_=>.bad
section
mutual
theorem J7 (I:Inv X a σ H s):∀{v:V} {d:D} {u:ae},Rep X.K H O v d->lA d=true->RelV v u->HV s.heap u d
 |_,_,_,.non,e,_=>by cases e
 |_,_,_,.bl,e,_=>by cases e
 |_,_,_,.str,e,_=>by cases e
 |_,_,_,.lst _ _ _,e,_=>by cases e
 |_,_,_,.dct _ _ _,e,_=>by cases e
 |_,_,_,.int,_,r=>by obtain⟨t,rfl⟩:=r;exact .int _ t
 |_,_,_,.tup h r,e,b=>by cases b;obtain⟨f,g,p,_⟩:=I.tuple h;exact .tup p (DO I r e g)
theorem DO (I:Inv X b σ H s):∀{v:List V} {d:List D} {u:List ae},Reps X.K H O v d->bX d=true->l9 v u->HVs s.heap u d
 |_,_,_,.nil,_,.nil=>.nil
 |_,_,_,.cons r t,e,.cons f g=>by have a:(lA _&&bX _)=true:=e;rw[aAK]at a;exact .cons (J7 I r a.1 f) (DO I t a.2 g)
end
end
variable [Tabs]
def gj (w:cz)(o:Obj)(es:List ae):Prop:=o.ExactSet/\∃a b t,o.data=.set a b t/\t.fits a.size=true/\t.plain=true/\t.led=!w.params.followText "set-order"/\ST.GP t.place/\a.toList.map (·.2)=es
abbrev u9 (K:lb)(H:Hp)(O:cp->Prop):List ae->List D->Prop:=Paired λu d=>∃v,RelV v u/\Rep K H O v d
theorem u9.of {K:lb}{H:Hp}{O:cp->Prop}:∀{vs:List V} {a:List ae} {ds:List D},l9 vs a->Reps K H O vs ds->u9 K H O a ds
 |_,_,_,.nil,.nil=>.nil
 |_,_,_,.cons r t,.cons q u=>.cons ⟨_,r,q⟩ (u9.of t u)
theorem u9.ac1 {K:lb}{H:Hp}{O:cp->Prop}:∀{a:List ae} {ds:List D},u9 K H O a ds->∃vs,l9 vs a/\Reps K H O vs ds
 |_,_,.nil=>⟨[],.nil,.nil⟩
 |_,_,.cons ⟨v,r,q⟩ t=>let⟨vs,b,d⟩:=u9.ac1 t;⟨v::vs,.cons r b,.cons q d⟩
def u9.same {K:lb}{H H':Hp}{O:cp->Prop}(s:Same H H'){a:List ae}{ds:List D}(h:u9 K H O a ds):u9 K H' O a ds:=dD (by rintro _ _ ⟨v,r,q⟩;exact⟨v,r,q.same s⟩) h
theorem u9.get {K:lb}{H:Hp}{O:cp->Prop}:∀{a:List ae} {ds:List D} {u:ae},u9 K H O a ds->u∈a->∃d∈ds,∃v,RelV v u/\Rep K H O v d
 |_,_,_,.cons r t,h=>by
  rcases aAd.mp h with rfl|h
  .exact⟨_,.head _,r⟩
  .obtain⟨d,b,q⟩:=u9.get t h;exact⟨d,.tail _ b,q⟩
open Classical in
def P4 (K:lb) (H:Hp) (h:de):de:=PySem.W.hideAll h ((aBv h.objs.size).filter λa=>decide (¬∃Y,T8 K H a Y))
def X0 (K:lb)(H:Hp)(h:de):Keeps (P4 K H h) h:=λb o e=>PySem.W.of_hideAll _ e
open Classical in
def yS {K:lb}{H:Hp}{h:de}{b:cp}{o:Obj}{Y:List V}(e:h.get? b=some o)(q:T8 K H b Y):(P4 K H h).get? b=some o:=PySem.W.hideAll_get _ e λa=>by have:=(aAQ.mp a).2;exact(of_decide_eq_true this) ⟨Y,q⟩
open Classical in
def BR {K:lb}{H:Hp}{h:de}{b:cp}{o:Obj}(e:(P4 K H h).get? b=some o):∃Y,T8 K H b Y:=by refine Classical.byContradiction λn=>?_;have a:=X0 K H h b o e;have:(P4 K H h).get? b=none:=PySem.W.hideAll_none _ (aAQ.mpr ⟨aCC.mpr (aAf a),decide_eq_true n⟩);rw[this]at e;cases e
section
mutual
theorem MG (I:Inv X a σ H s):∀{v:V} {d:D} {u:ae},Rep X.K H O v d->lA d=true->RelV v u->HV (P4 X.K H s.heap) u d
 |_,_,_,.non,e,_=>by cases e
 |_,_,_,.bl,e,_=>by cases e
 |_,_,_,.str,e,_=>by cases e
 |_,_,_,.lst _ _ _,e,_=>by cases e
 |_,_,_,.dct _ _ _,e,_=>by cases e
 |_,_,_,.int,_,r=>by obtain⟨t,rfl⟩:=r;exact .int _ t
 |_,_,_,.tup h r,e,b=>by cases b;obtain⟨f,i,⟨o,g,c,n,d⟩,_⟩:=I.tuple h;exact .tup ⟨o,yS g h,c,n,d⟩ (EG I r e i)
theorem EG (I:Inv X b σ H s):∀{v:List V} {d:List D} {u:List ae},Reps X.K H O v d->bX d=true->l9 v u->HVs (P4 X.K H s.heap) u d
 |_,_,_,.nil,_,.nil=>.nil
 |_,_,_,.cons r t,e,.cons f g=>by have a:(lA _&&bX _)=true:=e;rw[aAK]at a;exact .cons (MG I r a.1 f) (EG I t a.2 g)
end
mutual
theorem LD (I:Inv X b σ H s):∀{u:ae} {d:D},HV (P4 X.K H s.heap) u d->∃v,RelV v u/\Rep X.K H O v d
 |_,_,.int i t=>⟨.int i,⟨t,rfl⟩,.int⟩
 |_,_,.tup (a:=a) ⟨o,g,c,n,h⟩ r=>by obtain⟨Y,q⟩:=BR g;obtain⟨j,k,l⟩:=u9.ac1 (EL I r);obtain⟨m,p,⟨x,e,_,y,f⟩,_⟩:=I.tuple q;rw[X0 _ _ _ _ _ g]at e;cases e;rw[h]at f;injection f with w _;subst w;have:j=Y:=k.inj (by simpa using p);subst this;exact⟨.ref a,rfl,.tup q l⟩
theorem EL (I:Inv X a σ H s):∀{u:List ae} {d:List D},HVs (P4 X.K H s.heap) u d->u9 X.K H O u d
 |_,_,.nil=>.nil
 |_,_,.cons r t=>.cons (LD I r) (EL I t)
end
end
section
def xy (X:Cx)(B:D->Bool)(U:List D->List D)(f:Ev->R D):TE:=λσ H Q=>∃i j O ρ,EnvOk X.K i j H O σ ρ/\match f ρ with
 |.ok (.lst b)=>(b.all B=true/\(U b).length<=63)/\∀S o g e a,Same H a->a S=none->gj X.w o g->u9 X.K a O g e->e.Nodup->(∀d,d∈e↔d∈b)->Q (.ref S) (upd a S<|.frz o (.own S))
 |.ex x=>∀h,Same H h->XW X x h
 |_=>False
def ET {B:D->Bool}{U:List D->List D}(hB:∀{d},B d=true->lA d=true/\A7 d<8/\∃T,d=.tup T)(hU:∀{ds:List D},(∀d∈ds,B d=true)->∀d,d∈U ds↔d∈ds)(ha:PB X e f)(hh:X.calm=true)(hu:X.A.units+300<df)(hg:Gl X "set":=by rfl)(hm:X.mg "set"=none:=by assumption)(hv:dq "set"=some (.type "set"):=by decide+kernel)(he:bb [e] X.env=(false,d3 e X.env)::bb [] X.env:=by rfl)(bc:(dn C (bb [] X.env)).any (·.1)=false:=by rfl):
  PE X (.Call (.Name "set" p) [e] [] C) (xy X B U f):=by
 refine wA λJ s σ H Q I H9 O0 O ρ E q=>?_;refine aAW (O6 I hg hm hv ?_ (by decide) (by decide));have kr:PA X [e] _:=N1 ha bH he;refine aBm (D4 (kr C J s σ H (λvs g=>∃v ds,vs=[v]/\f ρ=.ok (.lst ds)/\Same H g/\B0 X.K g O v (.lst ds)) I ⟨H9,O0,O,ρ,E,?_⟩) λus h z9=>?_) he bc
 .cases b:f ρ with
  |ex z=>rw[b]at q;exact q
  |bad=>rw[b]at q;exact q.elim
  |ok d=>
   rw[b]at q;cases d with
   |lst ds=>exactλv g h r1=>⟨v,ds,rfl,rfl,h,r1⟩
   |_=>exact q.elim
 .obtain⟨vs,g,m,r1,v,ds,ev,ef,sm,rb⟩:=z9;subst ev;rw[ef]at q;obtain⟨⟨hp,ve⟩,q⟩:=q;obtain⟨a,ws,rfl,hS,rr⟩:=rb.aa5;obtain⟨u,rfl,ru⟩:=vals1 r1;cases ru;obtain⟨k,rv,⟨oL,nL,gL,cL,dL,sL⟩,zL⟩:=m.list hS;have pt:∀d∈ds,B d=true:=aBC.mp hp;have hlen:k.toArray.size=ds.length:=by rw[aAm,<-rv.length,rr.length]
  have st:u9 X.K g O k ds:=u9.of rv rr;have L:∀(i:Nat) (v:ae),k.toArray[i]?=some v->ZC (P4 X.K g h.heap) v (ds.getD i .non):=λi v n=>by
   rw[aBY]at n;obtain⟨d,x,w,lg,rp⟩:=B4 st n;have km:ds.getD i .non=d:=by rw[aAo,x];rfl
   rw[km];have hpt:=pt d (aAr x);obtain⟨Y,hd8,T,rfl⟩:=hB hpt;have hv:=MG m rp Y lg;cases hv with
   |tup p r=>exact⟨_,_,rfl,rfl,hd8,.tup p r⟩
  have vd:∀i<k.toArray.size,A7 (ds.getD i .non)<8/\∃T,ds.getD i .non=.tup T:=λi n=>by
   have N:i<ds.length:=by rw[<-hlen];exact n
   have b:ds.getD i .non=ds[i]:=by rw[aAo,aAj N];rfl
   rw[b];exact(hB<|pt _<|aCx N).2
  refine yB (X0 X.K g h.heap) (val:=λi=>ds.getD i .non) (U:=U ds) (m.ok.hd hh) ⟨oL,gL,cL,nL,sL⟩ L vd (λi n=>?_) (by lia) hu λh' tk au gg td kp=>?_
  .have N:i<ds.length:=by rw[<-hlen];exact n
   rw[hU pt];have b:ds.getD i .non=ds[i]:=by rw[aAo,aAj N];rfl
   show ds.getD i .non∈ds;rw[b];exact aCx N
  .obtain⟨⟨o,y,ep,t,Y,hc,zv,ym,x,l,msk,pr,led,pl⟩,nd⟩:=gg;have mem:∀d,d∈au↔d∈ds:=λd=>by
    rw[td];constructor
    .rintro⟨j,hj,b⟩;have vg:j<ds.length:=by rw[<-hlen];exact hj
     have e2:ds.getD j .non=ds[j]:=by rw[aAo,aAj vg];rfl
     rw[<-b,e2];exact aCx vg
    .intro x;obtain⟨j,hj,b⟩:=aBw x;refine⟨j,by rw[hlen];exact hj,?_⟩;show ds.getD j .non=d;rw[aAo,aAj hj,<-b];rfl
   have I2:=m.laid (a:=h.heap.objs.size) (o:=.frz o (.own h.heap.objs.size)) (h':=h') (t':=tk) kp (aAg _) ⟨Y,o,Y⟩;refine⟨.ref h.heap.objs.size,_,I2,rfl,q h.heap.objs.size o (y.toList.map (·.2)) au g sm (m.hok.fresh<|aAg _) ⟨⟨hc,zv,ym⟩,y,ep,t,x,?_,pl,led,l.tab.asc,rfl⟩ ?_ nd mem⟩
   .have h1:=l.len;have h2:=l.room;simp only[aGC,aAK,beq_iff_eq,decide_eq_true_eq];exact⟨by simpa using h1,by show t.place.size+t.dummies.size<=t.mask;rw[l.tab.nod];simpa using h2⟩
   .have:∀{y:List (Int×ae)} {ds:List D},Paired (EV<|P4 X.K g h.heap) y ds->u9 X.K g O (y.map (·.2)) ds:=λ{y ds} p=>by
     induction p with
     |nil=>exact .nil
     |cons r _ ih=>exact .cons (LD m r.1) ih
    exact this pr
def TX (h:de) (v:ae):List Int:=open Classical in if p:∃d,P9 d=true/\HV h v d then flat p.choose else[]
def vD (b:P9 d=true)(a:HV h v d):TX h v=flat d:=by unfold TX;have q:∃d,P9 d=true/\HV h v d:=⟨d,b,a⟩;rw[dif_pos q,HV.inj q.choose_spec.2 a]
def C5 (f:P9 d=true)(e:HV h v d):∃b B,v=.ref b/\IsTup h b B/\IntsAre B.toList (flat d):=by
 rw[(aR f).2]at e;cases e with
 |tup p r=>
  refine⟨_,_,rfl,p,?_⟩;have:∀{a:List ae} {l:List Int},HVs h a (l.map D.int)->IntsAre a l:=λ{a l} r=>by
   induction l generalizing a with
   |nil=>cases r;exact .nil
   |cons i l g=>
    cases r with
    |cons r t=>cases r;exact .cons _ _ (g t)
  exact this r
def WW {prog:cu}{w:cz}{A:cy}{E:A3}{s:be}{x y:ae}{d e:D}{f:Bool}{Q:wJ}(g:P9 d=true)(h:P9 e=true)(i:HV s.heap x d)(j:HV s.heap y e)(q:Q (HT.lexLt (flat d) (flat e)) s):a9 (cq prog w) A (keyLt' (TS.tupK f) x y) Q E s:=by obtain⟨b,k,rfl,l,m⟩:=C5 g i;obtain⟨p,a,rfl,n,o⟩:=C5 h j;exact TS.lt_ints f l n m o q
def NA {prog:cu}{w:cz}{A:cy}{E:A3}{s:be}{vs:List ae}{Q:SortKind->be->Prop}(h:∀x∈vs,∃d,P9 d=true/\HV s.heap x d)(u:2<=vs.length)(q:Q (TS.tupK true) s):a9 (cq prog w) A (keyKind' vs.toArray) Q E s:=by
 obtain⟨f,i⟩:∃f:ae->ae,∀x∈vs,∃b B k t,x=.ref b/\IsTup s.heap b B/\B[0]?=some (f x)/\f x=.int k t:=by
  refine⟨λx=>open Classical in if z:∃p,∃b B k t,x=.ref b/\IsTup s.heap b B/\B[0]?=some p/\p=aGU k t then z.choose else .none,λx j=>?_⟩;obtain⟨d,v,C⟩:=h x j;obtain⟨b,B,rfl,H,a⟩:=C5 v C;have y:=(aR v).1;have z:∃p,∃g B k t,aDC b=.ref g/\IsTup s.heap g B/\B[0]?=some p/\p=aGU k t:=by
   cases e:B.toList with
   |nil=>rw[e]at a;generalize flat d=l at a y;cases a;exact absurd rfl y
   |cons p J=>
    rw[e]at a;generalize flat d=l at a;cases a with
    |cons k t L=>exact⟨_,b,B,k,t,rfl,H,by rw[<-aAE,e];rfl,rfl⟩
  dsimp only;rw[dif_pos z];obtain⟨g,I,k,t,m,n,o,r⟩:=z.choose_spec;exact⟨g,I,k,t,m,n,o,r⟩
 refine TS.kind_tuples (T:= "int") f (λx j=>?_) (λz=>by rw[z]at u;simp at u) (by decide) q;obtain⟨b,B,k,t,m,n,o,r⟩:=i x j;exact⟨b,B,m,n,o,by rw[r];exact typeIs_int s k t⟩
def uC {K:lb}{H:Hp}{O:cp->Prop}{n b:List ae}{ds:List D}{key:ae->List Int}(st:u9 K H O n ds)(C:b.Perm n)(E:b.Pairwise λx y=>HT.lexLt (key y) (key x)=false)(I:∀u d,(∃v,RelV v u/\Rep K H O v d)->d∈ds->key u=flat d)(pt:∀d∈ds,P9 d=true)(J:ds.Nodup):
  ∃a,u9 K H O b a/\a.Perm ds/\QJ a:=by
 obtain⟨a,j,k⟩:=W3 C st;refine⟨a,k,j,?_⟩;have m:a.Nodup:=j.nodup_iff.mpr J;have o:∀d∈a,P9 d=true:=λd f=>pt d (j.mem_iff.mp f);have p:∀u d,(∃v,RelV v u/\Rep K H O v d)->d∈a->key u=flat d:=λu d h f=>I u d h (j.mem_iff.mp f);clear C j st J pt I;induction k with
 |nil=>exact .nil
 |@cons u d n ds r t s=>
  have w:=aAA.mp E;have A:=aAG.mp m;refine aAA.mpr ⟨λe g=>?_,s w.2 A.2 (λd f=>o d (.tail _ f)) λu d h f=>p u d h (.tail _ f)⟩;have:∃i∈n,∃v,RelV v i/\Rep K H O v e:=by
   clear s E w A m o p r;induction t with
   |nil=>cases g
   |cons r t s=>
    rcases aAd.mp g with rfl|g
    .exact⟨_,.head _,r⟩
    .obtain⟨i,B,q⟩:=s g;exact⟨i,.tail _ B,q⟩
  obtain⟨i,B,q⟩:=this;have l:=w.1 i B;rw[p i e q (.tail _ g),p u d r (.head _)]at l;cases z:HT.lexLt (flat d) (flat e)with
  |true=>rfl
  |false=>have:=cT (o _<|.head _) (o _<|.tail _ g) (TS.lex_total _ _ z l);subst this;exact absurd g A.1
def iC {p T bp:Pos}{f:Ev->R D}(ha:PB X e f)(hh:X.calm=true)(hu:X.A.units+300<df)(hg:Gl X "set":=by rfl)(hm:X.mg "set"=none:=by assumption)(yr:Gl X "sorted":=by rfl)(ju:X.mg "sorted"=none:=by assumption)
  (hv:dq "set"=some (.type "set"):=by decide+kernel) (hv2:dq "sorted"=some (.builtin "sorted"):=by decide+kernel)
  (he:bb [e] X.env=(false,d3 e X.env)::bb [] X.env:=by rfl) (bc:(dn bp (bb [] X.env)).any (·.1)=false:=by rfl)
  (kl:bb [.Call (.Name "set" T) [e] [] bp] X.env=(false,d3 (.Call (.Name "set" T) [e] [] bp) X.env)::bb [] X.env:=by rfl) (ud:(dn pos (bb [] X.env)).any (·.1)=false:=by rfl):
  PF X (.Call (.Name "sorted" p) [.Call (.Name "set" T) [e] [] bp] [] pos) (λρ=>(f ρ).bind qy):=by
 refine wA λpins s σ H Q I H9 O0 O ρ E q=>?_;dsimp only at q;refine aAW (O6 I yr ju hv2 ?_ (by decide) (by decide));have kr:PA X [.Call (.Name "set" T) [e] [] bp] _:=N1 (ET (p:=T) (B:=P9) (U:=bV) (λh=>⟨A0 h,mG h,_,(aR h).2⟩) O9 ha hh hu hg hm hv he bc) bH kl;refine aBQ (D4 (kr pos pins s σ H (λvs H2=>∃S o Y i g L,vs=[.ref S]/\H2=upd L S (.frz o (.own S))/\f ρ=.ok (.lst g)/\(g.all P9=true/\(bV g).length<=63)/\Same H L/\L S=none/\gj X.w o Y/\u9 X.K L O Y i/\i.Nodup/\(∀d,d∈i↔d∈g)) I ⟨H9,O0,O,ρ,E,?_⟩)
  λus s1 z=>?_) kl ud
 .cases e1:f ρ with
  |ex z=>rw[e1]at q;exact q
  |bad=>rw[e1]at q;exact q.elim
  |ok d=>
   rw[e1,R.aa0]at q;cases d with
   |lst g=>
    simp only[qy]at q;by_cases hc:g.all P9=true/\(bV g).length<=63
    .exact⟨hc,λS o Y i L sm hS so st nd j=>⟨S,o,Y,i,g,L,rfl,rfl,rfl,hc,sm,hS,so,st,nd,j⟩⟩
    .rw[ku hc]at q;exact q.elim
   |_=>exact q.elim
 .obtain⟨vs,H2,I2,r1,S,o,Y,i,g,L,ev,eH,ef,⟨hp,ve⟩,sm,hS1,so,st,nd,j⟩:=z;subst ev eH;obtain⟨u,rfl,ru⟩:=vals1 r1;cases ru;rw[ef,R.aa0]at q;simp only[qy]at q;rw[kn ⟨hp,ve⟩]at q;have pt:∀d∈g,P9 d=true:=aBC.mp hp;have yn:∀d∈i,P9 d=true:=λd J=>pt d ((j d).mp J);have s12:Same L (upd L S<|.frz o (.own S)):=j7 hS1 _;have ke:=st.same s12;obtain⟨hc,ea,ep,t,J,hf,hpln,led,asc,ees⟩:=so;have goS:=(I2.hok S _ j3).1;have hS2:SI.IsSet s1.heap S ea ep t:=⟨o,goS,hc.1,J⟩;have ym:(bV g).Perm i:=by
   letI:DecidableEq D:=λa b=>aDe _
   exact(aCM (GY<|dW g) nd).mpr λd=>by rw[O9 pt,j]
  have hsz:ea.size=i.length:=by have:=st.length;rw[<-ees]at this;simpa using this
  have h63':i.length<=63:=by rw[<-ym.length_eq];exact ve
  have wp:=SI.walkL_perm X.w S ea ep;have wpv:((SI.walkL X.w S ea ep).map (·.2)).Perm Y:=by rw[<-ees];exact wp.map _
  have m:∀u∈(SI.walkL X.w S ea ep).map (·.2),∃d,d∈i/\P9 d=true/\HV s1.heap u d:=λu hu=>by obtain⟨d,J,v,rv,rp⟩:=ke.get (wpv.mem_iff.mp hu);exact⟨d,J,yn d J,J7 I2 rp (A0<|yn d J) rv⟩
  refine TS.sorted_keys (vs:=(SI.walkL X.w S ea ep).map (·.2)) (f:=true) (key:=TX s1.heap) (C:=λs'=>∃h' N,s'={s1 with heap:=h',toks:=N}/\∀b o,s1.heap.get? b=some o->h'.get? b=some o)
   (λ{Q'} hq=>SI.collect_set (by simp[I2.ok.hd hh]) hS2 hf hpln (λnb=>by rw[led];simpa using nb) asc (by rw[hsz];exact aAp h63' (by decide)) λh' N k=>hq _ ⟨h',N,rfl,k⟩)
   (λs' ⟨h',N,r,k⟩ s6 k6 x hx y hy prog w A E hA {Q} qq=>?_) (λh2 s' ⟨h',N,r,k⟩ s6 k6 A {Q} qq=>?_) (by rw[aAi,wp.length_eq,aAM,hsz];lia) λs' fu h' l ⟨h1,N,r,k⟩ pm srt k2 hl ⟨n,gl⟩=>?_
  .subst r;obtain⟨d,_,pd,vc⟩:=m x hx;obtain⟨d',_,pd',xl⟩:=m y hy;rw[vD pd vc,vD pd' xl]at qq;exact WW pd pd' (vc.keeps λb o e _=>k6 b o (k b o e)) (xl.keeps λb o e _=>k6 b o (k b o e)) qq
  .subst r;refine NA (λx hx=>?_) h2 qq;obtain⟨d,_,pd,vc⟩:=m x hx;exact⟨d,pd,vc.keeps λb o e _=>k6 b o (k b o e)⟩
  .subst r;obtain⟨oo,st3,T,xm⟩:=uC (key:=TX s1.heap) ke (pm.trans wpv) srt (by rintro u d ⟨v,rv,rp⟩ J;exact vD (yn d J) (J7 I2 rp (A0<|yn d J) rv)) yn nd;have e2:oo=bV g:=pQ xm (dW g) λd=>by rw[T.mem_iff,j,O9 pt]
   subst e2;obtain⟨wv,lg,rr⟩:=st3.ac1;have I2':=I2.kept (h':=h1) (t':=N) k;have I3:=I2'.laid (a:=l) (o:=.lst wv) (h':=h') (t':=N) k2 hl ⟨by rw[rr.length];exact aAp ve (by decide),fu,n,lg,gl⟩;exact⟨.ref l,_,I3,rfl,q wv _ l (sm.trans s12) (I2'.hok.fresh hl) rr⟩
end
end DL
namespace SZ
open PySem
abbrev Zs (h:de)(z TI TO:cp)(a b:ae):Prop:=h.get? z=some {cls:=.type "zip",dict:=none,data:=.fields #[a,b,.bool false,.ref TI,.ref TO],slots:=#[]}
def xZ (b:ae):Prop:=b=.none\/∃a:Nat,b=eh a
section
def alive {Q:Option Obj->be->Prop}(h:Q (s.heap.get? c) s):a9 (cq prog w) A (loadIfAlive c) Q E s:=λΓ p _=>by unfold loadIfAlive;rw[Sem.wp_loadIfAlive];simpa using h
def mI {Q:wJ}(hz:Zs s.heap z TI TO b d)(j:xZ b)(f:Q true s)(g:∀h' e,Zs h' z TI TO b e->Heap.SameBut z s.heap h'->Q false {s with heap:=h'}):a9 (cq prog w) A (aBW (.ref z)) Q E s:=by
 unfold aBW;refine aAa (aCU hz rfl (x:=b) rfl ?_);rcases j with rfl|⟨a,rfl⟩
 .exact aAb f
 .show a9 _ _ (loadIfAlive (aEJ (a:Int))>>=_) _ _ _;refine aAa (alive ?_);by_cases h:(s.heap.get?<|aEJ (a:Int)).isNone=true
  .rw[kn h];exact aAb f
  .rw[ku h];refine aAa (aCU hz rfl (x:=d) rfl ?_);by_cases i:(d !=aDm true)=true
   .rw[kn i];refine aAa (aCd hz (by simp) λh' k l=>aAb (g h' (.bool true) k l))
   .rw[ku i];exact aAb (g s.heap d hz ⟨rfl,λ_ _=>rfl⟩)
def PJ {Q:A3}(D:ZipApart z TI TO p q U l2)(hz:Zs s.heap z TI TO f0 f1)(ho:xZ f0)(vp:hE s.heap TI (.ref p) (.ref q))(vf:hE s.heap TO a b)(h1:s.heap.IsListIter p U k)(h2:s.heap.IsListIter q l2 k)(ua:s.heap.IsList U Y)(om:s.heap.IsList l2 ys)(hx:Y[k]?=some x)(hy:ys[k]?=some y)(hQ:∀h' T f0' C a' b',Zs h' z TI TO f0' C->xZ f0'->hE h' TO a' b'->h'.IsListIter p U (k+1)->h'.IsListIter q l2 (k+1)->s.heap.objs.size<=T->hE h' T x y->
   (∀c o,c≠z->c≠TO->c≠p->c≠q->s.heap.get? c=some o->h'.get? c=some o)->Q (.ref T) {s with heap:=h'}):
  a9 (cq prog w) A (Builtin.«zip.__next__» ⟨[.ref z],[]⟩) (λfin s'=>∃v,fin=.done (.ret v)/\Q v s') E s:=by
 show a9 _ _ (field (.ref z) 2>>=_) _ _ _;refine aAa (aCU hz rfl (x:=.bool false) rfl ?_);show a9 _ _ (field (.ref z) 3>>=_) _ _ _;refine aAa (aCU hz rfl (x:=.ref TI) rfl ?_);refine aAa (aBu vp rfl ?_);show a9 _ _ (aBW (.ref z)>>=_) _ _ _;refine aAa (mI hz ho ?_ λt C yo d=>?_)
 .simp only[if_true];refine aAa (aDG ?_);refine aAa (aCU hz rfl (x:=.ref TO) rfl ?_);refine aAa (aCd hz (by simp) λt yo d=>?_);replace yo:Zs t z TI TO .ellipsis f1:=yo;refine aAa ?_;simp only[aEu,aEG,aDa,aEi];refine aAa (aAa<|wpAny_onRaise ?_);show a9 _ _ (aBT (.ref p)>>=_) _ _ _;refine aAa (aDq (h1.extBut d.extBut D.i1z) (ua.extBut d.extBut D.l1z) hx λgu H i=>aAb ?_);have u:hE gu TO a b:=i.extBut _ _ D.TOi1 (d.extBut _ _ D.TOz vf);refine aAa (aBu u rfl ?_);refine aAa (wpAny_updateSeq_pair u λaA l j=>?_);replace l:hE aA TO x b:=l;refine aAa (aCI<|aAb ?_);refine aAa (aAa<|wpAny_onRaise ?_);show a9 _ _ (aBT (.ref q)>>=_) _ _ _;refine aAa (aDq (((h2.extBut d.extBut D.i2z).extBut i.extBut D.i12.symm).extBut j.extBut D.TOi2.symm)
   (((om.extBut d.extBut D.l2z).extBut i.extBut D.l2i1).extBut j.extBut D.l2TO) hy λI J m=>aAb ?_)
  have f:hE I TO x b:=m.extBut _ _ D.TOi2 l;refine aAa (aBu f rfl ?_);refine aAa (wpAny_updateSeq_pair f λg h n=>?_);replace h:hE g TO x y:=h;refine aAa (aCI<|aAb<|aAb ?_);refine aAa (aBu h rfl ?_);refine aAa (aGm ?_);have L:g.objs.size=s.heap.objs.size:=by rw[n.1,m.1,j.1,i.1,d.1]
  have hz3:Zs g z TI TO .ellipsis f1:=n.extBut _ _ D.TOz.symm (m.extBut _ _ D.i2z.symm<|j.extBut _ _ D.TOz.symm<|i.extBut _ _ D.i1z.symm yo);have hk3:∀c o,c≠z->c≠TO->c≠p->c≠q->s.heap.get? c=some o->g.get? c=some o:=λc o r c2 c3 c4 e=>n.extBut _ _ c2 (m.extBut _ _ c4<|j.extBut _ _ c2<|i.extBut _ _ c3<|d.extBut _ _ r e)
  have h11:g.IsListIter p U (k+1):=((H.extBut j.extBut D.TOi1.symm).extBut m.extBut D.i12).extBut n.extBut D.TOi1.symm;have h21:g.IsListIter q l2 (k+1):=J.extBut n.extBut D.TOi2.symm;have B:z<g.objs.size:=aAf hz3;show a9 _ _ (aDP (.ref z) (.ref g.objs.size)>>=_) _ _ _;refine aAa ?_;unfold aDP;have hz5:Zs (g.push {cls:=.type "tuple",data:=.seq #[x,y]}) z TI TO .ellipsis f1:=aAc _ hz3;refine aAa (aCd hz5 (by simp) λaC N hs8=>?_);replace N:Zs aC z TI TO (eh g.objs.size) f1:=N;refine aCd N (by simp) λaB O hs9=>?_;replace O:Zs aB z TI TO (eh g.objs.size) (.bool false):=O;have up:∀c o,c≠z->g.get? c=some o->aB.get? c=some o:=λc o r e=>hs9.extBut _ _ r (hs8.extBut _ _ r<|aAc _ e);have hT0:hE aB g.objs.size x y:=hs9.extBut _ _ (aDc B) (hs8.extBut _ _ (aDc B)<|aAn _ rfl);refine aAb ⟨_,rfl,?_⟩;exact hQ aB g.objs.size _ _ x y O (.inr ⟨_,rfl⟩) (up _ _ D.TOz h) (h11.at λo e=>up _ o D.i1z e) (h21.at λo e=>up _ o D.i2z e) (aEp L.symm) hT0 λc o r c2 c3 c4 e=>up c o r (hk3 c o r c2 c3 c4 e)
 .simp only[aAq,if_false];refine aAa ?_;show a9 _ _ (forIn (#[.ref p,.ref q]:Array ae) _ _) _ _ _;rw[<-aCv];simp only[aDa,aEi];refine aAa (aAa<|aAL ?_);show a9 _ _ (aBT (.ref p)>>=_) _ _ _;refine aAa (aDq (h1.extBut d.extBut D.i1z) (ua.extBut d.extBut D.l1z) hx λgu H i=>aAb ?_);refine aAb ?_;refine aAa (aAa<|aAL ?_);show a9 _ _ (aBT (.ref q)>>=_) _ _ _;refine aAa (aDq ((h2.extBut d.extBut D.i2z).extBut i.extBut D.i12.symm) ((om.extBut d.extBut D.l2z).extBut i.extBut D.l2i1) hy λI J m=>aAb ?_);refine aAb (aAb ?_);have L:I.objs.size=s.heap.objs.size:=by rw[m.1,i.1,d.1]
  have hz6:Zs I z TI TO f0 C:=m.extBut _ _ D.i2z.symm (i.extBut _ _ D.i1z.symm yo);have f:hE I TO a b:=m.extBut _ _ D.TOi2 (i.extBut _ _ D.TOi1<|d.extBut _ _ D.TOz vf);have h12:I.IsListIter p U (k+1):=H.extBut m.extBut D.i12;show a9 _ _ (newTuple [x,y]>>=_) _ _ _;refine aAa (aGm ?_);refine aAb ⟨_,rfl,?_⟩;exact hQ _ I.objs.size _ _ a b (aAc _ hz6) ho (aAc _ f) (h12.at λo e=>aAc _ e) (J.at λo e=>aAc _ e) (aEp L.symm) (aAn _ rfl)
   λc o r c2 c3 c4 e=>aAc _ (m.extBut _ _ c4<|i.extBut _ _ c3<|d.extBut _ _ r e)
def SW {Q:Fin->be->Prop}(y:A.handled=none)(D:ZipApart z TI TO h m B C)(hz:Zs s.heap z TI TO O H)(T:xZ O)(U:hE s.heap TI (.ref h) (.ref m))(vf:hE s.heap TO a b)
  (I:s.heap.IsListIter h B k) (h2:s.heap.IsListIter m C k) (J:s.heap.IsList B Y) (om:s.heap.IsList C ys) (L:Y[k]?=none)
  (N:∀h' e,(∀c o,c≠z->c≠TO->c≠h->c≠m->s.heap.get? c=some o->h'.get? c=some o)->(∃o,h'.get? e=some o/\o.cls=.type "StopIteration")->E (.ref e) {s with heap:=h'}):
  a9 (cq prog w) A (Builtin.«zip.__next__» ⟨[.ref z],[]⟩) Q E s:=by
 show a9 _ _ (field (.ref z) 2>>=_) _ _ _;refine aAa (aCU hz rfl (x:=.bool false) rfl ?_);show a9 _ _ (field (.ref z) 3>>=_) _ _ _;refine aAa (aCU hz rfl (x:=.ref TI) rfl ?_);refine aAa (aBu U rfl ?_);show a9 _ _ (aBW (.ref z)>>=_) _ _ _;refine aAa (mI hz T ?_ λd f1' n f=>?_)
 .simp only[if_true];refine aAa (aDG ?_);refine aAa (aCU hz rfl (x:=.ref TO) rfl ?_);refine aAa (aCd hz (by simp) λd n f=>?_);replace n:Zs d z TI TO .ellipsis H:=n;refine aAa ?_;simp only[aEu,aEG,aDa,aEi];refine aAa (aAa<|wpAny_onRaise ?_);show a9 _ _ (aBT (.ref h)>>=_) _ _ _;refine aAa (wpAny_nextOf_list_end y (I.extBut f.extBut D.i1z) (J.extBut f.extBut D.l1z) L λr e p t=>?_);obtain⟨oe,g,i⟩:=t;have j:Zs r z TI TO .ellipsis H:=p _ _ D.i1z.symm n;have u:e≠z:=λx=>by subst x;rw[j]at g;cases g;simp at i
  exact aCd j (by simp) λaA _ l=>N aA e (λc o q _ v _ x=>l.extBut _ _ q (p _ _ v<|f.extBut _ _ q x)) ⟨oe,l.extBut _ _ u g,i⟩
 .simp only[aAq,if_false];refine aAa ?_;show a9 _ _ (forIn (#[.ref h,.ref m]:Array ae) _ _) _ _ _;rw[<-aCv];simp only[aDa,aEi];refine aAa (aAa<|aAL ?_);show a9 _ _ (aBT (.ref h)>>=_) _ _ _;exact aAa (wpAny_nextOf_list_end y (I.extBut f.extBut D.i1z) (J.extBut f.extBut D.l1z) L λr e p t=>N r e (λc o q _ v _ x=>p _ _ v (f.extBut _ _ q x)) t)
end
def MI (z TI TO d e f g:cp)(Y k:Array ae)(i:Nat)(h:de):Prop:=
 (∃j l,Zs h z TI TO j l/\xZ j)/\hE h TI (.ref d) (.ref e)/\(∃a b,hE h TO a b)/\h.IsListIter d f i/\h.IsListIter e g i/\h.IsList f Y/\h.IsList g k
section
variable{s:be}
def MI.type (h:MI z TI TO b d e f Y g i s.heap):s.TypeIs (.ref z) "zip":=by obtain⟨⟨j,k,a,_⟩,_⟩:=h;exact⟨_,a,rfl⟩
def MI.keeps (x:MI z TI TO d f g j Y l i h)(k:∀b o,b∈[z,TI,TO,d,f,g,j]->h.get? b=some o->h'.get? b=some o):MI z TI TO d f g j Y l i h':=by obtain⟨⟨m,n,p,q⟩,r,⟨a,b,t⟩,u,v,w,y⟩:=x;exact⟨⟨m,n,k z _ (by simp) p,q⟩,k TI _ (by simp) r,⟨a,b,k TO _ (by simp) t⟩,u.at λo e=>k d o (by simp) e,v.at λo e=>k f o (by simp) e,w.at λo e=>k g o (by simp) e,y.at λo e=>k j o (by simp) e⟩
def JZ {Q:Option ae->be->Prop}(D:ZipApart z TI TO h j m n)(hl:Y.size=d.size)(st:MI z TI TO h j m n Y d i s.heap)(B:i<Y.size)(C:∀h' T x y,Y[i]?=some x->d[i]?=some y->MI z TI TO h j m n Y d (i+1) h'->s.heap.objs.size<=T->hE h' T x y->(∀c o,c∉[z,TO,h,j]->s.heap.get? c=some o->h'.get? c=some o)->Q (some (.ref T)) {s with heap:=h'}):
  a9 (cq prog w) A (fo (.ref z)) Q E s:=by
 have p:=st.type;obtain⟨⟨f0,f1,H,I⟩,q,⟨a,b,J⟩,L,N,r,t⟩:=st;have u:Y[i]?=some Y[i]:=aAD B;have v:d[i]?=some (d[i]'(by lia)):=aAD (by lia);unfold fo;refine aAa (aDY (aBP (name:=aCD "__next__") p aEa
  (aBe aEa p F.entry_zip_next (PJ D H I q J L N r t u v λh' T k l O U e1 e2 e3 e4 e5 e6 e7 g=>aAb ?_)<|F.args_zip_next_1 _)))
 refine C h' T _ _ u v ⟨⟨k,l,e1,e2⟩,g _ _ D.TIz D.TITO D.TIi1 D.TIi2 q,⟨O,U,e3⟩,e4,e5,r.at λo e=>g _ o D.l1z D.l1TO D.l1i1 D.l1i2 e,t.at λo e=>g _ o D.l2z D.l2TO D.l2i1 D.l2i2 e⟩ e6 e7 λc o f e=>?_;simp only[aAd,aAJ,or_false,not_or]at f;exact g c o f.1 f.2.1 f.2.2.1 f.2.2.2 e
def KA {Q:Option ae->be->Prop}(i:A.handled=none)(D:ZipApart z TI TO f g j k)(st:MI z TI TO f g j k Y C Y.size s.heap)
  (l:∀h',(∀c o,c∉[z,TO,f,g]->s.heap.get? c=some o->h'.get? c=some o)->Q none {s with heap:=h'}):a9 (cq prog w) A (fo (.ref z)) Q E s:=by
 have h:=st.type;obtain⟨⟨H,I,m,n⟩,p,⟨a,b,q⟩,r,t,u,v⟩:=st;unfold fo;refine aAa (aDY (aBP (name:=aCD "__next__") h aEa
  (aBe aEa h F.entry_zip_next (SW (by simpa using i) D m n p q r t u v (aCk<|aAg _) λh' e x y=>?_)<|F.args_zip_next_1 _)))
 obtain⟨o,B,d⟩:=y;refine aAa (aDj (T:= "StopIteration") (b:=true) ⟨o,B,d⟩ aGs ?_);refine aAb (l _ λc o d e=>?_);simp only[aAd,aAJ,or_false,not_or]at d;exact x c o d.1 d.2.1 d.2.2.1 d.2.2.2 e
def Pairs (h0:de)(Y a B:Array ae)(i:Nat)(h:de)(off:List cp):Prop:=B.size=i/\∀(j:Nat) (v:ae),B[j]?=some v->∃T x y,v=.ref T/\Y[j]?=some x/\a[j]?=some y/\hE h T x y/\T∉off/\h0.get? T=none
def OE (hh:A.handled=none)(D:ZipApart z TI TO g l O Q)(hl:Y.size=U.size)(hn:Y.size<=sizeLine)(S:cp)(jo:S∉[z,TI,TO,g,l,O,Q])(res:ae)(h0:de):
  ∀(k i:Nat) (s:be) (B:Array ae) (c:Nat),Y.size-i=k->i<=Y.size->(∀b o,b∉[z,TO,g,l,S]->h0.get? b=some o->s.heap.get? b=some o)->MI z TI TO g l O Q Y U i s.heap->s.heap.get? S=some {cls:=.type "list",dict:=none,data:=.seq B c,slots:=#[]}->Pairs h0 Y U B i s.heap [z,TO,g,l,S]->
  (∀h' L c',(∀b o,b∉[z,TO,g,l,S]->s.heap.get? b=some o->h'.get? b=some o)->h'.get? S=some {cls:=.type "list",dict:=none,data:=.seq L c',slots:=#[]}->Pairs h0 Y U L Y.size h' [z,TO,g,l,S]->R (.ok (.ret res)) {s with heap:=h'})->
  gy (cq prog w) A (.builtin "list.extend.loop" ⟨[.ref S,.ref z,res],[]⟩) R s:=by
 have C:S∉[z,TO,g,l]:=λh=>jo (by simp only[aAd,aAJ,or_false]at h⊢;rcases h with h|h|h|h<;>simp[h]);have m:∀b,b∉[z,TO,g,l,S]->b∉[z,TO,g,l]:=λb h q=>h (by simp only[aAd,aAJ,or_false]at q⊢;rcases q with q|q|q|q<;>simp[q]);intro k;induction k with
 |zero=>
  intro i s B c hk hi p N E n hR;have ko:i=Y.size:=by lia
  subst ko;refine aBs F.entry_extend_loop ?_;rw[aAY aDf _];show a9 _ A.in1 (fo (.ref z)>>=_) _ _ s;refine aAa (KA (by simpa using hh) D N λh' kp=>?_);refine aAb (hR h' B c (λb o d e=>kp b o (m b d) e) (kp S _ C E) ⟨n.1,λj v t=>?_⟩);obtain⟨T,x,y,e1,e2,e3,e4,u,e6⟩:=n.2 j v t;exact⟨T,x,y,e1,e2,e3,kp T _ (m T u) e4,u,e6⟩
 |succ k ih=>
  intro i s B c hk hi p N E n hR;have ao:i<Y.size:=by lia
  refine aBs F.entry_extend_loop ?_;rw[aAY aDf _];show a9 _ A.in1 (fo (.ref z)>>=_) _ _ s;refine aAa (JZ D hl N ao λh' T x y hx hy ib hT hP kp=>?_);have gg:=kp S _ C E;have f:∀b o,s.heap.get? b=some o->T≠b:=λb o e q=>absurd (aAw (aAf e) hT) (by rw[q];exact aBg _);obtain⟨⟨f0,f1,hz,_⟩,_,⟨a,b,vf⟩,⟨o1,g1,_⟩,⟨o2,g2,_⟩,_⟩:=id N;have H:T∉[z,TO,g,l,S]:=by simp only[aAd,aAJ,or_false,not_or];exact⟨f _ _ hz,f _ _ vf,f _ _ g1,f _ _ g2,f _ _ E⟩
  show a9 _ A.in1 (gW S (·.push (.ref T))>>=_) _ _ _;refine aAa ?_;have I:∀b o,b≠S->h'.get? b=some o->(h'.update S (aBG (·.push (.ref T)))).get? b=some o:=λb o d e=>(aAx _ _<|aBV d).trans e;have neS:∀b,b∈[z,TI,TO,g,l,O,Q]->b≠S:=λb d q=>jo (q▸d);refine aBD gg rfl (aAb ⟨aBz aDf _,ih (i+1) _ (B.push<|.ref T) _ (by lia) ao (λb o d e=>I b o (λq=>d (by simp[q])) (kp b o (m b d)<|p b o d e)) (ib.keeps λb o d e=>I b o (neS b d) e) (aAV _ gg rfl) ⟨by rw[Array.size_push,n.1],λj v t=>?_⟩ λh'' L c' kp' xi r=>?_⟩)
   (by rw[n.1];lia) (by show(B.push<|.ref T).size<=sizeLine+1;rw[Array.size_push,n.1];lia)
  .rw[Array.getElem?_push]at t;split at t
   .rename_i q;cases t;rw[n.1]at q;subst q;refine⟨T,x,y,rfl,hx,hy,I T _ (f _ _ E) hP,H,?_⟩;cases q0:h0.get? T with
    |none=>rfl
    |some o=>exact absurd rfl (f T o<|p T o H q0)
   .obtain⟨J,x',y',e1,e2,e3,e4,u,e6⟩:=n.2 j v t;have n5:J≠S:=λq=>u (by simp[q]);exact⟨J,x',y',e1,e2,e3,I J _ n5 (kp J _ (m J u) e4),u,e6⟩
  .refine hR h'' L c' (λb o d e=>kp' b o d (I b o (λq=>d (by simp[q]))<|kp b o (m b d) e)) xi r
end
section
def cI {Q:A3}(St:de->Prop)(O:∀d:be,St d.heap->d.TypeIs (.ref I) T)(C:∀h h',St h->(∀b o,b≠s.heap.objs.size->h.get? b=some o->h'.get? b=some o)->St h')(t:I≠s.heap.objs.size)
  (n1:(aCu T==aCu "list")=false) (n2:(aCu T==aCu "tuple")=false) (U:∀{M:Model} {A:cy} {E:A3} {s:be} {Q:Fin->be->Prop} {a b:Sem Fin},(room=true->a9 M A a Q E s)->(room=false->a9 M A b Q E s)->a9 M A (if(room||["set", "frozenset", "dict", "dict_keys", "dict_values", "dict_items"].any (aCu T==aCu ·))=true then a else b) Q E s)
  (j:∀(d:be) (Q:A3) (E:A3),St d.heap->Q (.ref I) d->a9 (cq prog w) A.in1.in1 (pyIter (.ref I)) Q E d)
  (hint:∀(d:be) (Q:wJ) (E:A3),St d.heap->Q room d->a9 (cq prog w) A.in1.in1 (aCH (.ref I)) Q E d) (Y:St s.heap)
  (f:∀(p:de) (c:Nat) (R:Result->be->Prop),(∀b o,s.heap.get? b=some o->p.get? b=some o)->St p->p.get? s.heap.objs.size=some {cls:=.type "list",dict:=none,data:=.seq #[] c,slots:=#[]}->(∀s',Q (.ref s.heap.objs.size) s'->R (.ok (.ret .none)) s')->
   gy (cq prog w) A.in1 (.builtin "list.extend.loop" ⟨[.ref s.heap.objs.size,.ref I,.none],[]⟩) R {s with heap:=p}):
  a9 (cq prog w) A (call (.type "list") [.ref I]) Q E s:=by
 refine callType_codes (Q₁:=λk H=>k=.ref s.heap.objs.size/\H={s with heap:=s.heap.push {cls:=.type "list",data:=.seq #[]}}) F.called_list (F.typeCall_list_1 _) F.entry_list_init
  (code_list_new _ ⟨rfl,rfl⟩) λk H l=>?_
 obtain⟨rfl,rfl⟩:=l;have r:(s.heap.push {cls:=.type "list",data:=.seq #[]}).get? s.heap.objs.size=some {cls:=.type "list",data:=.seq #[]}:=aAn _ rfl;have J:∀b o,s.heap.get? b=some o->b≠s.heap.objs.size:=λb o e=>aAl (aAf e);refine⟨⟨_,r,rfl⟩,F.args_list_init_2 _ _,?_⟩;show a9 _ A.in1.in1 (do let u<-aCL (.ref s.heap.objs.size);Builtin.List.listUpdate (.ref s.heap.objs.size) (λ_=>#[]);letGo u.toList.reverse;aCe (.ref s.heap.objs.size) (.ref I) .none) _ _ _;refine aAa ?_;unfold aCL;refine aAa (aBu r rfl<|aAb ?_);show a9 _ A.in1.in1 (gW s.heap.objs.size (λ_=>#[])>>=λ_=>letGo (#[]:Array ae).toList.reverse>>=λ_=>aCe (.ref s.heap.objs.size) (.ref I) .none) _ _ _;refine aAa (aBD r rfl ?_);have i:=aAV (aBG<|λ_=>(#[]:Array ae)) r rfl;refine aAa (aCI ?_);generalize v:(s.heap.push {cls:=.type "list",data:=.seq #[]}).update s.heap.objs.size (aBG<|λ_=>(#[]:Array ae))=g at*
 have x:∀b o,s.heap.get? b=some o->g.get? b=some o:=λb o e=>by rw[<-v];exact(aAx _ _<|aBV<|J b o e).trans (aAc _ e)
 have m:St g:=C s.heap g Y λb o _ e=>x b o e;have y:aDb (.ref s.heap.objs.size) (.ref I)=false:=by simp[aDb,aBV t]
 have z:Shared.TypeIs {s with heap:=g} (.ref I) T:=O {s with heap:=g} m;unfold aCe;refine aAa (aDT z ?_);simp only[y,n1,n2,Bool.or_false,aAq,if_false];refine aAa (j _ _ _ m ?_);refine aAa (aAL<|hint _ _ _ m ?_);refine U (λ_=>?_) (λ_=>?_)
 .show a9 _ A.in1.in1 (rule "list.extend.makes-room">>=λ_=>aFP (.ref s.heap.objs.size)>>=λ_=>again (.builtin "list.extend.loop" ⟨[.ref s.heap.objs.size,.ref I,.none],[]⟩)) _ _ _;refine aAa (aDG ?_);refine aAa ?_;show a9 _ A.in1.in1 (gW s.heap.objs.size (·.push .none)>>=λ_=>gW s.heap.objs.size (·.pop)) _ _ _;refine aAa (aBD i rfl ?_);have n:=aAV (aBG (·.push Value.none)) i rfl;refine aBD (hz:=by seq_fits) n rfl ?_;have B:=aAV (aBG (·.pop)) n rfl;have L:∀b o,b≠s.heap.objs.size->g.get? b=some o->((g.update s.heap.objs.size (aBG (·.push Value.none))).update s.heap.objs.size (aBG (·.pop))).get? b=some o:=
   λb o N e=>(aAx _ _<|aBV N).trans ((aAx _ _<|aBV N).trans e)
  exact aAb ⟨aBz aDf _,f _ _ _ (λb o e=>L b o (J b o e) (x b o e)) (C g _ m L) B λs' q=>⟨rfl,q⟩⟩
 .exact aAb ⟨aBz aDf _,f _ _ _ x m i λs' q=>⟨rfl,q⟩⟩
def HA:typeLookup (.type "zip") "__len__"=pure none:=by rw[aDF,aCs];kernel_rfl
def BC:typeLookup (.type "zip") "__length_hint__"=pure none:=by rw[aDF,aCs];kernel_rfl
def OA {Q:A3}(u:A.handled=none)(D:ZipApart z TI TO f g i l)(y:Y.size=m.size)(C:Y.size<=sizeLine)(st:MI z TI TO f g i l Y m 0 s.heap)(H:∀h' B c,(∀b o,b∉[z,TO,f,g]->s.heap.get? b=some o->h'.get? b=some o)->h'.get? s.heap.objs.size=some {cls:=.type "list",dict:=none,data:=.seq B c,slots:=#[]}->Pairs s.heap Y m B Y.size h' [z,TO,f,g,s.heap.objs.size]->Q (.ref s.heap.objs.size) {s with heap:=h'}):
  a9 (cq prog w) A (call (.type "list") [.ref z]) Q E s:=by
 have lt:∀b∈[z,TI,TO,f,g,i,l],b≠s.heap.objs.size:=λb d=>by
  obtain⟨⟨I,J,p,_⟩,L,⟨a,b',N⟩,⟨o1,O,_⟩,⟨o2,U,_⟩,⟨o3,g3,_⟩,⟨o4,g4,_⟩⟩:=st;simp only[aAd,aAJ,or_false]at d;rcases d with rfl|rfl|rfl|rfl|rfl|rfl|rfl
  .exact aAl (aAf p)
  .exact aAl (aAf L)
  .exact aAl (aAf N)
  .exact aAl (aAf O)
  .exact aAl (aAf U)
  .exact aAl (aAf g3)
  .exact aAl (aAf g4)
 refine cI (T:= "zip") (room:=true) (MI z TI TO f g i l Y m 0) (λn h=>h.type) (λh h' x k=>x.keeps λb o d e=>k b o (lt b d) e) (lt z (by simp)) (by decide) (by decide) (λr h2=>by rw[kn (by decide)];exact r rfl)
  (λn Q E x q=>?_) (λn Q E x q=>?_) st λr c R t mD hS hR=>?_
 .obtain⟨⟨I,J,p,_⟩,_⟩:=id x;refine aEh x.type F.slot_zip_iter (aBe F.slot_zip_iter x.type F.entry_zip_iter ?_ (F.args_zip_iter_1 _));show a9 _ _ (ret<|.ref z) _ _ n;exact aAb ⟨_,rfl, "zip",_,x.type,aEa.lookup,q⟩
 .unfold aCH;refine aAa (aBB x.type HA ?_);show a9 _ _ (specialOf (aDC z) (aCD "__length_hint__")>>=_) _ _ _;exact aAa (aBB x.type BC<|aAb q)
 .refine OE (by simpa using u) D y C s.heap.objs.size (λh=>lt _ h rfl) .none s.heap Y.size 0 _ #[] c (by lia) (aAX _) (λb o _ e=>t b o e) mD hS ⟨rfl,λj v h=>by simp at h⟩ λh' jr c' kp gg hP=>hR _ (H h' jr c' (λb o d e=>kp b o ?_ (t b o e)) gg hP);have:=aAl (aAf e);simp only[aAd,aAJ,or_false,not_or]at d⊢;exact⟨d.1,d.2.1,d.2.2.1,d.2.2.2,this⟩
def IC:typeLookup (.type "list_reverseiterator") "__len__"=pure none:=by rw[aDF,aCs];kernel_rfl
def MF:typeLookup (.type "list_reverseiterator") "__length_hint__"=pure (some (.builtin "list_reverseiterator.__length_hint__")):=by rw[aDF,aCs];kernel_rfl
def MJ {Q:A3}(C:A.handled=none)(H:l≠r)(I:Y.size<=sizeLine)(p:s.heap.IsRevIter r l ((Y.size:Int)-1))(t:s.heap.IsList l Y)(J:∀h' tk c,(∀b o,b≠r->s.heap.get? b=some o->h'.get? b=some o)->h'.get? s.heap.objs.size=some {cls:=.type "list",dict:=none,data:=.seq Y.reverse c,slots:=#[]}->Q (.ref s.heap.objs.size) {s with heap:=h',toks:=tk}):
  a9 (cq prog w) A (call (.type "list") [.ref r]) Q E s:=by
 have j:r≠s.heap.objs.size:=by obtain⟨o,g,_⟩:=p;exact aAl (aAf g)
 have u:l≠s.heap.objs.size:=by obtain⟨o,g,_⟩:=t;exact aAl (aAf g)
 refine cI (T:= "list_reverseiterator") (room:=false) (λh=>h.IsRevIter r l ((Y.size:Int)-1)/\h.IsList l Y) (λv h=>h.1.typeIs) (λh h' x k=>⟨x.1.at λo e=>k r o j e,x.2.at λo e=>k l o u e⟩) j (by decide) (by decide)
  (λL N=>by rw[ku (by decide)];exact N rfl) (λv Q E x q=>wpAny_pyIter_revIter x.1 q) (λv Q E x q=>?_) ⟨p,t⟩ λL c R O mD U hR=>?_
 .have m:=x.1.typeIs;unfold aCH;refine aAa (aBB m IC ?_);show a9 _ _ (specialOf (aDC r) (aCD "__length_hint__")>>=_) _ _ _;refine aAa (aBB m MF ?_)
  (generalize hid:("list_reverseiterator.__length_hint__":String)=a;(fail_if_success (clear hid a));wp_delta;rw[show splitId a=some ("list_reverseiterator", "__length_hint__")from by subst hid;decide+kernel];subst hid)
  refine aAa (aDj (b:=true) m (by rw[aFk];kernel_rfl) ?_);exact aAb q
 .have W:=(Walks.listRev (prog:=prog) (w:=w) (A:=A.in1.in1) (by simp[C]) r l H Y).toS;refine codeAny_extend_loopS W I s.heap.objs.size (by simp only[aAd,aAJ,or_false,not_or];exact⟨aBV j,aBV u⟩) .none Y.size 0 _ #[] c (by lia) (aAX _) ⟨aAX _,by simpa using mD.1,mD.2⟩ U (ItemsOf.nil _) λd y c' f gg n=>hR _ ?_;have ea:y=Y.reverse:=by
   apply Array.ext';apply aEf;intro i;rw[aAE,aAE];by_cases z:i<Y.size
   .have B:i<y.size:=by rw[n.1];exact z
    have:=n.2 i _ (aAD B);rw[aAD B,Array.getElem?_reverse z,this]
   .rw[aCk (by rw[n.1];lia),aCk (by simp;lia)]
  subst ea;have g0:d.gens=s.gens:=f.gens;have d0:d.drawn=s.drawn:=f.drawn;have o0:d.os=s.os:=f.os;obtain⟨h',g',d',yi,os'⟩:=d;subst g0 d0 o0;refine J h' yi c' (λb o hb e=>?_) gg;exact f.heap b o (by simp only[aAd,aAJ,or_false,not_or];exact⟨aAl (aAf e),hb⟩) (O b o e)
end
end SZ
namespace DL
open PySem PySem.Spec L2
open PyProof.Rows hiding St
section
variable [Tabs]
section
def lz:D->R (List D)
 |.lst Y=>.ok Y.reverse
 |_=>.bad
def BL (ha:PB X e f)(hh:X.calm=true)(hg:Gl X "reversed":=by rfl)(hm:X.mg "reversed"=none:=by assumption)(yr:Gl X "list":=by rfl)(ju:X.mg "list"=none:=by assumption)(hv:dq "reversed"=some (.type "reversed"):=by decide+kernel)(B:dq "list"=some (.type "list"):=by decide+kernel)(U:bb [e] X.env=(false,d3 e X.env)::bb [] X.env:=by rfl)(bc:(dn k (bb [] X.env)).any (·.1)=false:=by rfl)(Y:bb [.Call (.Name "reversed" C) [e] [] k] X.env=(false,d3 (.Call (.Name "reversed" C) [e] [] k) X.env)::bb [] X.env:=by rfl)(ud:(dn i (bb [] X.env)).any (·.1)=false:=by rfl)(J:dn i (bb [] X.env)=[]:=by rfl):
  PF X (.Call (.Name "list" p) [.Call (.Name "reversed" C) [e] [] k] [] i) (λρ=>(f ρ).bind lz):=by
 refine wA λl s σ H Q I H9 O0 O ρ E q=>?_;dsimp only at q;refine aAW (O6 I yr ju B ?_ (by decide) (by decide));refine aBm ?_ Y ud;rw[Y];show a9 _ _ (spliced ((false,d3 (.Call (.Name "reversed" C) [e] [] k) X.env)::dn i (bb [] X.env))) _ _ s;refine aFb (aAW (O6 I hg hm hv ?_ (by decide) (by decide)));have kr:PA X [e] _:=N1 ha bH U;refine aBm (D4 (kr k l s σ H (λj m=>∃v n,j=[v]/\f ρ=.ok (.lst n)/\Same H m/\B0 X.K m O v (.lst n)) I ⟨H9,O0,O,ρ,E,?_⟩) λA h z9=>?_) U bc
 .cases L:f ρ with
  |ex z=>rw[L]at q;exact q
  |bad=>rw[L]at q;exact q.elim
  |ok d=>
   rw[L,R.aa0]at q;cases d with
   |lst n=>exactλv m h N=>⟨v,n,rfl,rfl,h,N⟩
   |_=>exact aAh q
 .obtain⟨j,m,w,N,v,n,ev,ef,sm,rb⟩:=z9;subst ev;rw[ef,R.aa0]at q;obtain⟨a,T,rfl,hS,rr⟩:=rb.aa5;obtain⟨u,rfl,ru⟩:=vals1 N;cases ru;obtain⟨g,rv,⟨oL,nL,gL,cL,dL,sL⟩,zL⟩:=w.list hS;have hl:h.heap.IsList a g.toArray:=⟨oL,gL,cL,nL,sL⟩;refine call_reversed_list hl ?_;rw[J];refine aFs ?_;have ge:a≠h.heap.objs.size:=aAl (aAf gL);have I2:=w.kept (h':=h.heap.push (revObj a<|(g.toArray.size:Int)-1)) (t':=h.toks) λb u e=>aAc _ e;refine SZ.MJ (s:={h with heap:=h.heap.push (revObj a<|(g.toArray.size:Int)-1)}) (w.ok.hd hh) ge (by rw[aAm,<-rv.length];exact zL) ⟨_,aAn _ rfl,rfl,rfl⟩ (hl.push _) λh' tk c kp gl=>?_;have kk:∀b u,h.heap.get? b=some u->h'.get? b=some u:=λb u e=>kp b u (aAl<|aAf e) (aAc _ e);have x:h.heap.objs.size<=(h.heap.push<|revObj a<|(g.toArray.size:Int)-1).objs.size:=by rw[aBt];lia
  have y:l9 T.reverse g.reverse:=by
   have:∀{j:List V} {A:List ae},l9 j A->l9 j.reverse A.reverse:=λ{j A} r=>by
    induction r with
    |nil=>exact .nil
    |cons r t ih=>rw[aAP,aAP];exact ih.append (.cons r .nil)
   exact this rv
  have I3:=w.laid (a:=(h.heap.push<|revObj a<|(g.toArray.size:Int)-1).objs.size) (o:=.lst T.reverse) (h':=h') (t':=tk) kk x ⟨by rw[aCJ];exact zL,g.reverse,c,y,by rw[gl];simp⟩;exact⟨.ref _,_,I3,rfl,q T.reverse m _ sm (w.hok.fresh x) rr.reverse⟩
def _root_.L2.Inv.ae3 (I:Inv X d σ H s)(k:∀b u,s.heap.get? b=some u->h'.get? b=some u)(a:Same H Hn)(f:∀b u,H b=none->Hn b=some u->s.heap.get? b=none/\ObjOk X.prog X.w Hn h' b u):
  Inv X d σ Hn {s with heap:=h',toks:=t'}:=by
 refine I.un ⟨λb o e _ _ _=>k b o e,λb o e _ _ _=>⟨o.slots,k b o e⟩,λb o e n _=>?_,λb o e _=>⟨o,k b o e⟩,λb Y e=>a _ _ e,λb o u e=>a _ _ e,λb h e=>a _ _ e⟩ λb u e=>?_
 .cases q:Hn b with
  |none=>rfl
  |some u=>rw[(f b u n q).1]at e;cases e
 .cases q:H b with
  |none=>exact(f b u q e).2
  |some g=>have:=a b g q;rw[e]at this;cases this;exact(I.hok b u q).ab8 (λc v _ z=>k c v z) (λc z=>a _ _ z) λc u _ z=>a _ _ z
def kC (Y d:List D):List D:=List.zipWith (λa b=>D.tup [a,b]) Y d
def QX:List D->R (List D)
 |[.lst Y,.lst a]=>if Y.length=a.length then .ok (kC Y a)else .bad
 |_=>.bad
def IT {K:lb}{i:Hp}{O:cp->Prop}{h0 h':de}{l:cp}(hf:∀b,h0.get? b=none->i b=none):∀{Y h:List D} {m p B:List ae},u9 K i O m Y->u9 K i O p h->Y.length=h.length->
  (∀(j:Nat) (v:ae),B[j]?=some v->∃T x y,v=.ref T/\m[j]?=some x/\p[j]?=some y/\hE h' T x y/\T≠l/\h0.get? T=none)->B.length=Y.length->
  ∃(vs:List V) (Hn:Hp),l9 vs B/\Same i Hn/\(∀b u,i b=none->Hn b=some u->h0.get? b=none/\b≠l/\∃ws its,u=.tup ws/\ws.length<=2/\l9 ws its/\IsTup h' b its.toArray)/\Reps K Hn O vs (kC Y h):=by
 intro Y h m p B;induction B generalizing Y h m p with
 |nil=>
  intro s t z _ A;cases Y with
  |nil=>cases h with
   |nil=>exact⟨[],i,.nil,Same.refl _,λb u n q=>(by rw[n]at q;cases q),.nil⟩
   |cons _ _=>cases z
  |cons _ _=>cases A
 |cons v B ih=>
  intro s t z hP A;cases s with
  |nil=>cases A
  |@cons u d m Y rx s=>
   cases t with
   |nil=>cases z
   |@cons J d' p h ry t=>
    obtain⟨T,x,y,rfl,ex,ey,hp,nl,r⟩:=hP 0 v rfl;cases ex;cases ey;obtain⟨vs,Hn,r1,k,L,rr⟩:=ih s t (by simpa using z) (λj v hj=>by obtain⟨T,x,y,e1,N,e3,e4⟩:=hP (j+1) v (by simpa using hj);exact⟨T,x,y,e1,by simpa using N,by simpa using e3,e4⟩) (by simpa using A)
    obtain⟨C,Q,e⟩:=rx;obtain⟨E,U,f⟩:=ry;have v2:l9 [C,E] [u,J]:=.cons Q (.cons U .nil);cases q:Hn T with
    |none=>
     have H:Same Hn (upd Hn T<|.tup [C,E]):=j7 q _;refine⟨.ref T::vs,upd Hn T (.tup [C,E]),.cons rfl r1,k.trans H,λb w n I=>?_,.cons (.tup (T8.of j3) (.cons ((e.same k).same H) (.cons ((f.same k).same H) .nil))) (rr.same H)⟩;by_cases hb:b=T
     .subst hb;rw[j3]at I;cases I;exact⟨r,nl,_,_,rfl,by simp,v2,⟨_,hp,rfl,0,rfl⟩⟩
     .rw[l4 hb]at I;exact L b w n I
    |some w=>
     obtain⟨_,_,ws,its,rfl,_,vw,⟨o,g,_,n,dd⟩⟩:=L T w (hf T r) q;have hp':h'.get? T=some {cls:=.type "tuple",data:=.seq #[u,J]}:=hp;rw[hp']at g;cases g;have N:its=[u,J]:=by have:=la (λd=>match d with|Data.seq a _=>a.toList|_=>[]) dd;simpa using this.symm
     subst N;have:ws=[C,E]:=vw.inj v2;subst this;exact⟨.ref T::vs,Hn,.cons rfl r1,k,L,.cons (.tup (T8.of q) (.cons (e.same k) (.cons (f.same k) .nil))) rr⟩
def AT {e1 e2:dm}{p p2 J:Pos}{L N:Ev->R D}(ha1:PB X e1 L)(ha2:PB X e2 N)(hh:X.calm=true)(hg:Gl X "zip":=by rfl)(hm:X.mg "zip"=none:=by assumption)(yr:Gl X "list":=by rfl)(ju:X.mg "list"=none:=by assumption)
  (hv:dq "zip"=some (.type "zip"):=by decide+kernel) (hv2:dq "list"=some (.type "list"):=by decide+kernel)
  (he1:bb [e2] X.env=(false,d3 e2 X.env)::bb [] X.env:=by rfl) (he:bb [e1,e2] X.env=(false,d3 e1 X.env)::bb [e2] X.env:=by rfl) (bc:(dn J (bb [e2] X.env)).any (·.1)=false:=by rfl)
  (kl:bb [.Call (.Name "zip" p2) [e1,e2] [] J] X.env=(false,d3 (.Call (.Name "zip" p2) [e1,e2] [] J) X.env)::bb [] X.env:=by rfl) (ud:(dn r (bb [] X.env)).any (·.1)=false:=by rfl) (hnl:dn r (bb [] X.env)=[]:=by rfl):
  PF X (.Call (.Name "list" p) [.Call (.Name "zip" p2) [e1,e2] [] J] [] r) (λρ=>(m8 L (m8 N M9) ρ).bind QX):=by
 refine wA λU s σ H Q I H9 O0 O ρ E q=>?_;dsimp only at q;refine aAW (O6 I yr ju hv2 ?_ (by decide) (by decide));refine aBm ?_ kl ud;rw[kl];show a9 _ _ (spliced ((false,d3 (.Call (.Name "zip" p2) [e1,e2] [] J) X.env)::dn r (bb [] X.env))) _ _ s;refine aFb (aAW (O6 I hg hm hv ?_ (by decide) (by decide)));have kr:XZ X [e1,e2] (m8 L<|m8 N M9):=B8 ha1 (B8 ha2 J3 he1) he;refine aBm (D4 (kr J U s σ H (λk m=>∃v1 v2 Y f,k=[v1,v2]/\m8 L (m8 N M9) ρ=.ok [.lst Y,.lst f]/\Y.length=f.length/\Same H m/\B0 X.K m O v1 (.lst Y)/\B0 X.K m O v2 (.lst f)) I ⟨H9,O0,O,ρ,E,?_⟩) λus d z9=>?_) he bc
 .cases e1:m8 L (m8 N M9) ρ with
  |ex z=>rw[e1]at q;exact q
  |bad=>rw[e1]at q;exact q.elim
  |ok ds=>
   rw[e1,R.aa0]at q;match ds,q with
   |[.lst Y,.lst f],q=>
    simp only[QX]at q;by_cases hc:Y.length=f.length
    .intro k m d t;cases t with
     |cons ra t=>cases t with
      |cons rb t=>cases t with
       |nil=>exact⟨_,_,Y,f,rfl,rfl,hc,d,ra,rb⟩
    .rw[ku hc]at q;exact aAh q
 .obtain⟨k,m,I1,t,v1,v2,Y,f,ev,ef,w,sm,rb1,rb2⟩:=z9;subst ev;rw[ef,R.aa0]at q;simp only[QX]at q;rw[kn w]at q;obtain⟨a,wx,rfl,hSx,rx⟩:=rb1.aa5;obtain⟨b,wy,rfl,hSy,ry⟩:=rb2.aa5;obtain⟨u1,u2,rfl,ru1,ru2⟩:=vals2 t;cases ru1;cases ru2;obtain⟨A,g,⟨oX,nX,gX,cX,dX,sX⟩,zX⟩:=I1.list hSx;obtain⟨C,rvy,⟨oY,nY,gY,cY,dY,sY⟩,zY⟩:=I1.list hSy;have hlx:d.heap.IsList a A.toArray:=⟨oX,gX,cX,nX,sX⟩;have hly:d.heap.IsList b C.toArray:=⟨oY,gY,cY,nY,sY⟩;refine call_zip_2 hlx hly λh z1 z2 z3 z4 z5 zsz k1=>?_;rw[hnl];refine aFs ?_;have lx:A.length=Y.length:=by rw[<-g.length,rx.length]
  have ly:C.length=f.length:=by rw[<-rvy.length,ry.length]
  have I2:=I1.kept (h':=h) (t':=d.toks) k1;have D:=zipApart_new (n:=d.heap.objs.size) (aAf gX) (aAf gY);refine SZ.OA (s:={d with heap:=h}) (I1.ok.hd hh) D (by rw[aAm,aAm,lx,ly,w]) (by rw[aAm,<-g.length];exact zX) ⟨⟨_,_,z1,.inl rfl⟩,z2,⟨_,_,z3⟩,z4,z5,hlx.at λo e=>k1 _ o e,hly.at λo e=>k1 _ o e⟩ λh' B c kp gl hP=>?_;have k12:∀b u,d.heap.get? b=some u->h'.get? b=some u:=λb u e=>kp b u (by have i:=aAf e;simp only[aAd,aAJ,or_false,not_or];exact⟨aAl (aAw i<|aFK _ _),aAl (aAw i<|aFK _ _),aAl i,aAl (aAw i<|aFK _ _)⟩) (k1 b u e)
  have sx:u9 X.K m O A Y:=u9.of g rx;have sy:u9 X.K m O C f:=u9.of rvy ry;obtain⟨k,Hn,rva,smn,og,rr⟩:=IT (h0:=h) (h':=h') (l:=h.objs.size) (λb i=>by
   cases q:m b with
   |none=>rfl
   |some u=>exact absurd i ((I2.hok b u q).live)) (B:=B.toList) sx sy w (λj v hj=>by
   obtain⟨T,x,y,e1,e2,e3,e4,e5,e6⟩:=hP.2 j v (by rw[<-aAE];exact hj);exact⟨T,x,y,e1,by simpa using e2,by simpa using e3,e4,λz=>e5 (by simp[z]),e6⟩) (by rw[aAM,hP.1,aAm,lx])
  have hls:Hn h.objs.size=none:=by
   cases q:Hn h.objs.size with
   |none=>rfl
   |some u=>have:=(og _ u (I2.hok.fresh<|aAg _) q).2.1;exact absurd rfl this
  have hlen:k.length<=sizeLine:=by rw[rva.length,aAM,hP.1,aAm,<-g.length];exact zX
  have s3:Same Hn (upd Hn h.objs.size<|.lst k):=j7 hls _;have I3:=I1.ae3 (Hn:=upd Hn h.objs.size (.lst k)) (h':=h') (t':=d.toks) k12 (smn.trans s3) (λb u n qb=>by
   by_cases i:b=h.objs.size
   .subst i;rw[j3]at qb;cases qb;refine⟨aEx (by rw[zsz];lia),hlen,B.toList,c,rva,by rw[gl]⟩
   .rw[l4 i]at qb;obtain⟨h0b,_,ws,its,rfl,l2,vw,tt⟩:=og b u n qb;refine⟨?_,aAp l2 (by decide),its,vw,tt⟩;cases z:d.heap.get? b with
    |none=>rfl
    |some o=>rw[k1 b o z]at h0b;cases h0b)
  exact⟨.ref _,_,I3,rfl,q k Hn _ (sm.trans smn) hls rr⟩
end
mutual
def jD:D->Nat
 |.tup Y=>J4 Y+1
 |_=>1
def J4:List D->Nat
 |[]=>0
 |x::Y=>jD x+J4 Y
end
theorem dE:∀Y a:List D,J4 (Y++a)=J4 Y+J4 a
 |[],a=>by simp[J4]
 |x::Y,a=>by rw[aBr,J4,J4,dE Y a];lia
section
variable{prog:cu} {w:cz}
def PHe (prog:cu)(w:cz)(h:de)(v:ae)(d:D):Prop:=∀(A:cy) (E:A3) (s:be) (Q:Int->be->Prop),s.heap=h->A.units+8*A7 d<df->Q (n9 d) {s with toks:=s.toks+jD d}->a9 (cq prog w) A (pyHash v) Q E s
mutual
theorem NC:∀{v:ae} {d:D},HV h v d->PHe prog w h v d
 |_,_,.int i t=>λA E s Q H I q=>(intKind prog w).pyHash (k:=i) (intKind_is _ _ _ _) q
 |_,_,.tup (a:=a) (B:=B) (ds:=ds) p r=>λA E s Q H I q=>by
  have fs:=EN r;subst H;obtain⟨o,J,O,n,T⟩:=p;have l:s.TypeIs (.ref a) "tuple":=⟨o,J,O⟩;have y:A.units<df:=by lia
  rw[A7]at I;unfold pyHash;first|unfold pyHashByItsType|skip
  first|refine aAa (wpAny_cRoomFor_or (.inr y) ?_)|skip
  refine aAa (aBB l PySem.F.slot_tuple_hash.lookup ?_);show a9 _ _ (if(some (aGB "tuple.__hash__")==some Value.none)=true then _ else _) Q E s;rw[ku (by rw[aFI];exact aBc)];refine aAa (aBB l PySem.F.slot_tuple_hash.lookup ?_);show a9 _ _ (callSpecialIfBoundUnlessNone? (.ref a) "__hash__" _>>=_) Q E s;refine aAa (aDx l PySem.F.slot_tuple_hash<|aBe PySem.F.slot_tuple_hash l PySem.F.entry_tuple_hash ?_ (PySem.F.args_tuple_hash_1 _));show a9 _ _ (aDJ (.ref a)>>=_) _ _ s;refine aAa (wpAny_tupleItemsOf J T ?_);refine aAa ?_;rw[<-aCv];refine aCh _
   (λrest (b:Array Int) z=>∃done left,ds=done++left/\Paired (PHe prog w s.heap) rest left/\b.toList=done.map n9/\z={s with toks:=s.toks+J4 done})
   _ ?_ ?_ _ _ ⟨[],ds,rfl,fs,rfl,rfl⟩
  .rintro x rest b z ⟨done,left,f,C,m,rfl⟩;cases C with
   |@cons _ d _ e U L=>
    refine aAa (U _ _ _ _ rfl ?_ ?_)
    .have:A7 d<=w8 ds:=by rw[f];exact lX (j:=done.length) (by simp)
     rw[l5];lia
    have N:s.toks+J4 done+jD d=s.toks+J4 (done++[d]):=by rw[dE];simp[J4];lia
    first
     |exact aAb ⟨done++[d],e,by simp[f],L,by simp[m],by rw[<-N]⟩
     |exact aAa (aAb (aAb ⟨done++[d],e,by simp[f],L,by simp[m],by rw[<-N]⟩))
  .rintro b z ⟨done,left,f,C,m,rfl⟩;cases C;rw[aBR]at f;subst f;show a9 _ _ (retInt<|aAS b.toList) _ _ _;rw[m];refine wpAny_ret_mkInt ?_;show a9 _ _ (if(decide (-(2:Int)^63<=aAS (ds.map n9))&&decide (aAS (ds.map n9)<2^63))=true then _ else _) Q E _;have g:=q;rw[n9,fG,jD]at g;unfold reduceHash at g;by_cases u:(decide (-(2:Int)^63<=aAS (ds.map n9))&&decide (aAS (ds.map n9)<2^63))=true
   .rw[kn u];rw[kn u]at g;exact aAb g
   .rw[ku u];rw[ku u]at g;exact aAa (aDG<|aAb g)
theorem EN:∀{v:List ae} {d:List D},HVs h v d->Paired (PHe prog w h) v d
 |_,_,.nil=>.nil
 |_,_,.cons r t=>.cons (NC r) (EN t)
end
end
theorem dP:∀{n:Nat} {d:D},L5 n d=true->lA d=true/\A7 d<=n
 |n,.int i,_=>⟨rfl,by simp[A7]⟩
 |0,.tup Y,h=>by simp[L5]at h
 |n+1,.tup Y,h=>by
  have g:Y.all (L5 n)=true:=by simpa[L5]using h
  have e:∀a:List D,a.all (L5 n)=true->bX a=true/\w8 a<=n:=λa=>by
   induction a with
   |nil=>intro _;exact⟨rfl,aAX _⟩
   |cons y a j=>intro f;simp only[aGA,aAK]at f;obtain⟨k,o⟩:=dP f.1;obtain⟨l,p⟩:=j f.2;exact⟨by show(lA y&&bX a)=true;rw[k,l];rfl,by show max (A7 y) (w8 a)<=n;lia⟩
  obtain⟨m,q⟩:=e Y g;exact⟨m,by show w8 Y+1<=n+1;lia⟩
 |n,.non,h=>by cases n<;>simp[L5]at h
 |n,.dct,h=>by cases n<;>simp[L5]at h
 |n,.bl b,h=>by cases n<;>simp[L5]at h
 |n,.str x,h=>by cases n<;>simp[L5]at h
 |n,.lst Y,h=>by cases n<;>simp[L5]at h
mutual
theorem HV.ac0 (k:∀b o,h.get? b=some o->(∃its n,o.data=.seq its n)->h'.get? b=some o):∀{v:ae} {d:D},HV h v d->HV h' v d
 |_,_,.int i t=>.int i t
 |_,_,.tup p r=>.tup (by obtain⟨o,e,c,n,d⟩:=p;exact⟨o,k _ _ e ⟨_,n,d⟩,c,n,d⟩) (HVs.ac0 k r)
theorem HVs.ac0 (k:∀b o,h.get? b=some o->(∃its n,o.data=.seq its n)->h'.get? b=some o):∀{v:List ae} {d:List D},HVs h v d->HVs h' v d
 |_,_,.nil=>.nil
 |_,_,.cons r t=>.cons (HV.ac0 k r) (HVs.ac0 k t)
end
instance decD:DecidableEq D:=λa b=>aDe _
def kR (prog:cu) (w:cz):HeapKind prog w D where
 is:=λh d a=>HV h (.ref a) d/\A7 d<8
 hash:=n9
 draws:=jD
 room:=λA=>A.units+128<df
 inj:=λx y=>HV.inj x.1 y.1
 keeps:=λ{h u k a d o v B} x j l m=>⟨x.1.ac0<|by rintro b C e ⟨p,n,q⟩;exact(m.2 b (λz=>by subst z;rw[j]at e;cases e;rw[l]at q;cases q)).trans e,x.2⟩
 pyHash:=λ{A E s k a Q} r f q=>NC f.1 A E s Q rfl (by have:=f.2;lia) q
 eqBool:=λ{A E s x y a b Q} r g i q=>by
  have t:=rM (A:=A) g.1 i.1 (by have:=g.2;lia);refine t prog w E Q ?_;have e:t7 x y=decide (x=y):=by
   by_cases h:x=y
   .subst h;rw[M1,decide_eq_true rfl]
   .rw[decide_eq_false h];cases z:t7 x y with
    |false=>rfl
    |true=>exact absurd (W9 g.1.ok i.1.ok z) h
  rw[e];exact q
 quiet:=λ{A E s k a Q} f q=>gN 8 f.1 f.2 _ A E s Q rfl q
open Classical in
def bO (J:List (D×D)) (k v:D):List (D×D):=if k∈J.map (·.1)then J.map (λp=>if p.1=k then(p.1,v)else p)else J++[(k,v)]
def GT (J:List (D×D))(k v:D)(h:(J.map (·.1)).Nodup):((bO J k v).map (·.1)).Nodup:=by
 unfold bO;split
 .rw[aBK];have:((λx=>x.1)∘λp:D×D=>if p.1=k then(p.1,v)else p)=λp=>p.1:=by funext p;simp only[Function.comp];split<;>rfl
  rw[this];exact h
 .rename_i n;rw[aCf,aCl];refine⟨h,by simp,λa f b d=>?_⟩;simp at d;subst d;exactλe=>n (e▸f)
section
theorem tY (I:Inv X d σ H s):∀{es:List gn} {J:List (D×D)},iS X.K H O es J->∃Y:List (D×cp×ae),es=Y.map (entryOfKey (kR X.prog X.w))/\Y.map (·.1)=J.map (·.1)/\(∀x∈Y,(kR X.prog X.w).is s.heap x.1 x.2.1)/\
  Paired (λ(x:D×cp×ae) (p:D×D)=>x.1=p.1/\Rep X.K H O (.ref x.2.1) p.1/\(∃v,RelV v x.2.2/\Rep X.K H O v p.2)/\L5 7 p.1=true) Y J
 |_,_,.nil=>⟨[],rfl,rfl,λx h=>(by cases h),.nil⟩
 |e::_,p::_,.cons ⟨⟨a,f,g⟩,j,i,k⟩ t=>by
  obtain⟨Y,l,m,n,o⟩:=tY I t;obtain⟨ok,r⟩:=dP k;refine⟨(p.1,a,e.val)::Y,?_,by rw[aAv,aAv,m],λx b=>?_,.cons ⟨rfl,g,j,k⟩ o⟩
  .rw[aAv,<-l];congr 1;obtain⟨q,u,y⟩:=e;simp only at f i;subst f i;rfl
  .rcases aAd.mp b with rfl|b
   .exact⟨J7 I g ok rfl,by show A7 p.1<8;lia⟩
   .exact n x b
theorem FC {P:cu}{w:cz}{K:lb}{H:Hp}{O:cp->Prop}:∀{Y:List (D×cp×ae)} {J:List (D×D)},Paired (λ(x:D×cp×ae) (p:D×D)=>x.1=p.1/\Rep K H O (.ref x.2.1) p.1/\(∃v,RelV v x.2.2/\Rep K H O v p.2)/\L5 7 p.1=true) Y J->iS K H O (Y.map (entryOfKey (kR P w))) J
 |_,_,.nil=>.nil
 |_,_,.cons ⟨e,a,b,k⟩ t=>.cons ⟨⟨_,rfl,a⟩,b,by rw[<-e];rfl,k⟩ (FC t)
def aN {Y:List (D×cp×ae)}{k:D}:(kd Y k).isSome=true↔k∈Y.map (·.1):=by unfold kd;rw[Option.isSome_map,List.find?_isSome];simp only[decide_eq_true_eq,aAk]
def lU (I:Inv X b σ H s)(h:H a=some (.ext λh=>h.get? a=some o))(d:AX a o es)(r:iS X.K H O es J)(f:(J.map (·.1)).Nodup):
  ∃Y,s.heap.DictOfH (kR X.prog X.w) a Y/\Y.map (·.1)=J.map (·.1)/\Paired (λ(x:D×cp×ae) (p:D×D)=>x.1=p.1/\Rep X.K H O (.ref x.2.1) p.1/\(∃v,RelV v x.2.2/\Rep X.K H O v p.2)/\L5 7 p.1=true) Y J:=by
 obtain⟨Y,i,e,j,k⟩:=tY I r;obtain⟨_,l,m,n,q,t⟩:=d;have g:s.heap.get? a=some o:=(I.hok a _ h).1;exact⟨Y,⟨o,m,n,g,l,q,by rw[t,i],j,by rw[e];exact f⟩,e,k⟩
def HD {K:lb}{Y:List (D×cp×ae)}{J:List (D×D)}{k d:D}{b:cp}{u:ae}{v:V}(g:Paired (λ(x:D×cp×ae) (p:D×D)=>x.1=p.1/\Rep K H O (.ref x.2.1) p.1/\(∃v,RelV v x.2.2/\Rep K H O v p.2)/\L5 7 p.1=true) Y J)(a:Y.map (·.1)=J.map (·.1))
  (l:Rep K H O (.ref b) k) (kk:L5 7 k=true) (i:RelV v u) (j:Rep K H O v d):
  Paired (λ(x:D×cp×ae) (p:D×D)=>x.1=p.1/\Rep K H O (.ref x.2.1) p.1/\(∃v,RelV v x.2.2/\Rep K H O v p.2)/\L5 7 p.1=true) (storedH Y k b u) (bO J k d):=by
 unfold storedH bO;by_cases h:k∈J.map (·.1)
 .rw[kn h,kn (aN.mpr (by rw[a];exact h))];clear a h;induction g with
  |nil=>exact .nil
  |@cons x p Y J r t f=>
   rw[aAv,aAv];refine .cons ?_ f;unfold putAt;by_cases e:p.1=k
   .rw[kn (r.1.trans e),kn e];exact⟨r.1,r.2.1,⟨v,i,j⟩,r.2.2.2⟩
   .rw[ku (λz=>e (r.1.symm.trans z)),ku e];exact r
 .rw[ku h,ku (λz=>h (by rw[<-a];exact aN.mp z))];clear a h;induction g with
  |nil=>exact .cons ⟨rfl,l,⟨v,i,j⟩,kk⟩ .nil
  |cons r t f=>exact .cons r f
end
section
variable{K:Type} [DecidableEq K] {knd:HeapKind prog w K}
def rA {Q:wJ}(g:knd.room A.in1)(b:knd.is s.heap k a)(i:(d==h9)=false)(e:s.heap.DictOfH knd d Y)
  (h:Q (kd Y k).isSome {s with toks:=s.toks+knd.draws k}):a9 (cq prog w) A (contains (.ref d) (.ref a)) Q E s:=by
 unfold contains;try with_reducible refine aAL ?_
 refine aAa (aBB e.typeIs aFf.lookup ?_);show a9 _ _ (if(some (aGB "dict.__contains__")==some Value.none)=true then _ else _) _ E s;rw[ku (by rw[aFI];exact aBc)];refine aAa (wpAny_callSpecialUnlessNone?_slot (name:=aCD "__contains__") e.typeIs aFf
  (aBe aFf e.typeIs entry_dict_contains ?_ (args_dict_contains _ _)))
 show a9 _ _ (dictGet d (.ref a)>>=_) _ _ s;refine aAa (wpAny_dictGet_heap g b e ?_);cases f:kd Y k with
 |some p=>rw[f]at h;show a9 _ _ (ret<|.bool true) _ _ _;exact aAb ⟨_,rfl,aBO h⟩
 |none=>rw[f]at h;show a9 _ _ (Builtin.Dict.pendingKey? d (.ref a)>>=_) _ _ _;exact aAa (wpAny_pendingKey_other i<|aAb ⟨_,rfl,aBO h⟩)
end
def wB:D->Bool
 |.tup _=>true
 |_=>false
open Classical in
def fT (i:Nat) (ρ:Ev) (k:D):R Bool:=match ρ[i]? with
 |some (.d J)=>if L5 7 k=true/\wB k=true then .ok (!decide (k∈J.map (·.1)))else .bad
 |_=>.bad
section
def bN {K:lb}{H:Hp}{O:cp->Prop}{v:V}{k:D}(r:Rep K H O v k)(h:wB k=true):∃a,v=.ref a:=by
 cases r with
 |tup h r=>exact⟨_,rfl⟩
 |_=>cases h
def iN (i:Nat){x:Str}{p:Pos}{f:Ev->R D}(ha:PD X e f)(hu:X.A.units+130<df)(hN:X.N[i]?=some x:=by rfl)(hv:vT X.env.scope x:=by first|exact aCn rfl|exact aBA (aCn rfl)|exact aBA (aBA rfl))
  (hd:(x==ll)=false:=by decide) (cg:(x==lp)=false:=by decide) (hm:jd .NotIn (.Name x p)=false:=by first|rfl|with_unfolding_all rfl):
  FJ X (.Compare e [.NotIn] [.Name x p] pos) (λρ=>(f ρ).bind (fT i ρ)):=by
 refine wA λpins s σ H Q I H9 O0 O ρ E q=>?_;dsimp only at q;refine wpAny_isTrue_Compare1 (LQ (ta:=tD X f) (tb:=my i) ha (G6 hN hv hd cg) (R:=λy x g=>∃a b o l J k,x=.ref a/\y=.ref b/\g a=some (.ext λh=>h.get? a=some o)/\AX a o l/\iS X.K g O l J/\(J.map (·.1)).Nodup/\Rep X.K g O (.ref b) k/\L5 7 k=true/\Q (!(open Classical in decide (k∈J.map (·.1)))) g) I ⟨H9,O0,O,ρ,E,?_⟩ λu w s2 y x g t ry rx h=>?_) hm
 .cases B:f ρ with
  |ex z=>rw[B]at q;exact q
  |bad=>rw[B]at q;exact q.elim
  |ok k=>
   rw[B,R.aa0]at q;intro v H1 sm r;unfold fT at q;cases C:ρ[i]? with
   |none=>rw[C]at q;exact aAh q
   |some sl=>
    rw[C]at q;cases sl with
    |d J=>
     dsimp only at q;by_cases j:L5 7 k=true/\wB k=true
     .rw[kn j]at q;obtain⟨a,o,l,h1,_,_,L,m,T,U⟩:=(E.grow sm).slot i _ C;obtain⟨b,rfl⟩:=bN r j.2;exact⟨_,h1,a,b,o,l,J,k,rfl,rfl,L,m,T,U,r,j.1,q H1 sm⟩
     .rw[ku j]at q;exact aAh q
    |_=>exact aAh q
 .obtain⟨a,b,o,l,J,k,rfl,rfl,L,m,T,U,rk,j,qq⟩:=h;cases ry;cases rx;obtain⟨Y,hD,lh,hp⟩:=lU t L m T U;obtain⟨ok,dp⟩:=dP j;show a9 _ _ (contains (.ref a) (.ref b)>>=λc=>pure (aDm (!c))) _ _ s2;refine aAa (rA (knd:=kR X.prog X.w) (by show X.A.in1.units+128<df;rw[l5];lia) ⟨J7 t rk ok rfl,by lia⟩ m.1 hD (aAb ?_));refine aBO ⟨g,t.tok _,?_⟩;have e3:(kd Y k).isSome=(open Classical in decide (k∈J.map (·.1))):=by
   by_cases n:k∈J.map (·.1)
   .rw[decide_eq_true n];exact aN.mpr (by rw[lh];exact n)
   .rw[decide_eq_false n];cases z:(kd Y k).isSome with
    |false=>rfl
    |true=>exact absurd (by rw[<-lh];exact aN.mp z) n
  rw[e3];exact qq
def xG (i:Nat)(y:X.N.Nodup)(A:X.N[i]?=some x:=by rfl)(B:Loc X.env.scope x:=by first|exact aCn rfl|exact aBA rfl)(C:ff (.Dict [] [] f) (some (.Name x g)) j.line X.env=pure false:=by rfl)(J:X.fn x=true\/X.env.scope.names.lookup x=some .local:=by first|exact .inl rfl|exact .inr rfl|assumption):mZ X (.Assign [.Name x g] (.Dict [] [] f) j) (λρ=>.ok (.nx (ρ.set i (.d [])))):=by
 rintro U Y t s σ H D I ⟨O,ρ,E,fk,q⟩;refine aFr (wpAny_Dict_empty ?_) C;have v:(s.heap.push {cls:=.type "dict",data:=.dict #[]}).get? s.heap.objs.size=some {cls:=.type "dict",data:=.dict #[]}:=aAn _ rfl;have l:=I.hok.fresh (aAg s.heap.objs.size);have m:=I.laid (a:=s.heap.objs.size) (o:=.ext λh=>h.get? s.heap.objs.size=some {cls:=.type "dict",data:=.dict #[]}) (h':=s.heap.push {cls:=.type "dict",data:=.dict #[]}) (t':=s.toks) (λ_ _ q=>aAc _ q) (aAg _)
  ⟨v,⟨_,v⟩,λh1 h2 e k=>k _ e⟩
 have L:=LV m (j3 (H:=H) (a:=s.heap.objs.size));have p:h9<s.heap.objs.size:=aGO (by decide) (I.mod.glob.keeps I.bk).lt;refine Q9 m y A B (show RelV (.ref s.heap.objs.size) _ from rfl) (λs3 Q=>⟨_,_,Q,?_⟩) J;have w:=E.ae0 (u:=.ext λh=>h.get? s.heap.objs.size=some {cls:=.type "dict",data:=.dict #[]}) (sl:=.d []) i l L trivial λT=>⟨s.heap.objs.size,_,[],rfl,.inr rfl,T,j3,⟨by simp[aDc p],⟨rfl,rfl,rfl⟩,#[],0,rfl,rfl⟩,.nil,aDl⟩;exact q _ _ _ w (uB m _ w.trk) λb o r n=>⟨by rw[l4 (q9 r l)];exact r,λz=>z.elim n (q9 r l)⟩
def a2o (X:Cx):SE:=λx y v H Q=>∃O a b o f J k d,x=.ref a/\y=.ref b/\H a=some (.ext λh=>h.get? a=some o)/\AX a o f/\iS X.K H O f J/\(J.map (·.1)).Nodup/\f.length<=sizeLine/\Rep X.K H O (.ref b) k/\L5 7 k=true/\Rep X.K H O v d/\
 ∀g e,AX a g e->iS X.K H O e (bO J k d)->Q (upd H a<|.ext λh=>h.get? a=some g)
def UT (hu:X.A.units+130<df):YK X (a2o X):=by
 intro C s σ H x y v ov iv u Q I rx ry ru z;obtain⟨O,a,b,o,es,J,k,d,E,ey,l,m,h6,h7,hz,L,N,rv,q⟩:=z;subst E ey;cases rx;cases ry;obtain⟨Y,T,lh,hp⟩:=lU I l m h6 h7;obtain⟨ok,dp⟩:=dP N;have f:Y.length<=sizeLine:=by
  obtain⟨_,E,ea,ep,hd,he⟩:=m;obtain⟨o2,qm,ep2,U,_,i,kl,_⟩:=T;have g:s.heap.get? a=some o:=(I.hok a _ l).1;rw[g]at U;cases U;rw[hd]at i;cases i;have:=la aGt (he.symm.trans kl);rw[aAi]at this
  lia
 refine wpAny_setItem_heap (knd:=kR X.prog X.w) (by show X.A.in1.units+128<df;rw[l5];lia) ⟨J7 I L ok rfl,by lia⟩ T (λh' n hs=>?_) f;obtain⟨j,p,r,t,B,km,qo,is',nd'⟩:=n;have I1:=I.write (x:=a) (e:=a) (o:=.ext λh=>h.get? a=some j) (h':=h') (t':=s.toks+jD k) (by rw[l];trivial) (.inl rfl) (λb u hb e=>(hs.2 b hb).trans e) ⟨j,t⟩ ⟨t,⟨j,t⟩,λh1 h2 e k=>k _ e⟩;exact⟨_,I1,q j _ ⟨m.1,B,p,r,km,rfl⟩ (by rw[qo];exact FC (HD hp lh L N ru rv))⟩
def nC (i:Nat) (ρ:Ev) (k d:D):R Out:=match ρ[i]? with
 |some (.d J)=>if L5 7 k=true/\wB k=true/\J.length<=sizeLine then .ok (.nx (ρ.set i<|.d (bO J k d)))else .bad
 |_=>.bad
def pJ (i:Nat){x:Str}{k:dm}{f g:Ev->R D}{p ps:Pos}(he:PD X e f)(j:PD X k g)(hu:X.A.units+130<df)(hN:X.N[i]?=some x:=by rfl)(hv:vT X.env.scope x:=by first|exact aCn rfl|exact aBA (aCn rfl)|exact aBA (aBA rfl))(hd:(x==ll)=false:=by decide)
  (cg:(x==lp)=false:=by decide) (ha:∀v,i5 (.Subscript (.Name x p) k ps) X.env v=(do
   let t<-gv [v] (d3 (.Name x p) X.env)
   let B<-gv [v,t] (d3 k X.env)
   standAt ps
   gv [v,t,B] (setItem t B v)
   release [v,t,B] []):=by intro _;rfl)
  (hs:hH [.Subscript (.Name x p) k ps] e C.line X.env=pure false:=by rfl) (hw:hV [.Subscript (.Name x p) k ps] e X.env=pure none:=by rfl) (u:(et [.Subscript (.Name x p) k ps] X.env).map (·.2)=[i5 (.Subscript (.Name x p) k ps) X.env]:=by rfl):
  mZ X (.Assign [.Subscript (.Name x p) k ps] e C) (λρ=>(f ρ).bind λd=>(g ρ).bind λl=>nC i ρ l d):=λY O0=>
 AE (CL he (OR (G6 hN hv hd cg) j (UT hu) ha) hs hw u) λD σ H O ρ E fk q=>⟨Y,O0,O,ρ,E,by
  cases I:f ρ with
  |ex z=>rw[I]at q;exactλH' s=>q H' (E.same.trans s)
  |bad=>rw[I]at q;exact q
  |ok d=>
   rw[I,R.aa0]at q;intro v H1 s1 r1;have L:=E.grow s1;cases w:g ρ with
   |ex z=>rw[w]at q;exact(q H<|E.same.trans<|Same.refl _).elim
   |bad=>rw[w]at q;exact aAh q
   |ok l=>
    rw[w,R.aa0]at q;unfold nC at q;cases y:ρ[i]? with
    |none=>rw[y]at q;exact aAh q
    |some sl=>
     rw[y]at q;cases sl with
     |d J=>
      dsimp only at q;by_cases j:L5 7 l=true/\wB l=true/\J.length<=sizeLine
      .rw[kn j]at q;obtain⟨a,o,es,u,h2,h3,Q,h5,h6,h7⟩:=L.slot i _ y;refine⟨_,u,Y,O0,O,ρ,L,?_⟩;rw[w];intro kv H2 n r2;have E2:=L.grow n;obtain⟨b,rfl⟩:=bN r2 j.2.1;have T:iS X.K H2 O es J:=h6.mono λr=>r.same n;refine⟨O,a,b,o,es,J,l,d,rfl,rfl,n _ _ Q,h5,T,h7,by rw[h6.length];exact j.2.2,r2,j.1,r1.same n,λo' U d' r'=>?_⟩;obtain⟨E3,k3⟩:=E2.ad6 (sl':=.d (bO J l d)) (u':=.ext λh=>h.get? a=some o') y trivial u (n _ _ Q) trivial trivial λhO h0 m=>⟨a,o',U,rfl,h2,h3,j3,d',r'.mono λr=>r.upd (n _ _ Q) trivial h2,GT J l d h7⟩;exact q _ _ _ E3 fk (((Kp.of s1).trans (Kp.of n)).trans k3)
      .rw[ku j]at q;exact aAh q
     |_=>exact aAh q⟩
end
end
section
variable [Tabs]
def _root_.L2.Inv.af0 {a:N3}{σ:St}{H:Hp}{s:be}{h':de}{t':Nat}{L:List cp}{T:cp}{vs:List V}(I:Inv X a σ H s)(k:∀b o,b∉L->s.heap.get? b=some o->h'.get? b=some o)
  (h:∀b∈L,lD X a H b) (i:s.heap.objs.size<=T) (hz:vs.length<=sizeLine) {its:List ae} (p:l9 vs its) (t:IsTup h' T its.toArray):Inv X a σ (upd H T (.tup vs)) {s with heap:=h',toks:=t'}:=by
 have j:H T=none:=I.hok.fresh i;have ne:∀b u,H b=some u->b≠T:=λb u e z=>by rw[z,j]at e;cases e
 have f:Same H (upd H T<|.tup vs):=j7 j _;have l:∀b u,H b=some u->b∉L:=λb u e z=>by rw[(h b z).1]at e;cases e
 refine I.step (g':=s.gens) (d':=s.drawn) (ch:=L) (λb g=>?_) (λb o _ _ d e _=>k b o d e) (λb o _ _ d e _=>⟨o.slots,k b o d e⟩) (λb o _ e n=>?_)
  (λb o d e=>⟨o,k b o d e⟩) (λb _ e=>f _ _ e) (λb _ _ e=>f _ _ e) (λb _ e=>f _ _ e) (λm w=>?_) (λb u e=>?_) I.bare
 .obtain⟨_,x,_,y,A,B⟩:=h b g;exact⟨y,x,A,B⟩
 .rw[l4 (aAl<|aAw (aAf e) i)];exact n
 .obtain⟨o,C,E,J,r⟩:=w;exact⟨o,C,E,k _ o (λz=>(h _ z).2.1 rfl) J,r⟩
 .by_cases g:b=T
  .subst g;rw[j3]at e;cases e;exact⟨hz,its,p,t⟩
  .rw[l4 g]at e;refine(I.hok b u e).ab8 (λc v d q=>k c v ?_ q) (λ_ q=>f _ _ q) λ_ _ _ q=>f _ _ q;rcases d with z|z
   .rw[z];exact l b u e
   .exact l c _ z
def _root_.L2.Inv.ae9 {a:N3}{σ:St}{H:Hp}{s:be}{h':de}{t':Nat}{L:List cp}(I:Inv X a σ H s)(k:∀b o,b∉L->s.heap.get? b=some o->h'.get? b=some o)
  (f:∀b∈L,lD X a H b):Inv X a σ H {s with heap:=h',toks:=t'}:=by
 have g:∀b u,H b=some u->b∉L:=λb u e z=>by rw[(f b z).1]at e;cases e
 refine I.step (g':=s.gens) (d':=s.drawn) (ch:=L) (λb h=>?_) (λb o _ _ d e _=>k b o d e) (λb o _ _ d e _=>⟨o.slots,k b o d e⟩) (λ_ _ _ _ n=>n)
  (λb o d e=>⟨o,k b o d e⟩) (λb _ e=>e) (λb _ _ e=>e) (λb _ e=>e) (λm i=>?_) (λb u e=>?_) I.bare
 .obtain⟨_,j,_,l,p,t⟩:=f b h;exact⟨l,j,p,t⟩
 .obtain⟨o,w,x,y,r⟩:=i;exact⟨o,w,x,k _ o (λz=>(f _ z).2.1 rfl) y,r⟩
 .refine(I.hok b u e).ab8 (λc v d q=>k c v ?_ q) (λ_ q=>q) λ_ _ _ q=>q;rcases d with z|z
  .rw[z];exact g b u e
  .exact g c _ z
def bw {h:de}{i a:cp}{k:Nat}(x:h.IsListIter i a k):∃o,h.get? i=some o/\∀v,o.data≠.cell v:=by obtain⟨o,e,c,d⟩:=x;exact⟨o,e,λv z=>by rw[d]at z;cases z⟩
def Ite (K:lb)(a:cp):It:=
 ⟨λi H=>∃Y x,N2 K H a Y/\Y[i]?=some x,
  λi H v b=>∃T,v=.ref T/\H T=none/\∀Y,N2 K H a Y->∃x,Y[i]?=some x/\b=upd H T (.tup [.int i,x]),
  λi H=>∃Y,N2 K H a Y/\Y.length<=i⟩
def tnE (e it a:cp)(i:Nat)(h:de):Prop:=(∃b,IsEnum h e it (i:Int) b)/\h.IsListIter it a i
def ID {P:cu}{w:cz}{K:lb}{el:List dm}{c}{tp:Pos}{e it a:cp}(D:e≠it):Turn P w K (.Tuple el c tp) (Ite K a) [e,it] e (tnE e it a)where
 mem:=by simp
 obj:=λi h ⟨⟨f,B⟩,C⟩ c d=>by
  simp only[aAd,aAJ,or_false]at d;rcases d with rfl|rfl
  .exact⟨_,B,λv z=>nomatch z⟩
  .exact bw C
 keep:=λi h p ⟨⟨f,B⟩,C⟩ k=>⟨⟨f,k _ (by simp) _ B⟩,C.at λo e=>k _ (by simp) o e⟩
 item:=by
  intro X J L N d i m s σ H E I r st O;subst J L N;obtain⟨Y,x,t,ex⟩:=O;obtain⟨Q,g,T,zx⟩:=I.list t;obtain⟨u,hu,ru⟩:=g.get ex;obtain⟨⟨f,y⟩,A⟩:=st;refine wpAny_pyNext_enum_item y A T.isList (x:=u) (by simpa using hu) D λp q0 q1 hp hsz U=>?_;refine⟨.ref s.heap.objs.size,rfl,wpAny_letOwnedTupleGo_enum (s:={s with heap:=p,toks:=s.toks+1}) q0 λh2 z2 sb=>?_⟩;have j:e<s.heap.objs.size:=aAf y;have n:it<s.heap.objs.size:=by obtain⟨o,e,_⟩:=A;exact aAf e
  have up:∀c o,c≠e->p.get? c=some o->h2.get? c=some o:=λc o d e=>sb.extBut c o d e;have hTf:s.heap.objs.size∉[e,it]:=λl=>by
   simp only[aAd,aAJ,or_false]at l;rcases l with l|l
   .rw[<-l]at j;exact absurd j (aBg _)
   .rw[<-l]at n;exact absurd n (aBg _)
  have kk:∀c o,c∉[e,it]->s.heap.get? c=some o->h2.get? c=some o:=λc o d e=>by simp only[aAd,aAJ,or_false,not_or]at d;exact up c o d.1 (U c o d.1 d.2 e)
  refine⟨.ref s.heap.objs.size,upd H s.heap.objs.size (.tup [.int i,x]),I.af0 (t':=s.toks+1) kk r (aAg _) (by show 2<=sizeLine;decide) (its:=[.int i s.toks,u]) (.cons ⟨_,rfl⟩ (.cons ru .nil)) ⟨_,up _ _ (aDc j) hp,rfl,0,rfl⟩,rfl,
   ⟨_,rfl,I.hok.fresh (aAg _),λxs' hx'=>⟨x,by rw[I.ab3 hx' t];exact ex,rfl⟩⟩,⟨⟨u,?_⟩,q1.at λo e=>up _ o (aBV D) e⟩,λb hb=>?_⟩
  .have:((i+1:Nat):Int)=(i:Int)+1:=by lia
   rw[this];exact z2
  .rw[l4 (λq:b=s.heap.objs.size=>hTf (q▸hb))];exact(r b hb).1
 done:=by intro X J L N d i m s σ H E I r st O;subst J L N;obtain⟨Y,t,hl⟩:=O;obtain⟨Q,g,T,zx⟩:=I.list t;obtain⟨⟨f,y⟩,A⟩:=st;have hlx:=g.length;refine wpAny_pyNext_enum_end (I.ok.hd d) y A T.isList (by simp;lia) λp U=>⟨rfl,I.ae9 (t':=s.toks) (λc o d e=>?_) r⟩;simp only[aAd,aAJ,or_false,not_or]at d;exact U c o d.2 e
 self:=by rintro _ _ _ _ _ ⟨⟨_,st⟩,_⟩ h;exact wpAny_pyIter_enum st h
def EC (Y:List D):List D:=List.zipWith (λ(k:Nat) d=>D.tup [.int (k:Int),d]) (aBv Y.length) Y
def KJ:List D->R (List D)
 |[.lst Y]=>.ok (EC Y)
 |_=>.bad
def jF (Y:List D)(i:Nat):(EC Y)[i]?=Y[i]?.map λd=>D.tup [.int (i:Int),d]:=by
 unfold EC;rw[List.getElem?_zipWith];by_cases h:i<Y.length
 .rw[aEE h];cases Y[i]?<;>rfl
 .rw[aEr (by simpa using h),aEr (by lia:Y.length<=i)];rfl
def OC {el:List dm}{c}{tp:Pos}{e1:dm}{p:Pos}{g:Ev->R D}(t:PD X e1 g)(hg:Gl X "enumerate":=by rfl)(hm:X.mg "enumerate"=none:=by assumption)(hv:dq "enumerate"=some (.type "enumerate"):=by decide+kernel)
  (J:bb [e1] X.env=(false,d3 e1 X.env)::bb [] X.env:=by rfl) (bc:(dn h (bb [] X.env)).any (·.1)=false:=by rfl):
  VE X (.Tuple el c tp) (.Call (.Name "enumerate" p) [e1] [] h) (λρ=>(m8 g M9 ρ).bind KJ):=by
 rintro j s σ H Rr I ⟨H9,O0,O,ρ,E,fk,q⟩;dsimp only at q;refine aAW (O6 I hg hm hv ?_ (by decide) (by decide));have kr:JP X [e1] (m8 g M9):=i9 t o7 J;refine aBm (D4 (kr h j s σ H (λu f=>∃v1 Y,u=[v1]/\m8 g M9 ρ=.ok [.lst Y]/\Same H f/\Rep X.K f O v1 (.lst Y)) I ⟨H9,O0,O,ρ,E,?_⟩) λus l v=>?_) J bc
 .cases e1:m8 g M9 ρ with
  |ex z=>rw[e1]at q;exact q
  |bad=>rw[e1]at q;exact q.elim
  |ok ds=>
   rw[e1,R.aa0]at q;match ds,q with
   |[.lst Y],q=>
    intro u f l m;cases m with
    |cons ra m=>cases m with
     |nil=>exact⟨_,Y,rfl,rfl,l,ra⟩
 .obtain⟨u,f,r,m,v1,Y,w,ef,sm,y⟩:=v;subst w;rw[ef,R.aa0]at q;simp only[KJ]at q;cases y with
  |@lst a A _ n nx L=>
  obtain⟨u1,rfl,B⟩:=vals1 m;cases B;obtain⟨itx,rvx,px,zX⟩:=r.list n;refine call_enumerate_list px.isList λN Q z2 zsz k1=>?_;have I2:=r.kept (h':=N) (t':=l.toks) k1;refine wpAny_pyIter_enum (s:={l with heap:=N}) Q ⟨_,_,_,Ite X.K a,f,rfl,I2,ID (Nat.succ_ne_self _),⟨⟨_,Q⟩,z2⟩,λc U=>?_,q _ f sm λH2 O2 k hK hO hO2 i=>?_⟩
  .have ya:l.heap.objs.size<=c:=by simp only[aAd,aAJ,or_false]at U;rcases U with rfl|rfl<;>lia
   exact r.ad8 ya (r.hok.fresh ya)
  .obtain⟨n2x,b⟩:=k.lst nx n λo q=>hK a o q;have C:=k.ac1 hO hK L;refine⟨λd e=>?_,λe=>⟨A,b,?_⟩⟩
   .rw[jF]at e;cases e1:Y[i]? with
    |none=>rw[e1]at e;cases e
    |some dx=>rw[e1]at e;cases e;obtain⟨vx,g1,g2⟩:=C.get e1;refine⟨⟨A,vx,b,g1⟩,λx H' v=>?_⟩;obtain⟨T,w,hT,hh⟩:=v;obtain⟨x1,q1,rfl⟩:=hh A b;rw[g1]at q1;cases q1;subst w;have s2:Same H2 (upd H2 T<|.tup [.int i,vx]):=j7 hT _;exact⟨s2,.tup (T8.of j3) (.cons .int (.cons (g2.same s2) .nil))⟩
   .rw[L.length];rw[jF]at e;cases e1:Y[i]? with
    |none=>exact aBS.mp e1
    |some dx=>rw[e1]at e;cases e
end
section
variable [Tabs]
section
variable{K:Type} [DecidableEq K] {knd:HeapKind prog w K}
def HR {Q:A3}{z:ae}(g:knd.room A.in1)(b:knd.is s.heap k a)(i:(d==h9)=false)(e:s.heap.DictOfH knd d Y)
  (h:Q (((kd Y k).map (·.2)).getD z) {s with toks:=s.toks+knd.draws k}):a9 (cq prog w) A (call (.builtin "dict.get") [.ref d,.ref a,z]) Q E s:=by
 refine aBe PySem.F.slot_dict_get e.typeIs PySem.F.entry_dict_get ?_ (PySem.F.args_dict_get_3 _ _ _);show a9 _ _ (dictGet d (.ref a)>>=_) _ _ s;refine aAa (wpAny_dictGet_heap g b e ?_);cases f:kd Y k with
 |some p=>rw[f]at h;exact aAb ⟨_,rfl,h⟩
 |none=>rw[f]at h;show a9 _ _ (Builtin.Dict.missed d (.ref a)>>=_) _ _ _;exact aAa (wpAny_missed_other i<|aAb ⟨_,rfl,h⟩)
end
section
variable{o e:dm} {es:List dm} {to:TE} {t:TA} {name:Str} {apos ag:Pos} {T id:String} {r:V->List V->Hp->VK->Prop}
def aq {Ty:V->Hp->Prop}(n:PlainAttrs T)(slot:Slot T name id)(f:typeOf (.builtin id)=pure (.type "method_descriptor"))(p:MtR X id r)
  (q:∀b s σ H x v,Inv X b σ H s->RelV x v->Ty x H->s.TypeIs v T/\∀a,v=.ref a->∃i,s.heap.get? a=some i/\i.dict=none) (u:PE X o to) (w:PA X (e::es) t)
  (y:fh o name X.env (d3 o X.env)=d3 o X.env:=by rfl)
  (z:((dn ag (bb (e::es) X.env)).all (λx=>!x.1)&&(backToKw ag (keywordEach [] X.env)).all (λx=>x.1.isSome)
   &&decide ((e::es).length+([]:List ka).length+(if([]:List ka).isEmpty then 0 else 1)<30))=true:=by rfl)
  (A:(apos.endLine==ag.line)=true:=by rfl) (B:bb (e::es) X.env=(false,d3 e X.env)::bb es X.env:=by rfl) (C:(dn ag (bb es X.env)).any (·.1)=false:=by rfl):
  PE X (.Call (.Attribute o name apos) (e::es) [] ag) (λσ H Q=>to σ H λx d=>Ty x d/\t σ d λY g=>r x Y g Q):=by
 intro b s σ H Q I h;refine wpAny_Call_method_late y z A rfl (D4 (u b s σ H _ I h) λv j ⟨x,d,k,l,E,J⟩=>?_);obtain⟨L,N⟩:=q b j σ d x v k l E;refine⟨T,id,n,slot,f,L,N,?_⟩;have m:=w ag b j σ d _ k J;rw[B]at m⊢;refine aEc (by show(false||(dn ag<|bb es X.env).any (·.1))=false;rw[C]<;>rfl) (aGh ?_);exact D4 m λO U ⟨vs,g,I2,r2,q2⟩=>p b U σ g x vs v O Q I2 l r2 q2
end
def TyD (x:V)(H:Hp):Prop:=∃a o b,x=.ref a/\H a=some (.ext λh=>h.get? a=some o)/\AX a o b
open Classical in
def atK (J:List (D×D)) (k:D):Option D:=(J.find? λp=>decide (p.1=k)).map (·.2)
def YB (J:List (D×D)) (k c:D):R D:=if L5 7 k=true/\wB k=true then .ok ((atK J k).getD c)else .bad
def VF (i:Nat) (ρ:Ev) (f g:R D):R D:=match ρ[i]? with
 |some (.d J)=>f.bind λk=>g.bind λc=>YB J k c
 |_=>.bad
def rDg (X:Cx):V->List V->Hp->VK->Prop:=λx f H Q=>∃O a b o d J k z e,x=.ref a/\f=[.ref b,z]/\H a=some (.ext λh=>h.get? a=some o)/\AX a o d/\iS X.K H O d J/\(J.map (·.1)).Nodup/\Rep X.K H O (.ref b) k/\L5 7 k=true/\Rep X.K H O z e/\∀v,Rep X.K H O v ((atK J k).getD e)->Q v H
theorem jZ {K:lb}{H:Hp}{O:cp->Prop}{k:D}:∀{Y:List (D×cp×ae)} {J:List (D×D)},Paired (λ(x:D×cp×ae) (p:D×D)=>x.1=p.1/\Rep K H O (.ref x.2.1) p.1/\(∃v,RelV v x.2.2/\Rep K H O v p.2)/\L5 7 p.1=true) Y J->(kd Y k=none/\atK J k=none)\/∃p d v,kd Y k=some p/\atK J k=some d/\RelV v p.2/\Rep K H O v d
 |_,_,.nil=>.inl ⟨rfl,rfl⟩
 |x::_,p::_,.cons ⟨e,_,⟨v,a,r⟩,_⟩ t=>by
  by_cases h:p.1=k
  .refine .inr ⟨x.2,p.2,v,?_,?_,a,r⟩
   .simp[kd,e,h]
   .simp[atK,h]
  .have:=jZ (k:=k) t;have b:∀l:List (D×cp×ae),kd (x::l) k=kd l k:=λl=>by simp[kd,e,h]
   have f:∀l:List (D×D),atK (p::l) k=atK l k:=λl=>by simp[atK,h]
   rw[b,f];exact this
def QR (hu:X.A.units+130<df):MtR X "dict.get" (rDg X):=by
 intro j s σ H x vs v m Q I n y h;obtain⟨O,a,b,o,es,J,k,z,dz,rfl,rfl,B,l,C,E,L,N,T,q⟩:=h;obtain⟨u,e,rfl,U,f⟩:∃u e,m=[u,e]/\RelV (.ref b) u/\RelV z e:=by
  cases y with
  |cons r1 t=>cases t with
   |cons r2 t=>cases t;exact⟨_,_,rfl,r1,r2⟩
 cases n;cases U;obtain⟨Y,hD,lh,hp⟩:=lU I B l C E;obtain⟨ok,dp⟩:=dP N;refine HR (knd:=kR X.prog X.w) (by show X.A.in1.units+128<df;rw[l5];lia) ⟨J7 I L ok rfl,by lia⟩ l.1 hD ?_;rcases jZ (k:=k) hp with⟨g,i⟩|⟨p,d,w,g,i,zc,r⟩
 .rw[g];exact⟨z,H,I.tok _,f,q _ (by rw[i];exact T)⟩
 .rw[g];exact⟨w,H,I.tok _,zc,q _ (by rw[i];exact r)⟩
def RX (i:Nat){x:Str}{p:Pos}{e1 e2:dm}{f g:Ev->R D}{j l:Pos}(he:PD X e1 f)(hc:PD X e2 g)(hu:X.A.units+130<df)(hN:X.N[i]?=some x:=by rfl)(hv:vT X.env.scope x:=by first|exact aCn rfl|exact aBA (aCn rfl)|exact aBA (aBA rfl))
  (hd:(x==ll)=false:=by decide) (cg:(x==lp)=false:=by decide)
  (bu:fh (.Name x p) "get" X.env (d3 (.Name x p) X.env)=d3 (.Name x p) X.env:=by rfl)
  (nh:((dn l (bb [e1,e2] X.env)).all (λx=>!x.1)&&(backToKw l (keywordEach [] X.env)).all (λx=>x.1.isSome)
   &&decide ([e1,e2].length+([]:List ka).length+(if([]:List ka).isEmpty then 0 else 1)<30))=true:=by rfl)
  (bf:(j.endLine==l.line)=true:=by rfl) (T:bb [e1,e2] X.env=(false,d3 e1 X.env)::bb [e2] X.env:=by rfl) (xc:bb [e2] X.env=(false,d3 e2 X.env)::bb [] X.env:=by rfl) (dh:(dn l (bb [e2] X.env)).any (·.1)=false:=by rfl):
  PD X (.Call (.Attribute (.Name x p) "get" j) [e1,e2] [] l) (λρ=>VF i ρ (f ρ) (g ρ)):=
 QF (aq (Ty:=TyD) PySem.F.plainAttrs_dict PySem.F.slot_dict_get PySem.F.type_dict_get (QR hu) (λU s σ H x v I r h=>by
  obtain⟨a,o,Y,rfl,m,h2⟩:=h;cases r;have g:s.heap.get? a=some o:=(I.hok a _ m).1;exact⟨⟨o,g,h2.2.1.1⟩,λb e=>by cases e;exact⟨o,g,h2.2.1.2.1⟩⟩) (G6 hN hv hd cg) (i9 he (i9 hc o7 xc) T) bu nh bf T dh) λσ H Q H9 O0 O ρ E q=>by
  dsimp only at q;unfold VF at q;cases n:ρ[i]? with
  |none=>rw[n]at q;exact aAh q
  |some sl=>
   rw[n]at q;cases sl with
   |d J=>
    dsimp only at q;obtain⟨a,o,Y,m,_,_,h4,h5,h6,h7⟩:=E.slot i _ n;refine⟨.ref a,m,⟨a,o,Y,rfl,h4,h5⟩,H9,O0,O,ρ,E,?_⟩;show EA X H O ((f ρ).bind λd=>((g ρ).bind λd=>(R.ok []).bind λu=>.ok (d::u)).bind λu=>.ok (d::u)) _;cases e1:f ρ with
    |ex x=>rw[e1]at q;exact q
    |bad=>rw[e1]at q;exact q
    |ok k=>
     rw[e1,R.aa0]at q;rw[R.aa0];cases e2:g ρ with
     |ex x=>rw[e2]at q;exact q
     |bad=>rw[e2]at q;exact q
     |ok c=>
      rw[e2,R.aa0]at q;intro us H2 s2 t;cases t with
      |cons t w=>cases w with
       |cons r3 w=>
        cases w;unfold YB at q;split at q
        .rename_i hz;obtain⟨a',o',y,mi,_,_,z,B,C,L⟩:=(E.grow s2).slot i _ n;rw[m]at mi;cases mi;obtain⟨b,rfl⟩:=bN t hz.2;exact⟨O,a,b,o',y,J,k,_,c,rfl,rfl,z,B,C,L,t,hz.1,r3,λv rv=>q v H2 s2 rv⟩
        .exact aAh q
   |_=>exact aAh q
section
variable{A:cy} {s:be} {prog:cu} {w:cz} {E:A3}
def vC {d:cp}{o:Obj}{es:Array gn}{ep:Nat}{Q:A3}(f:(d==h9)=false)(a:s.heap.get? d=some o)(g:o.ExactDict)(i:o.data=.dict es ep)(b:(es.size:Int)<2^63)
  (h:Q (.int es.size (s.toks+1)) {s with toks:=s.toks+1+1}):a9 (cq prog w) A (call (.builtin "len") [.ref d]) Q E s:=by
 have e:s.TypeIs (.ref d) "dict":=⟨o,a,g.1⟩;refine aFj kind_len plain_len entry_len (args_len1 _) ?_;unfold Builtin.«len»;refine aAa (m:=oneArg "len" _) (aAb ?_);refine aAa (m:=callSpecial? (.ref d) (aCD "__len__")) (aBP (name:=aCD "__len__") e F.slot_dict_len<|aBe F.slot_dict_len e F.entry_dict_len ?_ (F.args_dict_len_1 _));show a9 _ _ (dictSize d>>=_) _ _ s;unfold dictSize;refine aAa (aAa<|aFw a i<|aAb ?_);show a9 _ _ (Builtin.Dict.pendingCount d>>=_) _ _ s;refine aAa (wpAny_pendingCount_other f ?_);refine aAa (wpAny_mkInt<|aAb ⟨_,rfl,?_⟩);rw[aGP];show a9 _ _ _ _ _ {s with toks:=s.toks+1};refine aAa (aAL<|aAb ?_);refine aAa (aCI ?_);show a9 _ _ (if((es.size:Nat):Int)<0 then _ else _) _ _ _;rw[ku (by omega)];show a9 _ _ (if((es.size:Nat):Int)>=2^63 then _ else _) _ _ _;rw[ku (by omega)];exact aAa (wpAny_mkInt<|aAb ⟨_,rfl,h⟩)
end
def UD (i:Nat)(ρ:Ev):R D:=match ρ[i]? with
 |some (.d J)=>if J.length<=sizeLine then .ok (.int (J.length:Nat))else .bad
 |_=>.bad
def UZ (i:Nat){x:Str}{p f b:Pos}(t:X.N[i]?=some x:=by rfl)(v:vT X.env.scope x:=by first|exact aCn rfl|exact aBA (aCn rfl)|exact aBA (aBA rfl))
  (w:(x==ll)=false:=by decide) (y:(x==lp)=false:=by decide) (z:Gl X "len":=by rfl) (A:X.mg "len"=none:=by assumption) (B:dq "len"=some (.builtin "len"):=by decide+kernel)
  (m:bb [.Name x f] X.env=(false,d3 (.Name x f) X.env)::bb [] X.env:=by rfl) (C:(dn b (bb [] X.env)).any (·.1)=false:=by rfl):PD X (.Call (.Name "len" p) [.Name x f] [] b) (UD i):=by
 refine wA λe s σ H Q I H9 O0 O ρ E q=>?_;refine aAW (O6 I z A B ?_ (by decide) (by decide));unfold UD at q;cases g:ρ[i]? with
 |none=>rw[g]at q;exact aAh q
 |some L=>
  rw[g]at q;cases L with
  |d J=>
   dsimp only at q;split at q
   .rename_i hl;obtain⟨a,o,es,T,_,_,U,h5,h6,h7⟩:=E.slot i _ g;have kr:PA X [.Name x f] _:=N1 (G6 (i:=i) t v w y) bH m;refine aBQ (D4 (kr b e s σ H (λn r=>n=[.ref a]/\r=H) I ⟨.ref a,T,rfl,rfl⟩) λus s1 ⟨n,r,h,r1,ev,eH⟩=>?_) m C;subst ev eH;obtain⟨u,rfl,ru⟩:=vals1 r1;cases ru;obtain⟨Y,hx,hk,_⟩:=tY h h6;obtain⟨km,ex,j,ep,oh,k⟩:=h5;have sz:j.size=J.length:=by have:=la aGt hk;rw[aAi,aAi]at this;rw[<-this,<-aAM,k,hx,aAi]
    have l:(j.size:Int)<2^63:=by
     have:(sizeLine:Int)<2^63:=by decide
     rw[sz]
     lia
    refine vC km (h.hok a _ U).1 ex oh l ?_;exact⟨.int (j.size:Int),_,h.tok _,⟨_,rfl⟩,q _ _ (Same.refl _) (by rw[sz];exact .int)⟩
   .exact aAh q
  |_=>exact aAh q
end
end DL
namespace MM
open PySem
def CmpOn (prog:cu)(w:cz)(A:cy)(op:CmpOp)(d:de->Prop)(P:Nat->ae->Prop)(bt:Nat->Nat->Bool):Prop:=
 ∀i j a b (s:be) (Q:A3) (E:A3),d s.heap->P i a->P j b->Q (.bool (bt i j)) s->a9 (cq prog w) A (i6 op a b) Q E s
section
def IV (W:WalksS prog w A.in1 I U m G n P St){E:de->Prop}(Y:∀i s,St i s->E s.heap)(bt:Nat->Nat->Bool)(kh:CmpOn prog w A.in1 .Lt E P bt)(S:cp)(H:S∉U):
  ∀(k j:Nat) (s:be) (d:ae) (c:Nat),n-(j+1)=k->j+1<=n->St (j+1) s->P (dA bt j) d->
  s.heap.get? S=some {cls:=.type "list",dict:=none,data:=.seq #[d,d] c,slots:=#[]}->
  (∀v s',P (dA bt (n-1)) v->Moved (S::m) G s s'->R (.ok (.ret v)) s')->gy (cq prog w) A (.builtin "min.loop" ⟨[.ref I,.none,.ref S],[]⟩) R s:=by
 have J:S∉m:=λh=>H (W.sub _ h);have t:∀b∈m,b∈S::m:=λb a=>aAe _ a;have L:(toString "min"++toString ".loop":String)= "min.loop":=by decide
 have N:∀{b:cp},b∉S::m->S≠b:=λa h=>a (by rw[h];exact aAU);intro k;induction k with
 |zero=>
  intro j s d c hk hj u f p r;have O:j+1=n:=by omega
  refine aBs aFL ?_;rw[aAY aCN _];show a9 _ A.in1 (seqItems? (.ref S)>>=_) _ _ s;refine aAa (aBu p rfl ?_);show a9 _ A.in1 (tryCatch (fo<|.ref I) _>>=_) _ _ s;refine aAa (aCV<|W.done s _ _ (O▸u) λs' l=>?_);have q:=l.heap S _ J p;show a9 _ A.in1 (gW S (λ_=>#[])>>=_) _ _ _;refine aAa ?_;refine aBD q rfl (aAa<|aCI<|aAb ?_);exact r d _ (by rw[<-O];exact f) ((l.mono t).then_heap (tk:=s'.toks) (aAg _) λb o a e=>(aAx _ _<|N a).trans e)
 |succ k Q=>
  intro j s d c hk hj u f p r;have x:j+1<n:=by omega
  refine aBs aFL ?_;rw[aAY aCN _];show a9 _ A.in1 (seqItems? (.ref S)>>=_) _ _ s;refine aAa (aBu p rfl ?_);show a9 _ A.in1 (tryCatch (fo<|.ref I) _>>=_) _ _ s;refine aAa (aCV<|W.item (j+1) s _ _ x u λv s' T y l=>?_);have q:=l.heap S _ J p;show a9 _ A.in1 (tryCatch (gv [v,v]<|i6 .Lt v d>>=_) _>>=_) _ _ _;refine aAa (aCV<|aAL<|aAa<|kh (j+1) (dA bt j) v d _ _ _ (Y _ _ y) T f ?_);refine aAa (aAL<|aBO ?_);refine aAa (aCI<|aAb ?_);cases a:bt (j+1) (dA bt j)with
  |true=>
   simp only[if_true];refine aAa ?_;refine aBD q rfl (aAa<|aCI ?_);rw[L];refine aAb ⟨aBz aCN _,Q (j+1) _ v _ (by omega) x (W.frame _ s' _ s'.toks y (aAg _) λb yf o e=>?_) (by simp only[dA,a,if_true];exact T) (aAV _ q rfl)
    λz g B C=>?_⟩
   .exact(aAx _ _ (λh:S=b=>H (by rw[h];exact yf))).trans e
   .exact r z g B (aDR W.gtrans ((l.mono t).then_heap (aAg _) λb o a e=>(aAx _ _<|N a).trans e) C)
  |false=>simp only[aAq,if_false];refine aAa (aCI ?_);rw[L];refine aAb ⟨aBz aCN _,Q (j+1) _ d c (by omega) x y (by simp only[dA,a,aAq,if_false];exact f) q λz g B C=>?_⟩;exact r z g B (aDR W.gtrans (l.mono t) C)
def AK (W:WalksS prog w A.in1 I q a G n P St){j:de->Prop}(r:∀i s,St i s->j s.heap)(bt:Nat->Nat->Bool)(t:CmpOn prog w A.in1 .Lt j P bt)(S:cp)(f:S∉q)(k:0<n)(u:St 0 s)(l:s.heap.get? S=some {cls:=.type "list",dict:=none,data:=.seq #[] c,slots:=#[]})(x:∀v s',P (dA bt (n-1)) v->Moved (S::a) G s s'->R (.ok (.ret v)) s'):gy (cq prog w) A (.builtin "min.loop" ⟨[.ref I,.none,.ref S],[]⟩) R s:=by
 have y:S∉a:=λh=>f (W.sub _ h);have z:∀b∈a,b∈S::a:=λb d=>aAe _ d;have B:(toString "min"++toString ".loop":String)= "min.loop":=by decide
 have C:∀{b:cp},b∉S::a->S≠b:=λd h=>d (by rw[h];exact aAU);refine aBs aFL ?_;rw[aAY aCN _];show a9 _ A.in1 (seqItems? (.ref S)>>=_) _ _ s;refine aAa (aBu l rfl ?_);show a9 _ A.in1 (tryCatch (fo<|.ref I) _>>=_) _ _ s;refine aAa (aCV<|W.item 0 s _ _ k u λv s' E H m=>?_);have p:=m.heap S _ y l;show a9 _ A.in1 (gW S (λ_=>#[v,v])>>=_) _ _ _;refine aAa ?_;refine aBD p rfl ?_;rw[B];refine aAb ⟨aBz aCN _,IV W r bt t S f _ 0 _ v _ rfl k (W.frame _ s' _ s'.toks H (aAg _) λb J o e=>?_) E (aAV _ p rfl) λL g N O=>?_⟩
 .exact(aAx _ _ (λh:S=b=>f (by rw[h];exact J))).trans e
 .exact x L g N (aDR W.gtrans ((m.mono z).then_heap (aAg _) λb o d e=>(aAx _ _<|C d).trans e) O)
def call_minH {E:A3}{Q:A3}(h:a9 (cq prog w) A.in1 (pyIter x) (λit a=>∃I d f G n P St g bt,it=.ref I/\WalksS prog w A.in1 I d f G n P St/\St 0 a/\(∀b∈d,b<a.heap.objs.size)/\0<n/\(∀i s,St i s->g s.heap)/\CmpOn prog w A.in1 .Lt g P bt/\
   ∀v s',P (dA bt (n-1)) v->Moved f G a s'->Q v s') E s):
  a9 (cq prog w) A (call (.builtin "min") [x]) Q E s:=by
 have k:(toString "min"++toString ".loop":String)= "min.loop":=by decide
 refine call_function_tree F.kind_min F.plain_min F.entry_min (F.args_min1 _) ?_;show a9 _ A.in1 (aCK "min" ["key", "default"] 0 ⟨[],[]⟩>>=_) _ _ s;refine aAa (aFD (show aCK "min" ["key", "default"] 0 ⟨[],[]⟩=pure [none,none]from rfl) ?_);refine aAa (aAb ?_);refine aAa (aCt h (λit a l=>?_) λ_ _ e=>e);obtain⟨I,d,f,G,n,P,St,g,bt,rfl,W,m,p,q,r,t,u⟩:=l;refine aAa (aBb ?_);have y:a.heap.objs.size∉d:=λj=>aBg _ (p _ j);rw[k];refine aAb ⟨aBz aCN _,AK W r bt t a.heap.objs.size y q (W.frame 0 a _ a.toks m (aAg _) λb _ o e=>aAc _ e) (aAn _ rfl) λv s' z j=>?_⟩;exact u v s' z (Moved.drop_new (tk:=a.toks) j<|aAg _)
def HL (W:WalksS prog w A.in1 I U m G n P St){E:de->Prop}(Y:∀i s,St i s->E s.heap)(bt:Nat->Nat->Bool)(kh:CmpOn prog w A.in1 .Gt E P bt)(S:cp)(H:S∉U):
  ∀(k j:Nat) (s:be) (d:ae) (c:Nat),n-(j+1)=k->j+1<=n->St (j+1) s->P (dA bt j) d->
  s.heap.get? S=some {cls:=.type "list",dict:=none,data:=.seq #[d,d] c,slots:=#[]}->
  (∀v s',P (dA bt (n-1)) v->Moved (S::m) G s s'->R (.ok (.ret v)) s')->gy (cq prog w) A (.builtin "max.loop" ⟨[.ref I,.none,.ref S],[]⟩) R s:=by
 have J:S∉m:=λh=>H (W.sub _ h);have t:∀b∈m,b∈S::m:=λb a=>aAe _ a;have L:(toString "max"++toString ".loop":String)= "max.loop":=by decide
 have N:∀{b:cp},b∉S::m->S≠b:=λa h=>a (by rw[h];exact aAU);intro k;induction k with
 |zero=>
  intro j s d c hk hj u f p r;have O:j+1=n:=by omega
  refine aBs aFM ?_;rw[aAY aCO _];show a9 _ A.in1 (seqItems? (.ref S)>>=_) _ _ s;refine aAa (aBu p rfl ?_);show a9 _ A.in1 (tryCatch (fo<|.ref I) _>>=_) _ _ s;refine aAa (aCV<|W.done s _ _ (O▸u) λs' l=>?_);have q:=l.heap S _ J p;show a9 _ A.in1 (gW S (λ_=>#[])>>=_) _ _ _;refine aAa ?_;refine aBD q rfl (aAa<|aCI<|aAb ?_);exact r d _ (by rw[<-O];exact f) ((l.mono t).then_heap (tk:=s'.toks) (aAg _) λb o a e=>(aAx _ _<|N a).trans e)
 |succ k Q=>
  intro j s d c hk hj u f p r;have x:j+1<n:=by omega
  refine aBs aFM ?_;rw[aAY aCO _];show a9 _ A.in1 (seqItems? (.ref S)>>=_) _ _ s;refine aAa (aBu p rfl ?_);show a9 _ A.in1 (tryCatch (fo<|.ref I) _>>=_) _ _ s;refine aAa (aCV<|W.item (j+1) s _ _ x u λv s' T y l=>?_);have q:=l.heap S _ J p;show a9 _ A.in1 (tryCatch (gv [v,v]<|i6 .Gt v d>>=_) _>>=_) _ _ _;refine aAa (aCV<|aAL<|aAa<|kh (j+1) (dA bt j) v d _ _ _ (Y _ _ y) T f ?_);refine aAa (aAL<|aBO ?_);refine aAa (aCI<|aAb ?_);cases a:bt (j+1) (dA bt j)with
  |true=>
   simp only[if_true];refine aAa ?_;refine aBD q rfl (aAa<|aCI ?_);rw[L];refine aAb ⟨aBz aCO _,Q (j+1) _ v _ (by omega) x (W.frame _ s' _ s'.toks y (aAg _) λb yf o e=>?_) (by simp only[dA,a,if_true];exact T) (aAV _ q rfl)
    λz g B C=>?_⟩
   .exact(aAx _ _ (λh:S=b=>H (by rw[h];exact yf))).trans e
   .exact r z g B (aDR W.gtrans ((l.mono t).then_heap (aAg _) λb o a e=>(aAx _ _<|N a).trans e) C)
  |false=>simp only[aAq,if_false];refine aAa (aCI ?_);rw[L];refine aAb ⟨aBz aCO _,Q (j+1) _ d c (by omega) x y (by simp only[dA,a,aAq,if_false];exact f) q λz g B C=>?_⟩;exact r z g B (aDR W.gtrans (l.mono t) C)
def BA (W:WalksS prog w A.in1 I q a G n P St){j:de->Prop}(r:∀i s,St i s->j s.heap)(bt:Nat->Nat->Bool)(t:CmpOn prog w A.in1 .Gt j P bt)(S:cp)(f:S∉q)(k:0<n)(u:St 0 s)(l:s.heap.get? S=some {cls:=.type "list",dict:=none,data:=.seq #[] c,slots:=#[]})(x:∀v s',P (dA bt (n-1)) v->Moved (S::a) G s s'->R (.ok (.ret v)) s'):gy (cq prog w) A (.builtin "max.loop" ⟨[.ref I,.none,.ref S],[]⟩) R s:=by
 have y:S∉a:=λh=>f (W.sub _ h);have z:∀b∈a,b∈S::a:=λb d=>aAe _ d;have B:(toString "max"++toString ".loop":String)= "max.loop":=by decide
 have C:∀{b:cp},b∉S::a->S≠b:=λd h=>d (by rw[h];exact aAU);refine aBs aFM ?_;rw[aAY aCO _];show a9 _ A.in1 (seqItems? (.ref S)>>=_) _ _ s;refine aAa (aBu l rfl ?_);show a9 _ A.in1 (tryCatch (fo<|.ref I) _>>=_) _ _ s;refine aAa (aCV<|W.item 0 s _ _ k u λv s' E H m=>?_);have p:=m.heap S _ y l;show a9 _ A.in1 (gW S (λ_=>#[v,v])>>=_) _ _ _;refine aAa ?_;refine aBD p rfl ?_;rw[B];refine aAb ⟨aBz aCO _,HL W r bt t S f _ 0 _ v _ rfl k (W.frame _ s' _ s'.toks H (aAg _) λb J o e=>?_) E (aAV _ p rfl) λL g N O=>?_⟩
 .exact(aAx _ _ (λh:S=b=>f (by rw[h];exact J))).trans e
 .exact x L g N (aDR W.gtrans ((m.mono z).then_heap (aAg _) λb o d e=>(aAx _ _<|C d).trans e) O)
def call_maxH {E:A3}{Q:A3}(h:a9 (cq prog w) A.in1 (pyIter x) (λit a=>∃I d f G n P St g bt,it=.ref I/\WalksS prog w A.in1 I d f G n P St/\St 0 a/\(∀b∈d,b<a.heap.objs.size)/\0<n/\(∀i s,St i s->g s.heap)/\CmpOn prog w A.in1 .Gt g P bt/\
   ∀v s',P (dA bt (n-1)) v->Moved f G a s'->Q v s') E s):
  a9 (cq prog w) A (call (.builtin "max") [x]) Q E s:=by
 have k:(toString "max"++toString ".loop":String)= "max.loop":=by decide
 refine call_function_tree F.kind_max F.plain_max F.entry_max (F.args_max1 _) ?_;show a9 _ A.in1 (aCK "max" ["key", "default"] 0 ⟨[],[]⟩>>=_) _ _ s;refine aAa (aFD (show aCK "max" ["key", "default"] 0 ⟨[],[]⟩=pure [none,none]from rfl) ?_);refine aAa (aAb ?_);refine aAa (aCt h (λit a l=>?_) λ_ _ e=>e);obtain⟨I,d,f,G,n,P,St,g,bt,rfl,W,m,p,q,r,t,u⟩:=l;refine aAa (aBb ?_);have y:a.heap.objs.size∉d:=λj=>aBg _ (p _ j);rw[k];refine aAb ⟨aBz aCO _,BA W r bt t a.heap.objs.size y q (W.frame 0 a _ a.toks m (aAg _) λb _ o e=>aAc _ e) (aAn _ rfl) λv s' z j=>?_⟩;exact u v s' z (Moved.drop_new (tk:=a.toks) j<|aAg _)
end
def walks_more {P:Nat->ae->Prop}{St:Nat->de->Prop}(W:Walks prog w A I m j n P St)(more:N3)(q:∀p∈more,p.1∉j):
  Walks prog w A I (m++more.map (·.1)) j n P (λi h=>St i h/\∀p∈more,h.get? p.1=some p.2)where
 sub:=λb f=>aBq _ (W.sub b f)
 frame:=λi h g st k=>⟨W.frame i h g st.1 λb f o e=>k b (aBq _ f) o e,λp a=>k p.1 (aAH _<|aBo a) _ (st.2 p a)⟩
 item:=λi s Q E r st d=>W.item i s Q E r st.1 λv g t u x l=>d v g t u ⟨x,λp a=>l p.1 p.2 (q p a) (st.2 p a)⟩ l
 done:=λs Q E st d=>W.done s Q E st.1 d
 self:=λi s Q E st d=>W.self i s Q E st.1 d
end MM
namespace DL
open PySem PySem.Spec L2
open PyProof.Rows hiding St
section
variable [Tabs]
section
def HH {x:Str}{a:cp}{b:Option cp}{its:Array ae}{n:Nat}{sl:Array (Option ae)}{ns:List Int}(d:X.mg x=some (.ref a))(e:X.K.lookup a=some ⟨.type "tuple",b,.seq its n,sl⟩)(f:l9 (ns.map V.int) its.toList)(hz:its.size<=sizeLine)(g:Gl X x:=by rfl)(h:(x==ll)=false:=by decide):
 PD X (.Name x i) (WB (.tup (ns.map D.int))):=vX (TY g d (show RelV (.ref a) _ from rfl) h) λH O=>.tup (.inr ⟨_,its,n,e,rfl,rfl,hz,f⟩) (Reps.ints ns)
def PR:D->D->R D
 |.non,.non=>.ok (.bl true)
 |_,.non=>.ok (.bl false)
 |_,_=>.bad
def PP:iH X (d9 .Is) PR:=by
 intro H O x y e f Q j d g q;refine⟨_,ZI,?_⟩;cases f with
 |non=>
  refine⟨g.ac4,?_⟩;cases e with
  |non=>rw[d.ac4];exact q _ H (Same.refl _) .bl
  |bl b=>rw[d.blI];exact q _ H (Same.refl _) .bl
  |int i=>rw[d.aa6];exact q _ H (Same.refl _) .bl
  |str z=>rw[d.ac8];exact q _ H (Same.refl _) .bl
  |tup h=>obtain⟨a,_,rfl,_⟩:=d.tupI;exact q _ H (Same.refl _) .bl
  |lst h=>obtain⟨a,_,rfl,_⟩:=d.aa5;exact q _ H (Same.refl _) .bl
  |dct=>obtain⟨a,_,rfl,_⟩:=d.ag0;exact q _ H (Same.refl _) .bl
 |_=>cases e<;>exact aAh q
def MV (h:PD X e f)(i:ff e none a.line X.env=pure false:=by rfl):mZ X (.Expr e a) (λρ=>(f ρ).bind λ_=>.ok (.nx ρ)):=λj k=>
 AE (mN h i) λD σ H O ρ E l q=>⟨j,k,O,ρ,E,by
  cases b:f ρ with
  |ok d=>rw[b]at q;exactλv g s r=>q _ g O (E.grow s) l (Kp.of s)
  |ex x=>rw[b]at q;exactλg s=>q g (E.same.trans s)
  |bad=>rw[b]at q;exact q⟩
def cP:List D->Option (List Bool)
 |[]=>some []
 |.bl b::a=>(cP a).map (b::·)
 |_::_=>none
theorem qE:∀{ds:List D} {bs:List Bool},cP ds=some bs->ds=bs.map D.bl
 |[],bs,h=>by cases h;rfl
 |.bl b::ds,bs,h=>by
  unfold cP at h;cases e:cP ds with
  |none=>rw[e]at h;cases h
  |some l=>rw[e]at h;have a:b::l=bs:=Option.some.inj h;subst a;rw[qE e];rfl
 |.non::_,_,h|.int _::_,_,h|.str _::_,_,h|.tup _::_,_,h|.lst _::_,_,h|.dct::_,_,h=>by cases h
def anyR:List D->R D
 |[.lst a]=>match cP a with
  |some bs=>.ok (.bl (bs.any id))
  |none=>.bad
 |_=>.bad
def BF {K:lb}{H:Hp}{O:cp->Prop}{ws:List V}{bs:List Bool}{its:List ae}(r:Reps K H O ws (bs.map D.bl))(v:l9 ws its):its=bs.map aDm:=by
 induction bs generalizing ws its with
 |nil=>cases r;cases v;rfl
 |cons b bs a=>
  cases r with
  |cons r t=>
   cases v with
   |cons d e=>cases r;have:_=aDm b:=d;rw[this,a t e];rfl
def GW (bs:List Bool):(aBv bs.length).any (λi=>bs.getD i false)=bs.any id:=by
 rw[aDE,aDg,aDg];constructor
 .rintro⟨i,a,e⟩;have d:i<bs.length:=by simpa using a
  refine⟨bs[i],aCx d,?_⟩;simpa[aAo,aAj d]using e
 .rintro⟨b,f,e⟩;obtain⟨i,a,rfl⟩:=aBw f;exact⟨i,by simpa using a,by simpa[aAo,aAj a]using e⟩
def cj (y:X.calm=true):bZ X (.builtin "any") anyR:=by
 intro H O j A Q fr r q;match A,q with
 |[.lst Y],q=>
  obtain⟨v,rfl,z⟩:=IY r;obtain⟨p,ws,rfl,B,k⟩:=z.aa5;simp only[anyR]at q;cases e:cP Y with
  |none=>rw[e]at q;exact q.elim
  |some bs=>
   rw[e]at q;rw[qE e]at k;refine⟨λj l m=>j=[.ref p]/\l=H/\m=Q,λn s σ l Y us m I C ⟨J,L,N⟩=>?_,rfl,rfl,rfl⟩;subst J L N;obtain⟨u,rfl,T⟩:=vals1 C;cases T;obtain⟨a,g,⟨U,nL,t,cL,dL,sL⟩,zL⟩:=I.list B;have w:=BF k g;have x:s.heap.IsList p a.toArray:=⟨U,t,cL,nL,sL⟩;refine call_any_walk (aDH x ⟨s.heap.objs.size,_,_,a.toArray.size,_,_,λi=>bs.getD i false,rfl,Walks.list (by simp[I.ok.hd y]) s.heap.objs.size p (aAl<|aAf t) a.toArray,⟨⟨_,aAn _ rfl,rfl,rfl⟩,x.push _⟩,λi v s' Q E d f=>?_,λh' tk kp=>?_⟩)
   .have d:a.toArray[i]?=some v:=d;have f:Q (bs.getD i false) s':=f;rw[aBY,w,aAF]at d;cases h:bs[i]? with
    |none=>rw[h]at d;cases d
    |some b=>rw[h]at d;have:aDm b=v:=Option.some.inj d;subst this;rw[aAo,h]at f;exact aBO f
   .have I2:=I.kept (h':=h') (t':=tk) λb o e=>kp b o (by simp only[aAN];exact aAl (aAf e)) (aAc _ e);refine⟨.bl (bs.any id),_,I2,?_,q _ _ (Same.refl _) .bl⟩;show aDm _=aDm _;rw[aAm,w,aAi,GW]
end
def NP (ds:List D)(i j:Nat):Bool:=HT.lexLt (flat<|ds.getD i .non) (flat<|ds.getD j .non)
def OX:List D->R D
 |[.lst a]=>if a≠[]/\a.all P9=true then .ok (a.getD (dA (NP a) (a.length-1)) .non)else .bad
 |_=>.bad
def jX (h:de)(its:List ae):List (cp×Obj):=its.filterMap λv=>match v with
 |.ref b=>(h.get? b).map λo=>(b,o)
 |_=>none
def oD (a:aDC b∈its)(e:h.get? b=some o):(b,o)∈jX h its:=
 aCb.mpr ⟨_,a,by show(h.get? b).map _=_;rw[e];rfl⟩
def N6 (a:p∈jX h its):h.get? p.1=some p.2:=by
 obtain⟨v,_,e⟩:=aCb.mp a;cases v with
 |ref b=>
  have e:(h.get? b).map (λo=>(b,o))=some p:=e;cases q:h.get? b with
  |none=>rw[q]at e;cases e
  |some o=>rw[q]at e;cases e;exact q
 |_=>cases e
section
def UA (hc:X.calm=true)(hu:X.A.units+300<df):bZ X (.builtin "min") OX:=by
 intro H O vs ds Q fr r q;match ds,q with
 |[.lst Y],q=>
  obtain⟨v,rfl,z⟩:=IY r;obtain⟨p,ws,rfl,h1,h2⟩:=z.aa5;simp only[OX]at q;by_cases t:Y≠[]/\Y.all P9=true
  .rw[kn t]at q;obtain⟨ai,t⟩:=t;have pt:∀d∈Y,P9 d=true:=aBC.mp t;refine⟨λvs N Q'=>vs=[.ref p]/\N=H/\Q'=Q,λpins s σ N xs' us Q' I rv z9=>?_,rfl,rfl,rfl⟩;obtain⟨e1,e2,e3⟩:=z9;subst e1 e2 e3;obtain⟨u,rfl,ru⟩:=vals1 rv;cases ru;obtain⟨a,x,⟨oL,nL,T,cL,dL,sL⟩,zL⟩:=I.list h1;have hl:s.heap.IsList p a.toArray:=⟨oL,T,cL,nL,sL⟩;have st:u9 X.K N O a Y:=u9.of x h2;have k:a.toArray.size=Y.length:=by rw[aAm,<-x.length,h2.length]
   have uo:0<Y.length:=aEL.mpr ai;have W:=MM.walks_more (Walks.list (prog:=X.prog) (w:=X.w) (A:=X.A.in1) (by simp[I.ok.hd hc]) s.heap.objs.size p (aAl<|aAf T) a.toArray) (jX s.heap a)
    (λq m=>by simp only[aAN];exact aAl (aAf<|N6 m))
   refine MM.call_minH (aDH hl ⟨s.heap.objs.size,_,_,_,a.toArray.size,_,_,λh=>∀q∈jX s.heap a,h.get? q.1=some q.2,NP Y,rfl,W.toS,⟨⟨⟨_,aAn _ rfl,rfl,rfl⟩,hl.push _⟩,λq m=>aAc _ (N6 m)⟩,λb f=>?_,by rw[k];exact uo,λi s h=>h.2,λi j vi vj l Q2 E2 hh y hj m=>?_,λv l E J=>?_⟩)
   .rw[aBt];rcases aAT.mp f with f|f
    .rcases aAd.mp f with rfl|f
     .exact aDh _
     .rcases aAd.mp f with rfl|f
      .exact aBi (aAf T)
      .cases f
    .obtain⟨q,m,rfl⟩:=aAk.mp f;exact aBi (aAf<|N6 m)
   .have one:∀i v,a.toArray[i]?=some v->∃b B,v=.ref b/\IsTup l.heap b B/\IntsAre B.toList (flat<|Y.getD i .non):=λi v y=>by
     rw[aBY]at y;obtain⟨d,L,w,U,rp⟩:=B4 st y;have km:Y.getD i .non=d:=by rw[aAo,L];rfl
     rw[km];have C:=pt d (aAr L);obtain⟨b,B,rfl,⟨o,g,c,n,dd⟩,hia⟩:=C5 C (J7 I rp (A0 C) U);exact⟨b,B,rfl,⟨o,hh _ (oD (aAr y) g),c,n,dd⟩,hia⟩
    obtain⟨b,B,rfl,t1,i1⟩:=one i vi y;obtain⟨b',uc,rfl,t2,i2⟩:=one j vj hj;exact HT.lt_tupInts t1 t2 i1 i2 (by rw[l5];lia) m
   .have E:a.toArray[dA (NP Y) (a.toArray.size-1)]?=some v:=E;rw[aBY,k]at E;obtain⟨d,L,w,U,rp⟩:=B4 st E;have km:Y.getD (dA (NP Y)<|Y.length-1) .non=d:=by rw[aAo,L];rfl
    rw[km]at q;have I2:=I.kept (h':=l.heap) (t':=l.toks) λb o e=>J.heap b o (by simp only[aAN];exact aAl (aAf e)) (aAc _ e);have es:l={s with heap:=l.heap,toks:=l.toks}:=by have g1:=J.gens;have g2:=J.drawn;have g3:=J.os;cases l;simp only at g1 g2 g3;subst g1 g2 g3;rfl
    rw[es];exact⟨w,_,I2,U,q _ _ (Same.refl _) rp⟩
  .rw[ku t]at q;exact q.elim
def TD (h:QJ ds)(n:Nat)(a:n<ds.length):dA (NP ds) n=0:=by
 induction n with
 |zero=>rfl
 |succ k b=>
  have e:=b (by lia);unfold dA;rw[e];have:NP ds (k+1) 0=false:=by
   unfold NP;rw[aAo,aAo,aAj a,aAj (by lia:0<ds.length)];have:=aCo.mp h 0 (k+1) (by lia) a (by lia);cases q:HT.lexLt (flat<|(some ds[k+1]).getD .non) (flat ((some (ds[0]'(by lia))).getD .non))with
   |false=>rfl
   |true=>have z:HT.lexLt (flat (ds[0]'(by lia))) (flat (ds[0]'(by lia)))=true:=TS.lex_trans _ _ _ this q;rw[TS.lex_irrefl]at z;cases z
  rw[this];rfl
end
end
section
variable [Tabs]
end
end DL
namespace DL
open PySem PySem.Spec L2
open PyProof.Rows hiding St sub_tuple_tuple sub_list_list sub_tuple_list sub_list_tuple
section
open PySem.MeetsSeq PySem.MeetsSeq2 PySem.MeetsSeq3 PySem.AutoSeq1
def MH (l:cp)(Y:Array ae)(n:Nat)(b:cp)(a:Array ae)(n2:Nat)(sl:Array (Option ae))(h:¬(!Y.isEmpty&&aCZ (Y.size+a.size))=true)(i:Y.size<=sizeLine)(j:Y.size+a.size<=sizeLine+1):
  Meets (Builtin.«list.extend» ⟨[.ref l,.ref b],[]⟩) (λ_ R s=>s.heap.get? l=some ⟨.type "list",none,.seq Y n,#[]⟩/\s.heap.get? b=some ⟨.type "list",none,.seq a n2,sl⟩/\R (.ok (.ret Value.none)) {s with heap:=s.heap.update l (aBG λx=>x++a),toks:=s.toks}):=
 .of_wp λe w A R s q=>by
  obtain⟨o,g,d,p,os⟩:=s;obtain⟨f,k,m⟩:=q;have r:=idx_int;have t:=sub_tuple_tuple;have u:=sub_list_list;have v:=sub_tuple_list;have y:=sub_list_tuple;have z:(Y++a).size<=sizeLine+1:=by rw[Array.size_append];exact j
  wp_walk using(aBD f rfl (hz:=i) (_hz':=z)),aDD f,aDD k
  exact⟨_,rfl,m⟩
end
section
def jw (K:lb):V->List V->Hp->VK->Prop:=λx d H Q=>∃l b Y a,x=.ref l/\d=[.ref b]/\H l=some (.lst Y)/\N2 K H b a/\Y.length+a.length<=sizeLine/\Q .non (upd H l<|.lst (Y++a))
def az:MtM X "list.extend" (jw X.K):=by
 intro i s σ H x N v O Q I t w h;obtain⟨l,b,Y,T,rfl,rfl,j,y,U,q⟩:=h;cases t;obtain⟨u,rfl,A⟩:=w.one;cases A;obtain⟨z,a,n,r,hl,e⟩:=I.af6 j;obtain⟨f,k,⟨⟨B,qt,C,E⟩,J,L,m,o,p⟩,z2⟩:=I.list y;simp only at m o p;subst m o p;have om:=k.length;have g:a.toArray.size+f.toArray.size<=sizeLine:=by rw[aAm,aAm];lia
 have d:¬(!a.toArray.isEmpty&&aCZ (a.toArray.size+f.toArray.size))=true:=by rw[KQ g,aGn];exact aBc
 refine call_meets F.slot_list_extend ⟨_,e,rfl⟩ F.entry_list_extend (F.args_list_extend_2 _ _) (MH l a.toArray n b f.toArray J E d (by rw[aAm];lia) (by lia)) ⟨e,L,?_⟩;refine⟨.non,_,I.af3 (its':=a++f) j e (by simp) (r.append k) ?_,rfl,q⟩;rw[aAC]
 lia
end
variable [Tabs]
section
def mW (i:Nat)(A:PD X e f)(B:X.N[i]?=some x:=by rfl)(I:vT X.env.scope x:=by first|exact aCn rfl|exact aBA (aCn rfl)|exact aBA (aBA rfl))(L:(x==ll)=false:=by decide)(Q:(x==lp)=false:=by decide)(T:fh (.Name x p) "extend" X.env (d3 (.Name x p) X.env)=d3 (.Name x p) X.env:=by rfl)(U:((dn g (bb [e] X.env)).all (λx=>!x.1)&&(backToKw g (keywordEach [] X.env)).all (λx=>x.1.isSome)
   &&decide ([e].length+([]:List ka).length+(if([]:List ka).isEmpty then 0 else 1)<30))=true:=by rfl) (bf:(b.endLine==g.line)=true:=by rfl) (r:bb [e] X.env=(false,d3 e X.env)::bb [] X.env:=by rfl) (dh:(dn g (bb [] X.env)).any (·.1)=false:=by rfl) (xa:ff (.Call (.Attribute (.Name x p) "extend" b) [e] [] g) none l.line X.env=pure false:=by rfl):
  mZ X (.Expr (.Call (.Attribute (.Name x p) "extend" b) [e] [] g) l) (λρ=>(f ρ).bind (UE i ρ)):=λH9 O0=>
 AE (mN (VR PySem.F.plainAttrs_list PySem.F.slot_list_extend PySem.F.type_list_extend az (G6 B I L Q) (i9 A o7 r) T U bf r dh) xa) λD σ H O ρ E fk q=>by
 cases j:f ρ with
 |ok d=>
  rw[j,R.aa0]at q;unfold UE at q;cases h:ρ[i]? with
  |none=>rw[h]at q;exact aAh q
  |some s=>
   rw[h]at q;cases s with
   |x C=>exact aAh q
   |c m φ=>exact aAh q
   |d J=>exact aAh q
   |no=>exact aAh q
   |v d=>exact aAh q
   |o Y=>
    cases d with
    |lst ys=>
     dsimp only at q;split at q
     .rename_i hz;obtain⟨a,t,u,h2,h3,w,y⟩:=E.own i Y h;refine⟨_,u,.inl ⟨rfl,t,N2.of w⟩,H9,O0,O,ρ,E,?_⟩;show EA X H O ((f ρ).bind λd=>(R.ok []).bind λds=>.ok (d::ds)) _;rw[j];intro us H1 k n;cases n with
      |cons n rn=>
       cases rn;have E1:=E.grow k;cases n with
       |lst hb nb z=>refine⟨a,_,t,_,rfl,rfl,k _ _ w,hb,by rw[y.length,z.length];exact hz,?_⟩;obtain⟨E2,k2⟩:=E1.write h u ((y.same k).append z);exact q σ _ O E2 fk ((Kp.of k).trans k2)
     .exact aAh q
    |_=>exact aAh q
 |ex x=>
  rw[j]at q;cases h:ρ[i]? with
  |none=>exact(q H E.same).elim
  |some s=>exact(q H E.same).elim
 |bad=>rw[j]at q;exact aAh q
end
end DL
namespace TS
open PySem PyProof.Rows HT
section
def GG (A:cy)(s:be)(x y:ae)(b:Bool):Prop:=∀(a:cu) (w:cz) (E:A3) (Q:wJ),Q b s->a9 (cq a w) A (oneLt' false x y) Q E s
def lt_two {Q:wJ}(g:IsTup s.heap l #[p,r])(h:IsTup s.heap b #[a,d])(i:f=false)(j:SeqAt.EqAt A s p a e1)(k:e1=false->GG A s p a b1)(m:e1=true->SeqAt.EqAt A s r d e2)(t:e1=true->e2=false->GG A s r d b2)(q:Q (bif e1 then(bif e2 then false else b2)else b1) s):a9 (cq prog w) A (keyLt' (tupK f) (.ref l) (.ref b)) Q E s:=by
 obtain⟨o,u,y,n,v⟩:=g;obtain⟨z,x,B,C,e⟩:=h;subst i;rw[sR];refine aAa (aEo u v<|aAa<|aEo x e ?_);show a9 _ _ (forIn [((p,a),0),((r,d),1)] _ _>>=_) _ _ _;rw[aDa];refine aAa (aAa ?_);refine aAa (j _ _ _ _ ?_);cases e1 with
 |false=>refine aAa (k rfl _ _ _ _ ?_);exact aAb (aAb<|aAb q)
 |true=>
  refine aAb ?_;dsimp only;rw[aDa];refine aAa ?_;refine aAa (m rfl _ _ _ _ ?_);cases e2 with
  |false=>refine aAa (t rfl rfl _ _ _ _ ?_);exact aAb (aAb<|aAb q)
  |true=>refine aAb ?_;dsimp only;rw[aEi];exact aAb (aAb q)
def JX (h:∀(prog:cu) (w:cz) (E:A3) (Q:A3),Q (.bool b) s->a9 (cq prog w) A (i6 .Lt x y) Q E s):GG A s x y b:=λprog w E Q q=>by rw[oneLt'_eq];simp only[aAq,if_false];exact aAa (h prog w _ _<|aBO q)
def oneLt_tup (d:IsTup s.heap l B)(e:IsTup s.heap b f)(g:IntsAre B.toList ns)(h:IntsAre f.toList i)(j:A.units<df):GG A s (.ref l) (.ref b) (HT.lexLt ns i):=
 JX λa w E Q q=>HT.lt_tupInts d e g h j q
end
end TS
namespace DL
open PySem PySem.Spec L2
open PyProof.Rows hiding St
section
def vS (k:D->List Int)(d:D):List D->List D
 |[]=>[d]
 |x::Y=>if HT.lexLt (k d) (k x)=true then d::x::Y else x::vS k d Y
def bT (k:D->List Int)(ds:List D):List D:=ds.foldr (vS k) []
def pB (k:D->List Int)(ds:List D):Prop:=ds.Pairwise λx y=>HT.lexLt (k x) (k y)=true
theorem jR (k:D->List Int)(d:D):∀Y:List D,(vS k d Y).Perm (d::Y)
 |[]=>.refl _
 |x::Y=>by
  unfold vS;split
  .exact .refl _
  .exact((jR k d Y).cons x).trans (.swap d x Y)
theorem E9 (k:D->List Int):∀ds:List D,(bT k ds).Perm ds
 |[]=>.refl _
 |d::ds=>(jR k d (bT k ds)).trans ((E9 k ds).cons d)
theorem zS:∀{Y:List D},pB k Y->(∀x∈Y,k x≠k d)->pB k (vS k d Y)
 |[],_,_=>aDV _ _
 |x::Y,h,n=>by
  have b:=aAA.mp h;unfold vS;split
  .rename_i lt;refine aAA.mpr ⟨λy a=>?_,h⟩;rcases aAd.mp a with rfl|a
   .exact lt
   .exact TS.lex_trans _ _ _ lt (b.1 y a)
  .rename_i e;refine aAA.mpr ⟨λy a=>?_,zS b.2 λz f=>n z (.tail _ f)⟩;rcases aAd.mp ((jR k d Y).mem_iff.mp a)with rfl|a
   .cases q:HT.lexLt (k x) (k y)with
    |true=>rfl
    |false=>exact absurd (TS.lex_total _ _ q (by simpa using e)) (n x<|.head _)
   .exact b.1 y a
theorem Y9:∀{ds:List D},(ds.map k).Nodup->pB k (bT k ds)
 |[],_=>.nil
 |d::ds,h=>by rw[aAv,aAG]at h;refine zS (Y9 h.2) λx a e=>h.1 ?_;rw[<-e];exact aBo ((E9 k ds).mem_iff.mp a)
theorem dH:∀{Y a:List D},pB k Y->pB k a->Y.Perm a->Y=a
 |[],a,_,_,p=>(List.nil_perm.mp p).symm
 |x::Y,[],_,_,p=>by have:=p.length_eq;simp at this
 |x::Y,y::a,g,h,p=>by
  have e:=aAA.mp g;have f:=aAA.mp h;have b:x=y:=by
   rcases aAd.mp (p.mem_iff.mp<|.head _)with q|q
   .exact q
   .rcases aAd.mp (p.mem_iff.mpr<|.head _)with d|d
    .exact d.symm
    .have:=TS.lex_trans _ _ _ (f.1 x q) (e.1 y d);rw[TS.lex_irrefl]at this;cases this
  subst b;rw[dH e.2 f.2 ((List.perm_cons x).mp p)]
def FR [Tabs]{R:ae->D->Prop}{key:ae->List Int}{k:D->List Int}{a:List ae}{ds:List D}(st:Paired R a ds)(f:a.Pairwise λx y=>HT.lexLt (key y) (key x)=false)(p:(ds.map k).Nodup)(g:∀u d,R u d->d∈ds->key u=k d):pB k ds:=by
 induction st with
 |nil=>exact .nil
 |@cons u d a ds r t q=>
  have i:=aAG.mp p;have m:=aAA.mp f;refine aAA.mpr ⟨λe s=>?_,q m.2 i.2 λu d h v=>g u d h (.tail _ v)⟩;obtain⟨j,b,rfl⟩:=aBw s;have n:j<a.length:=by rw[t.length];exact b
  obtain⟨A,o,w⟩:=B4 t (aAj n);rw[aAj b]at o;cases o;have l:=m.1 a[j] (aCx n);rw[g _ _ w (.tail _ (aCx b)),g u d r (.head _)]at l;cases z:HT.lexLt (k d) (k ds[j])with
  |true=>rfl
  |false=>exact absurd (aAk.mpr ⟨ds[j],aCx b,(TS.lex_total _ _ z l).symm⟩) i.1
def iq:D->Bool
 |.tup [p,.lst _]=>P9 p
 |_=>false
def R1:D->List Int
 |.tup (p::_)=>flat p
 |_=>[]
def WX (h:iq d=true):∃p r,d=.tup [p,.lst r]/\P9 p=true/\R1 d=flat p:=by
 unfold iq at h;split at h
 .exact⟨_,_,rfl,h,rfl⟩
 .cases h
def tz:D->R (List D)
 |.lst a=>if a.all iq=true/\(a.map R1).Nodup/\a.length<=63 then .ok (bT R1 a)else .bad
 |_=>.bad
variable [Tabs]
def FV (h:de)(u:ae)(l:List Int):Prop:=∃b p r d,u=.ref b/\IsTup h b #[p,r]/\P9 d=true/\HV h p d/\flat d=l
def FV.inj (x:FV h u l)(y:FV h u k):l=k:=by obtain⟨b,p,r,d,rfl,⟨o,g,_,n,m⟩,_,q,rfl⟩:=x;obtain⟨t,v,w,z,e,⟨A,f,_,B,i⟩,_,a,rfl⟩:=y;cases e;rw[g]at f;cases f;rw[m]at i;injection i with s _;have j:=la aFX s;simp only[aEM]at j;obtain⟨rfl,_⟩:=j;rw[HV.inj q a]
def II (h:de) (u:ae):List Int:=open Classical in if p:∃l,FV h u l then p.choose else[]
def iA (x:FV h u l):II h u=l:=by unfold II;rw[dif_pos ⟨l,x⟩];exact FV.inj (Exists.choose_spec (⟨l,x⟩:∃l,FV h u l)) x
section
def LF (I:Inv X e σ H s)(r:Rep X.K H O v d)(h:iq d=true)(g:RelV v u):FV s.heap u (R1 d):=by
 obtain⟨p,ring,rfl,f,i⟩:=WX h;cases r with
 |tup q a=>
  cases g;obtain⟨j,b,k,_⟩:=I.tuple q;cases a with
  |cons l a=>
   cases a with
   |cons m a=>
    cases a;cases b with
    |cons v1 b=>
     cases b with
     |cons n b=>cases b;exact⟨_,_,_,p,rfl,k,f,J7 I l (A0 f) v1,i.symm⟩
end
section
def CC (ha:PB X e f)(hh:X.calm=true)(hu:X.A.units+300<df)(hg:Gl X "sorted":=by rfl)(hm:X.mg "sorted"=none:=by assumption)(hv:dq "sorted"=some (.builtin "sorted"):=by decide+kernel)(he:bb [e] X.env=(false,d3 e X.env)::bb [] X.env:=by rfl)(bc:(dn pos (bb [] X.env)).any (·.1)=false:=by rfl):
  PF X (.Call (.Name "sorted" p) [e] [] pos) (λρ=>(f ρ).bind tz):=by
 refine wA λpins s σ H Q I H9 O0 O ρ E q=>?_;dsimp only at q;refine aAW (O6 I hg hm hv ?_ (by decide) (by decide));have kr:PA X [e] _:=N1 ha bH he;refine aBQ (D4 (kr pos pins s σ H (λvs H1=>∃v r,vs=[v]/\f ρ=.ok (.lst r)/\Same H H1/\B0 X.K H1 O v (.lst r)) I ⟨H9,O0,O,ρ,E,?_⟩) λus J z9=>?_) he bc
 .cases e1:f ρ with
  |ex z=>rw[e1]at q;exact q
  |bad=>rw[e1]at q;exact q.elim
  |ok d=>
   rw[e1,R.aa0]at q;cases d with
   |lst r=>exactλv H1 J r1=>⟨v,r,rfl,rfl,J,r1⟩
   |_=>exact aAh q
 .obtain⟨vs,H1,I1,r1,v,r,ev,ef,sm,rb⟩:=z9;subst ev;rw[ef,R.aa0]at q;obtain⟨a,ws,rfl,hS,rr⟩:=rb.aa5;obtain⟨u,rfl,ru⟩:=vals1 r1;cases ru;obtain⟨m,rv,⟨oL,nL,gL,cL,dL,sL⟩,zL⟩:=I1.list hS;have hl:J.heap.IsList a m.toArray:=⟨oL,gL,cL,nL,sL⟩;simp only[tz]at q;by_cases hc:r.all iq=true/\(r.map R1).Nodup/\r.length<=63
  .rw[kn hc]at q;obtain⟨nu,nd,ve⟩:=hc;have fc:∀d∈r,iq d=true:=aBC.mp nu;have st:u9 X.K H1 O m r:=u9.of rv rr;have hlen:m.length=r.length:=st.length;have t:∀u∈m,∃i d,m[i]?=some u/\r[i]?=some d/\FV J.heap u (R1 d):=λu hu=>by obtain⟨i,hi,rfl⟩:=aBw hu;obtain⟨d,Y,w,lg,rp⟩:=B4 st (aAj hi);exact⟨i,d,aAj hi,Y,LF I1 rp (fc d<|aAr Y) lg⟩
   have keq:∀u∈m,∀u'∈m,II J.heap u=II J.heap u'->u=u':=λu hu u' ar e=>by
    obtain⟨i,d,hi,Y,fv⟩:=t u hu;obtain⟨j,d',hj,km,fv'⟩:=t u' ar;rw[iA fv,iA fv']at e;have eij:i=j:=by obtain⟨li,ei⟩:=aAy.mp Y;obtain⟨lj,ej⟩:=aAy.mp km;refine(List.getElem_inj (xs:=r.map R1) (i:=i) (j:=j) (h₀:=by simpa using li) (h₁:=by simpa using lj) nd).mp ?_;rw[aDi,aDi,ei,ej];exact e
    subst eij;rw[hi]at hj;cases hj;rfl
   refine TS.sorted_keys (vs:=m) (f:=false) (key:=II J.heap) (C:=λs'=>∃h',s'={J with heap:=h'}/\∀b o,J.heap.get? b=some o->h'.get? b=some o)
    (λ{Q'} hq=>collect_list hl (hq _ ⟨_,rfl,λb o e=>?_⟩) (by rw[hlen];exact aAp ve (by decide)))
    (λs' ⟨h',U,k⟩ s6 k6 x hx y hy prog w A E hA {Q} qq=>?_) (λh2 s' ⟨h',U,k⟩ s6 k6 A {Q} qq=>?_) (by rw[hlen];lia) λs' fu h' l ⟨h1,U,k⟩ pm srt k2 hl ⟨n,gl⟩=>?_
   .exact(aAx _ _<|aBV<|aAl<|aAf e).trans (aAc _ e)
   .subst U;have kk:∀b o,J.heap.get? b=some o->s6.heap.get? b=some o:=λb o e=>k6 b o (k b o e);obtain⟨i,d,hi,Y,fv⟩:=t x hx;obtain⟨j,d',hj,km,fv'⟩:=t y hy;have kx:=iA fv;have ky:=iA fv';have eqk:=keq x hx y hy;rw[kx,ky]at qq;rw[kx,ky]at eqk;obtain⟨b,p1,r1,d1,rfl,⟨o,g,c,n,dd⟩,N,hv1,e1⟩:=fv;obtain⟨b',p2,r2,d2,rfl,⟨o',g',c',n',zr⟩,hp2,hv2,e2⟩:=fv';have L:HV s6.heap p1 d1:=hv1.keeps λb o e _=>kk b o e;have hv2':HV s6.heap p2 d2:=hv2.keeps λb o e _=>kk b o e;have hA':A.units+8<df:=by lia
    obtain⟨c1,i1,rfl,t1,ia1⟩:=C5 N L;obtain⟨c2,i2,rfl,t2,ia2⟩:=C5 hp2 hv2';rw[<-e1,<-e2]at qq eqk;refine TS.lt_two (e1:=t7 d1 d2) (e2:=true) (b1:=HT.lexLt (flat d1) (flat d2)) (b2:=false) ⟨o,kk _ _ g,c,n,dd⟩ ⟨o',kk _ _ g',c',n',zr⟩ rfl (rM L hv2' (by have:=mG N;lia)) (λ_=>TS.oneLt_tup t1 t2 ia1 ia2 (by lia)) (λeq=>?_) (λ_ z=>by cases z) ?_
    .have ed:=W9 (A0 N) (A0 hp2) eq;have er:=eqk (by rw[ed]);cases er;rw[g]at g';cases g';rw[dd]at zr;injection zr with e3 _;have e4:=la aFX e3;simp only[aEM]at e4;rw[e4.2.1];exact aDZ _
    .cases z:t7 d1 d2 with
     |false=>exact qq
     |true=>have ed:=W9 (A0 N) (A0 hp2) z;rw[ed,TS.lex_irrefl]at qq;exact qq
   .subst U;have kk:∀b o,J.heap.get? b=some o->s6.heap.get? b=some o:=λb o e=>k6 b o (k b o e);have sg:∀x∈m,∃p,∃b B,x=.ref b/\IsTup s6.heap b B/\B[0]?=some p/\s6.TypeIs p "tuple":=λx hx=>by obtain⟨i,d,hi,Y,fv⟩:=t x hx;obtain⟨b,p1,r1,d1,rfl,⟨o,g,c,n,dd⟩,N,hv1,e1⟩:=fv;have L:HV s6.heap p1 d1:=hv1.keeps λb o e _=>kk b o e;obtain⟨c1,i1,rfl,⟨o1,g1,cc1,_⟩,ia1⟩:=C5 N L;exact⟨_,b,_,rfl,⟨o,kk _ _ g,c,n,dd⟩,rfl,⟨o1,g1,cc1⟩⟩
    obtain⟨gf,hgf⟩:∃gf:ae->ae,∀x∈m,∃b B,x=.ref b/\IsTup s6.heap b B/\B[0]?=some (gf x)/\s6.TypeIs (gf x) "tuple":=by refine⟨λx=>open Classical in if z:x∈m then(sg x z).choose else .none,λx hx=>?_⟩;dsimp only;rw[dif_pos hx];exact(sg x hx).choose_spec
    exact TS.kind_tuples (T:= "tuple") gf hgf (λz=>by rw[z]at h2;simp at h2) (by decide) qq
   .subst U;obtain⟨oo,p2,ke⟩:=W3 pm st;have hk:∀u d,(∃v,RelV v u/\Rep X.K H1 O v d)->d∈r->II J.heap u=R1 d:=by rintro u d ⟨v,rv,rp⟩ Y;exact iA (LF I1 rp (fc d Y) rv)
    have ou:(oo.map R1).Nodup:=(p2.map R1).nodup_iff.mpr nd;have xm:pB R1 oo:=FR (R:=λu d=>∃v,RelV v u/\Rep X.K H1 O v d) ke srt ou λu d h Y=>hk u d h (p2.mem_iff.mp Y);have e2:oo=bT R1 r:=dH xm (Y9 nd) (p2.trans (E9 R1 r).symm);subst e2;obtain⟨wv,lg,nv⟩:=u9.ac1 ke;have I2':=I1.kept (h':=h1) (t':=J.toks) k;have I3:=I2'.laid (a:=l) (o:=.lst wv) (h':=h') (t':=J.toks) k2 hl ⟨by rw[nv.length,(E9 R1 r).length_eq];exact aAp ve (by decide),fu,n,lg,gl⟩;exact⟨.ref l,_,I3,rfl,q wv _ l sm (I2'.hok.fresh hl) nv⟩
  .rw[ku hc]at q;exact q.elim
end
end
section
variable [Tabs]
section
def LN (K:lb)(mg:cE)(x:Str)(ns:List Int):Prop:=∃a d b n e,mg x=some (.ref a)/\K.lookup a=some ⟨.type "tuple",d,.seq b n,e⟩/\l9 (ns.map V.int) b.toList/\b.size<=sizeLine
omit [Tabs]in
def ZX {K:lb}{mg:cE}{x:Str}{a:cp}{b:Option cp}{n:Nat}{sl:Array (Option ae)}{i j k:Int}{t u v:Tok}(d:mg x=some (.ref a))(e:K.lookup a=some ⟨.type "tuple",b,.seq #[.int i t,.int j u,.int k v] n,sl⟩):LN K mg x [i,j,k]:=
 ⟨a,b,_,n,sl,d,e,.cons ⟨t,rfl⟩ (.cons ⟨u,rfl⟩ (.cons ⟨v,rfl⟩ .nil)),show 3<=sizeLine by decide⟩
def uR (c:LN X.K X.mg x ns)(b:Gl X x:=by rfl)(d:(x==ll)=false:=by decide):PD X (.Name x e) (WB (.tup (ns.map D.int))):=by obtain⟨a,k,f,n,l,g,h,i,j⟩:=c;exact HH g h i j b d
end
section
variable{K:lb}
structure FunC (K:PySem.W.Frag)(x qual:Str)(st:Stmt)(f:Addr)(fd:FuncData)(cd:Addr):Prop where
 ex:∃(oc:Value) (od:Option Addr) (kV doc pm:Value) (an:Option Addr) (ct:Value) (osl:Array (Option Value)),
  fd=PySem.W.fnOf x qual (E8 st) (t5 st) (c9 st) .none kV doc pm an (.ref cd) ct/\K.lookup f=some ⟨oc,od,.func fd,osl⟩/\PySem.W.codeIn K (.ref cd) qual=true
 kp:PySem.W.keepIn K (.ref f)=true
omit [Tabs]in
def FunC.fn {x qual:Str}{st:dC}{f:cp}{fd:ek}{cd:cp}(F:FunC K x qual st f fd cd):Fun K x qual st f fd:=
 let⟨d,e,kV,a,g,h,i,b,j,k,l⟩:=F.ex
 ⟨⟨d,e,kV,a,g,h,.ref cd,i,b,j,k,l⟩,F.kp⟩
omit [Tabs]in
def VL {x qual:Str}{st:dC}{f cd:cp}{h:ae}{i d:Option cp}{b:Array (Option ae)}{kV a g L ct:ae}(l:K.lookup f=some ⟨h,i,.func (PySem.W.fnOf x qual (E8 st) (t5 st) (c9 st) .none kV a g d L ct),b⟩)
  (e:L=.ref cd) (c:PySem.W.codeIn K L qual=true) (k:PySem.W.keepIn K (.ref f)=true):FunC K x qual st f (PySem.W.fnOf x qual (E8 st) (t5 st) (c9 st) .none kV a g d L ct) cd:=by
 subst e;exact⟨⟨h,i,kV,a,g,d,ct,b,rfl,l,c⟩,k⟩
def a2r {x qual:Str}{st:dC}{f cd:cp}{fd:ek}{N ps:List Str}{k:Nat}{m:List D->R D}{F:Ev->R Out}(j:FunC K x qual st f fd cd)(S:FnScope N ps (c9 st))
  (l:∀(A:cy) (a:List Env) (s:be) (H:Hp) (E:XK),Room k (A.deeper (envOfC qual (c9 st) s.heap.objs.size f (.ref cd)))->aL (TF P w K mg base N qual (c9 st) f (.ref cd) A a s H E) (t5 st) F)
  (n:∀ds d,ds.length=ps.length->m ds=.ok d->L9 (F (j6 N ds))=.ok d):FnOk P w K mg base wG (k+1) f fd ps (gq K ps.length m):=by
 obtain⟨U,Y,kV,p,pm,an,ct,t,rfl,lk,u⟩:=j.ex;refine WO lk u S (by rintro v H Q E ⟨O,ds,d,r,g,_⟩;rw[r.length];exact g) λA a s H v Q E y z=>?_;obtain⟨O,ds,d,r,g,B,C,I,e,q⟩:=z;refine⟨_,tZ.nox (l A a s H E y H O),O,_,sD r B C,I,?_⟩;have h:=n ds d g e;cases i:F (j6 N ds)with
 |ok o=>
  rw[i]at h;cases o with
  |rt J=>have b:R.ok J=R.ok d:=h;injection b with b;subst b;exact q
  |nx ρ=>have b:R.ok D.non=R.ok d:=h;injection b with b;subst b;exactλah L O' T _ _=>q .non L T.same .non
  |bk ρ=>cases h
  |ct ρ=>cases h
 |ex x=>rw[i]at h;cases h
 |bad=>rw[i]at h;cases h
def TZ {x qual:Str}{st:dC}{f cd:cp}{fd:ek}{N ps:List Str}{k:Nat}{m:List D->R D}{F:Ev->R Out}(e:FunC K x qual st f fd cd)(S:FnScope N ps (c9 st))(b:Binds K fd ps [])(g:mg x=some (.ref f))
  (h:∀(A:cy) (a:List Env) (s:be) (H:Hp) (E:XK),Room k (A.deeper (envOfC qual (c9 st) s.heap.objs.size f (.ref cd)))->aL (TF P w K mg base N qual (c9 st) f (.ref cd) A a s H E) (t5 st) F)
  (i:∀ds d,ds.length=ps.length->m ds=.ok d->L9 (F (j6 N ds))=.ok d):x5 P w K mg base (k+1) x ps.length m:=
 ⟨f,fd,ps,a2r e S h i,b,e.kp,g⟩
def UH (P:cu)(w:cz)(K:lb)(mg:cE)(base:de)(k d:Nat)(x:Str)(M:D->(List D->R D)->(List D->R D)->R D):Prop:=
 ∃g b a,FnOk P w K mg base wG k g b a (spF K (JO P w K mg base d 1) M)/\Binds K b a []/\PySem.W.keepIn K (.ref g)=true/\mg x=some (.ref g)/\a.length=3
def TW {x qual:Str}{st:dC}{f:cp}{fd:ek}{N ps:List Str}{k e:Nat}{M:D->(List D->R D)->(List D->R D)->R D}{F:Ev->R Out}(g:Fun K x qual st f fd)(S:FnScope N ps (c9 st))(h:ps.length=3)(b:Binds K fd ps [])(m:mg x=some (.ref f))
  (n:∀(L:ae) (A:cy) (a:List Env) (s:be) (H:Hp) (E:XK),Room k (A.deeper (envOfC qual (c9 st) s.heap.objs.size f L))->aL (TF P w K mg base N qual (c9 st) f L A a s H E) (t5 st) F)
  (o:∀i j l d,M i j l=.ok d->L9 (F (kE N (JO P w K mg base e 1) i j l))=.ok d):UH P w K mg base (k+1) e x M:=
 ⟨f,fd,ps,fnF g S h n o,b,g.kp,m,h⟩
end
section
def wZ (i:Nat){Φ:(List D->R D)->Hp->(cp->Prop)->cp->Prop}(a:JO X.prog X.w X.K X.mg X.base k n=Φ)(d:JP X (e::es) f)(g:IN f n)(h:Room k X.A)(j:X.N[i]?=some x:=by rfl)(l:vT X.env.scope x:=by first|exact aCn rfl|exact aBA (aCn rfl)|exact aBA (aBA rfl))(m:(x==ll)=false:=by decide)(o:(x==lp)=false:=by decide)(q:bb (e::es) X.env=(false,d3 e X.env)::bb es X.env:=by rfl)(r:(dn b (bb es X.env)).any (·.1)=false:=by rfl):
  PD X (.Call (.Name x p) (e::es) [] b) (callC Φ i f):=by
 subst a;exact LZ i d g h j l m o q r
def DE (r:NstOk X k n1)(s:NstOk X k n2)(t:ClosOk X n1 clos1)(u:ClosOk X n2 clos2)(v:∀x b,(x,b)∈clos1++clos2->X.env.cells.lookup x=some b)(z:iF X.mg X.base)(B:X.env.code=.ref c)(C:PySem.W.codeHdIn X.K c E=true)(j:(E,tb)∈Tabs.tbs)(l:(n1.pos,n1.qual)∈tb)(H:(n2.pos,n2.qual)∈tb)(I:∀p∈tb,p.1.line=n1.pos.line->p.1.col=n1.pos.col->p.2=n1.qual)(m:∀p∈tb,p.1.line=n2.pos.line->p.1.col=n2.pos.col->p.2=n2.qual)(J:n1.i≠n2.i)(L:X.N.Nodup)(O:UH X.prog X.w X.K X.mg X.base Q (k+1) x M)(T:Room Q X.A)(U:PD X e f)(Y:∀y,X.fn y=true)(hg:Gl X x:=by rfl)(jb:(x==ll)=false:=by decide)(zg:bb [e,.Name n1.name h,.Name n2.name a] X.env=(false,d3 e X.env)::bb [.Name n1.name h,.Name n2.name a] X.env:=by rfl)(xc:bb [.Name n1.name h,.Name n2.name a] X.env=(false,d3 (.Name n1.name h) X.env)::bb [.Name n2.name a] X.env:=by rfl)(n:bb [.Name n2.name a] X.env=(false,d3 (.Name n2.name a) X.env)::bb [] X.env:=by rfl)(bc:(dn o (bb [.Name n1.name h,.Name n2.name a] X.env)).any (·.1)=false:=by rfl):
  aL X [n1.stmt,n2.stmt,.Return (some (.Call (.Name x p) [e,.Name n1.name h,.Name n2.name a] [] o)) q] (λρ=>((f ((ρ.set n1.i .no).set n2.i .no)).bind λd1=>(cS n1.js ((ρ.set n1.i .no).set n2.i .no)).bind λw1=>(cS n2.js ((ρ.set n1.i .no).set n2.i .no)).bind λw2=>M d1 (n1.mm w1) (n2.mm w2)).bind λd=>.ok (.rt d)):=by
 obtain⟨g,gd,ps,FF,hb,hk,hm,h3⟩:=O;exact HY r s t u v z B C j l H I m J L FF T hm hk hb h3 U Y hg jb zg xc n bc
end
end
end DL
namespace DL
open PySem L2
def _root_.L2.Room.ae7 (r:Room k A):A.units+130<df:=by have:=r.un;lia
def _root_.L2.Room.ae4 (r:Room k A)(h:7<=k):A.units+300<df:=by have:=r.un;lia
def HS {y:Str}{d:cp}{a:List (Str×cp)}(h:a.lookup y=some d:=by rfl):∀(x:Str) (b:cp),(x,b)∈[(y,d)]++[(y,d)]->a.lookup x=some b:=λx b e=>by
 have:(x,b)=(y,d):=by simpa using e
 injection this with f g;subst f g;exact h
def DY {sc:kb}{fn:List Str}{x:Str}(h:sc.names.lookup x=some .free)(a:(sc.names.all λp=>p.2 !=.free||fn.contains p.1)=true:=by decide+kernel):x∈fn:=by have b:=aBC.mp a _ (PySem.mem_of_lookup h);simpa using b
def EW:dC->Pos
 |.FunctionDef _ _ _ _ _ _ _ _ _ p=>p
 |_=>⟨0,0,0,0⟩
end DL
namespace M
open PySem L2 DL
def vV:D->Option G.V
 |.tup [.int a,.int b,.int c]=>some ⟨a,b,c⟩
 |_=>none
@[simp]def vL (v:G.V):vV (vd v)=some v:=rfl
def tJ (h:vV d=some v):d=vd v:=by
 unfold vV at h;split at h
 .cases h;rfl
 .cases h
def F6:List D->Option (List G.V)
 |[]=>some []
 |d::a=>match vV d,F6 a with
  |some v,some b=>some (v::b)
  |_,_=>none
@[simp]theorem u3:∀vs:List G.V,F6 (vs.map vd)=some vs
 |[]=>rfl
 |v::vs=>by rw[aAv,F6,vL,u3 vs]
theorem o9:∀{ds:List D} {vs:List G.V},F6 ds=some vs->ds=vs.map vd
 |[],vs,h=>by cases h;rfl
 |d::ds,vs,h=>by
  unfold F6 at h;split at h
  .rename_i v e a b;cases h;rw[tJ a,o9 b];rfl
  .cases h
def iJ (h:vd u=vd v):u=v:=by
 have:vV (vd u)=vV (vd v):=by rw[h]
 simpa using this
def SH {u v:List G.V}(h:u.map vd=v.map vd):u=v:=by
 have:F6 (u.map vd)=F6 (v.map vd):=by rw[h]
 simpa using this
def T9 (n:Nat)(j:List G.V):Prop:=(∀P∈j,Sz n P)/\j.length<=1000
def CV:Option G.V->D
 |some v=>vd v
 |none=>.non
def z7:List D->R D
 |[.lst Y]=>match F6 Y with
  |some a=>.ok (CV (G.A6 a))
  |none=>.bad
 |_=>.bad
open Classical in
def B9:List D->R D
 |[.lst Y]=>match F6 Y with
  |some j=>if j≠[]/\T9 1000 j then .ok (.int (G.T0 j))else .bad
  |none=>.bad
 |_=>.bad
open Classical in
def D6:List D->R D
 |[.lst Y]=>match F6 Y with
  |some j=>if T9 1000 j/\G.T0 j=3 then .ok .non else .bad
  |none=>.bad
 |_=>.bad
open Classical in
def y9:List D->R D:=v4 λa b c d=>JS λY=>qG (match F6 Y with
 |some j=>if Sz 10000 ⟨a,b,c⟩/\T9 1000 j then .ok (.lst ((G.o8 ⟨a,b,c⟩ d j).map vd))else .bad
 |none=>.bad)
open Classical in
def D3:List D->R D:=QH λg=>JS λY=>qG ((v1 λa b c=>v1 λd e f=>qG (match F6 Y with
 |some j=>if Sz 1000 ⟨a,b,c⟩/\Sz 1000 ⟨d,e,f⟩/\T9 1000 j/\G.cU (G.b7 ⟨a,b,c⟩ ⟨d,e,f⟩ j).1 then .ok (mJ (G.b7 ⟨a,b,c⟩ ⟨d,e,f⟩ j).1 (G.b7 ⟨a,b,c⟩ ⟨d,e,f⟩ j).2)else .bad
 |none=>.bad)) g)
abbrev u4 (p:G.V×G.V):D:=.tup [vd p.1,vd p.2]
structure Land (j:List G.V)(m:G.V):Prop where
 good:G.Good j m
 sz:T9 900 j
 few:j.length<=63
 head:j.head?=some m
open Classical in
def G5:List D->R D
 |[.lst Y]=>match F6 Y with
  |some (m::j)=>if Land (m::j) m then .ok (u4 (G.f6 m (m::j)))else .bad
  |_=>.bad
 |_=>.bad
open Classical in
def dF:List D->R D:=v1 λa b c=>v1 λd e f=>v1 λg h i=>v1 λj k l=>qG (
 if Sz 10000 ⟨a,b,c⟩/\Sz 1000 ⟨d,e,f⟩/\Sz 1000 ⟨g,h,i⟩/\Sz 1000 ⟨j,k,l⟩then .ok (.int (G.turn ⟨a,b,c⟩ ⟨d,e,f⟩ ⟨g,h,i⟩ ⟨j,k,l⟩))else .bad)
open Classical in
def S8:List D->R D:=v1 λa b c=>JS λY=>qG (match F6 Y with
 |some j=>if Sz 10000 ⟨a,b,c⟩/\T9 1000 j then .ok (.lst ((G.v7 ⟨a,b,c⟩ j).reverse.map vd))else .bad
 |none=>.bad)
open Classical in
def N8:List D->R D:=v1 λa b c=>JS λY=>qG (match F6 Y with
 |some j=>if Sz 10000 ⟨a,b,c⟩/\T9 1000 j then .ok (.lst ((G.j8 ⟨a,b,c⟩ j).map vd))else .bad
 |none=>.bad)
def v5:List D->R D
 |[.lst Y]=>match F6 Y with
  |some j=>if j.length<=3000 then .ok (.lst ((G.J2 j).map u4))else .bad
  |none=>.bad
 |_=>.bad
abbrev k7 (j:List G.V)(f:G.V×Int):D:=.tup [mJ f.1 f.2,.lst ((G.d4 j f).map vd)]
def cV (j:List G.V)(fs:List (G.V×Int)):Prop:=(∀f,f∈fs↔G.IsFace j f.1 f.2)/\pB R1 (fs.map<|k7 j)
open Classical in
def j0 (j:List G.V):List (G.V×Int):=if h:∃fs,cV j fs then h.choose else[]
def J1:List D->List D->R D
 |[w],[_]=>.ok w
 |_,_=>.bad
def C8:List D->List D->R D
 |[w],[p]=>y9 [p,w]
 |_,_=>.bad
open Classical in
def G4 (d:D) (a b:List D->R D):R D:=match a [.non]with
 |.ok (.lst Y)=>match F6 Y with
  |some (m::j)=>if Land (m::j) m/\(m::j).length<=23/\d=u4 (G.f6 m (m::j))/\a=J1 [.lst Y]/\b=C8 [.lst Y]then .ok (.lst ((j0 (m::j)).map (k7 (m::j))))else .bad
  |_=>.bad
 |_=>.bad
def c8 (j:List G.V):List G.V:=(bV<|j.map vd).filterMap vV
open Classical in
def K0:List D->R D
 |[.lst Y]=>match F6 Y with
  |some j=>if T9 900 j/\G.j5 j/\(c8 j).length<=23 then .ok (.lst ((j0 (c8 j)).map (k7 (c8 j))))else .bad
  |none=>.bad
 |_=>.bad
def XS:D->Option (List G.V)
 |.tup [_,.lst Y]=>F6 Y
 |_=>none
def rF:List D->Option (List (List G.V))
 |[]=>some []
 |d::a=>match XS d,rF a with
  |some v,some b=>some (v::b)
  |_,_=>none
open Classical in
def F9:List D->R D
 |[.lst Y]=>match rF Y with
  |some a=>if a.flatten.length<=3000/\(c8 a.flatten).length<=63 then .ok (.lst ((c8 a.flatten).map vd))else .bad
  |none=>.bad
 |_=>.bad
def A2 (j:List G.V):List G.V:=c8 ((j0<|c8 j).flatMap (G.d4<|c8 j))
open Classical in
def aE:List D->R D
 |[.lst Y]=>match F6 Y with
  |some j=>if T9 900 j/\G.j5 j/\(c8 j).length<=23 then .ok (.lst ((A2 j).map vd))else .bad
  |none=>.bad
 |_=>.bad
def ne0 (v:G.V):AF (vd v) (.tup [.int 0,.int 0,.int 0])=.ok (.bl (!decide (v=0))):=by rw[jY];congr 3;rw[aDE];simp only[aAK,beq_iff_eq,decide_eq_true_eq,G.pG];exact⟨λh=>h,λh=>h⟩
def eq0 (v:G.V):WU (vd v) (.tup [.int 0,.int 0,.int 0])=.ok (.bl (decide (v=0))):=by rw[fq];congr 2;rw[aDE];simp only[aAK,beq_iff_eq,decide_eq_true_eq,G.pG];exact⟨λh=>h,λh=>h⟩
def M0 (a:G d ρ=.ok ρ1)(b:F ρ1=.ok (.nx ρ2)):M2 G F (d::ds) ρ=M2 G F ds ρ2:=by rw[M2,a];dsimp only;rw[b]
def gH (a:G d ρ=.ok ρ1)(b:F ρ1=.ok (.rt x)):M2 G F (d::ds) ρ=.ok (.rt x):=by rw[M2,a];dsimp only;rw[b]
theorem T7 {α:Type}(rep:α->D)(p:α->Bool)(g:α->D):∀(l:List α),(∀a∈l,∃ρ1,G (rep a) ρ=.ok ρ1/\ft ρ1=.ok (p a)/\(p a=true->fe ρ1=.ok (g a)))->u5 G ft fe ρ (l.map rep)=.ok ((l.filter p).map g)
 |[],_=>rfl
 |a::l,h=>by
  obtain⟨ρ1,e,f,i⟩:=h a (.head _);have j:=T7 rep p g l λb k=>h b (.tail _ k);rw[aAv,u5,e];dsimp only;rw[f,R.aa0,j];cases d:p a with
  |false=>rw[ku (by decide),aFA (by simp[d])]
  |true=>rw[kn rfl,i d,R.aa0,R.aa0,aFz d];rfl
def L4 {α:Type}(rep:α->D)(g:α->D)(l:List α)(h:∀a∈l,∃ρ1,G (rep a) ρ=.ok ρ1/\fe ρ1=.ok (g a)):u5 G (λ_=>.ok true) fe ρ (l.map rep)=.ok (l.map g):=by
 have:=T7 rep (G:=G) (ft:=λ_=>.ok true) (fe:=fe) (ρ:=ρ) (λ_=>true) g l λa b=>let⟨ρ1,d,e⟩:=h a b;⟨ρ1,d,rfl,λ_=>e⟩
 rw[this,List.filter_eq_self.mpr λ_ _=>rfl]
def small (h:n<=1000):n<=sizeLine:=aAp h (by decide)
def OH (h:n<=3000):n<=sizeLine:=aAp h (by decide)
def T9.sub (h:T9 n j)(b:∀P∈a,P∈j)(d:a.length<=j.length):T9 n a:=⟨λP e=>h.1 P (b P e),aAp d h.2⟩
def T9.mono (h:T9 m j)(a:m<=n:=by decide):T9 n j:=⟨λP b=>(h.1 P b).mono a,h.2⟩
def a2f (t:Int):(sgn t==0)=decide (t=0):=by
 unfold sgn;by_cases h:0<t
 .rw[kn h];simp;lia
 .rw[ku h];by_cases a:t<0
  .rw[kn a];simp;lia
  .rw[ku a];simp;lia
def gQ (a:Sz 10000 n)(b:T9 1000 j):y9 [mJ n d,.lst (j.map vd)]=.ok (.lst ((G.o8 n d j).map vd)):=by simp only[y9,v4,QH,uK,JS,qG,u3];exact kn ⟨a,b⟩
def QE (a:j≠[])(b:T9 1000 j):B9 [.lst (j.map vd)]=.ok (.int (G.T0 j)):=by simp only[B9,u3];exact kn ⟨a,b⟩
def AV (ws:List G.V):z7 [.lst (ws.map vd)]=.ok (CV (G.A6 ws)):=by simp only[z7,u3]
def BP (bs:List Bool):cP (bs.map D.bl)=some bs:=by
 induction bs with
 |nil=>rfl
 |cons b bs a=>rw[aAv,cP,a];rfl
def aw (bs:List Bool):anyR [.lst (bs.map D.bl)]=.ok (.bl (bs.any id)):=by simp only[anyR,BP]
def QV (Y:List D):LI (.lst Y) none (some (-1))=.ok (.lst Y.dropLast):=by
 show R.ok (D.lst<|cutD Y none<|some (-1))=_;unfold cutD HT.sIx;rw[aEq];simp;congr 1
 lia
def UL (Y:List D):LI (.lst Y) (some 1) none=.ok (.lst Y.tail):=by
 show R.ok (D.lst<|cutD Y (some 1) none)=_;unfold cutD HT.sIx;cases Y with
 |nil=>rfl
 |cons a l=>simp
def YM (Y:List D):LI (.lst Y) none (some 1)=.ok (.lst (Y.take 1)):=by
 show R.ok (D.lst<|cutD Y none<|some 1)=_;unfold cutD HT.sIx;cases Y with
 |nil=>rfl
 |cons a l=>simp
def WV (Y:List D)(a b:D):pD (Y++[a,b]) (-1)=some b:=by
 have d:(Y++[a,b]).length=Y.length+2:=by simp
 unfold pD BU;rw[d,ku (by decide),kn (by lia)];show(Y++[a,b])[((-1:Int)+((Y.length+2:Nat):Int)).toNat]?=_;have:((-1:Int)+((Y.length+2:Nat):Int)).toNat=Y.length+1:=by lia
 rw[this,aAB (by lia),show Y.length+1-Y.length=1 by lia];rfl
def VW (Y:List D)(a b:D):pD (Y++[a,b]) (-2)=some a:=by
 have d:(Y++[a,b]).length=Y.length+2:=by simp
 unfold pD BU;rw[d,ku (by decide),kn (by lia)];show(Y++[a,b])[((-2:Int)+((Y.length+2:Nat):Int)).toNat]?=_;have:((-2:Int)+((Y.length+2:Nat):Int)).toNat=Y.length:=by lia
 rw[this,aAB (by lia),Nat.sub_self];rfl
def mx (a:D)(Y:List D):pD (a::Y) 0=some a:=by rw[Y7 (by decide)];rfl
def sj (a b:D)(Y:List D):pD (a::b::Y) 1=some b:=by rw[Y7 (by decide)];rfl
def VD {P Q R:G.V}(h:G.cU (G.j4 P Q R).1):G.cr (Q-P) (R-P)≠0:=λe=>by
 have:(G.j4 P Q R).1=0:=by show G.kF (G.cr (Q-P)<|R-P) _=0;rw[e];rfl
 rw[this]at h;unfold G.cU at h;exact absurd h (by decide)
theorem wW:∀{c:List G.V},(G.V8 n P c).length<=c.length
 |[]=>aAg _
 |[a]=>aAg _
 |b::a::r=>by
  unfold G.V8;split
  .exact aAp (wW (c:=a::r)) (by simp)
  .exact aAg _
theorem oB:∀(a c:List G.V),(a.foldl (λc P=>P::G.V8 n P c) c).length<=a.length+c.length
 |[],c=>by simp
 |P::a,c=>by refine aAp (oB a _) ?_;have:=wW (n:=n) (P:=P) (c:=c);simp;lia
def tU (n:G.V)(ps:List G.V):(G.v7 n ps).length<=ps.length:=by simpa[G.v7]using oB (n:=n) ps []
theorem sM {α β:Type}(f:α->D):∀(Y a:List α),kC (Y.map f) (a.map f)=(Y.zip a).map λp=>D.tup [f p.1,f p.2]
 |[],_=>by simp[kC]
 |_::_,[]=>by simp[kC]
 |x::Y,y::a=>by have:=sM (β:=β) f Y a;simp only[kC]at this⊢;simp[this]
def WD (a:Sz 10000 n)(b:T9 1000 j):S8 [vd n,.lst (j.map vd)]=.ok (.lst ((G.v7 n j).reverse.map vd)):=by simp only[S8,v1,QH,uK,JS,qG,u3];exact kn ⟨a,b⟩
def DS {n P Q R:G.V}(h:Sz 10000 n)(a:Sz 1000 P)(b:Sz 1000 Q)(d:Sz 1000 R):dF [vd n,vd P,vd Q,vd R]=.ok (.int (G.turn n P Q R)):=kn ⟨h,a,b,d⟩
def U3 (a:Sz 1000 A)(b:Sz 1000 B)(d:T9 1000 j)(e:G.cU (G.b7 A B j).1):D3 [.tup [vd A,vd B],.lst (j.map vd)]=.ok (mJ (G.b7 A B j).1 (G.b7 A B j).2):=by simp only[D3,v1,QH,uK,JS,qG,u3];exact kn ⟨a,b,d,e⟩
def UY (a:Sz 10000 n)(b:T9 1000 j):N8 [vd n,.lst (j.map vd)]=.ok (.lst ((G.j8 n j).map vd)):=by simp only[N8,v1,QH,uK,JS,qG,u3];exact kn ⟨a,b⟩
def wR (h:j.length<=3000):v5 [.lst (j.map vd)]=.ok (.lst ((G.J2 j).map u4)):=by simp only[v5,u3];exact kn h
def FZ (h:a.length+b.length<=sizeLine):lS (.lst a) (.lst b)=.ok (.lst (a++b)):=kn h
def OS (a b:G.V):HT.lexLt (flat (vd a)) (flat (vd b))=true↔G.e9 (b-a):=by
 show HT.lexLt [a.x,a.y,a.z] [b.x,b.y,b.z]=true↔_;unfold G.e9;simp only[HT.lexLt,G.EQ,G.ER,G.FE];by_cases d:a.x=b.x
 .by_cases e:a.y=b.y
  .by_cases f:a.z=b.z
   .simp[d,e,f]
   .simp[d,e,f];try lia
  .simp[d,e];try lia
 .simp[d];try lia
def BS {j:List G.V}(h:j.Pairwise λa b=>G.e9 (b-a)):QJ (j.map vd):=aBN.mpr (h.imp λ{a b} q=>(OS a b).mpr q)
def XB {j:List G.V}(h:QJ (j.map vd)):j.Pairwise λa b=>G.e9 (b-a):=(aBN.mp h).imp λ{a b} q=>(OS a b).mp q
def OO (j:List G.V):(j.map vd).all P9=true:=aBC.mpr λd a=>by obtain⟨v,_,rfl⟩:=aAk.mp a;rfl
def YA [Tabs]{m:G.V}{j:List G.V}(h:(m::j).Pairwise λa b=>G.e9 (b-a)):OX [.lst ((m::j).map vd)]=.ok (vd m):=by show(if(m::j).map vd≠[]/\((m::j).map vd).all P9=true then _ else _)=_;rw[kn ⟨by simp,OO _⟩,TD (BS h) _ (by simp)];rfl
def HN {k:Nat}{P Q R:G.V}(p:Sz k P)(q:Sz k Q)(r:Sz k R):Sz (k+1+(k+1)+1) (G.j4 P Q R).1:=by
 have a:=(q.sub p).cr (r.sub p);by_cases d:G.cr (Q-P) (R-P)=0
 .have:(G.j4 P Q R).1=0:=by show G.kF (G.cr (Q-P)<|R-P) _=0;rw[d];rfl
  rw[this];exact⟨aAX _,aAX _,aAX _⟩
 .obtain⟨h,i,j⟩:=G.jB d;have e:=bits_fdiv (b:=(G.x6 (G.cr (Q-P)<|R-P):Int)) a.1;have f:=bits_fdiv (b:=(G.x6 (G.cr (Q-P)<|R-P):Int)) a.2.1;have g:=bits_fdiv (b:=(G.x6 (G.cr (Q-P)<|R-P):Int)) a.2.2;rw[nA h]at e f g;exact⟨e,f,g⟩
def pC {P Q R:G.V}(p:Sz 1000 P)(q:Sz 1000 Q)(r:Sz 1000 R):Sz 2003 (G.j4 P Q R).1:=HN p q r
def zE {A B:G.V}{j:List G.V}(p:Sz 1000 A)(q:Sz 1000 B)(r:T9 1000 j):Sz 2003 (G.b7 A B j).1:=by
 unfold G.b7;rcases G.jG (a:=B-A) (A:=A) j 0 A with h|h
 .exact pC p q (r.1 _ h)
 .rw[h];exact pC p q p
def rj (m:G.V):vd (m+G.kk)=.tup [.int m.x,.int m.y,.int (m.z+1)]:=by simp[G.kk]
def LR (h:Sz 900 m):Sz 1000 (m+G.kk):=(h.add (v:=G.kk) ⟨by decide,by decide,by decide⟩).mono
def LX (h:T9 k j):T9 k (G.o8 n d j):=h.sub (λP a=>(G.c6.mp a).1) (aEk _ _)
def KT {α:Type}{l:List α}{a b:α}(d:a∈l)(e:b∈l)(h:a≠b):∃x y r,l=x::y::r:=by
 match l,d,e with
 |[x],d,e=>exact absurd ((aAN.mp d).trans (aAN.mp e).symm) h
 |x::y::r,_,_=>exact⟨x,y,r,rfl⟩
open Classical in
def QB {J:List (D×D)}{k v a:D}:a∈(bO J k v).map (·.1)↔a∈J.map (·.1)\/a=k:=by
 unfold bO;split
 .rename_i h;rw[aBK];have:((λx=>x.1)∘λp:D×D=>if p.1=k then(p.1,v)else p)=λp=>p.1:=by funext p;simp only[Function.comp];split<;>rfl
  rw[this];exact⟨.inl,λq=>q.elim id λe=>by rw[e];exact h⟩
 .rw[aCf,aAT];simp
def KD {J:List (D×D)}{k v:D}:(bO J k v).length<=J.length+1:=by
 unfold bO;split
 .simp
 .simp
def vO {p q:G.V×G.V}(h:u4 p=u4 q):p=q:=by injection h with h;injection h with b a;injection a with a _;exact aGc (iJ b) (iJ a)
def BG (p:G.V×G.V):L5 7 (u4 p)=true/\wB (u4 p)=true:=⟨rfl,rfl⟩
def ffC:Ev->R Bool:=λρ=>((((qI 5 ρ).bind λd=>R.ok [d]).bind GQ).bind λx=>ij x (D.int 0)).bind EY
def ffS:Ev->R Out:=λρ=>
 B5 ((U1 9 ρ).bind λa=>nC 4 ρ a (D.bl true)) λρ=>((((qI 9 ρ).bind λx=>R7 x (D.int 1)).bind λd=>(((qI 9 ρ).bind λx=>R7 x (D.int 0)).bind λd=>R.ok [d]).bind λb=>R.ok (d::b)).bind cB).bind (wU 5 ρ)
theorem DN {a0 a1 a2 a3 a6 a7 a8:Sl}:∀(a:List (G.V×G.V)) (J:List (D×D)) (W:List (G.V×G.V)) (g:Sl),J.length+a.length<=10000->W.length+a.length<=10000->
  ∃f b,M2 (λd ρ=>R.ok (aCP ρ 9 (Sl.v d))) ffS (a.map u4) [a0,a1,a2,a3,.d J,.o (W.map u4),a6,a7,a8,g]=.ok (.nx [a0,a1,a2,a3,.d f,.o ((W++a.map λq=>(q.2,q.1)).map u4),a6,a7,a8,b])/\
   (∀e:G.V×G.V,u4 e∈f.map (·.1)↔u4 e∈J.map (·.1)\/e∈a)/\f.length<=J.length+a.length
 |[],J,W,g,_,_=>⟨J,g,by simp,λe=>by simp,by simp⟩
 |q::a,J,W,g,i,j=>by
  simp only[aAt]at i j;have u:=KD (J:=J) (k:=u4 q) (v:=.bl true);obtain⟨f,b,e,m,l⟩:=DN a (bO J (u4 q)<|.bl true) (W++[(q.2,q.1)]) (.v (u4 q)) (by lia) (by simp;lia);refine⟨f,b,?_,λx=>?_,by simp;lia⟩
  .rw[aAv];refine(M0 (ρ2:=[a0,a1,a2,a3,.d (bO J (u4 q)<|.bl true),.o ((W++[(q.2,q.1)]).map u4),a6,a7,a8,.v (u4 q)]) rfl ?_).trans ?_
   .have n:J.length<=sizeLine:=aAp (show J.length<=10000 by lia) (by decide);have p:(W.map u4).length<sizeLine:=by rw[aAi];exact aDu (show W.length<=10000 by lia) (by decide)
    have r:nC 4 [a0,a1,a2,a3,.d J,.o (W.map u4),a6,a7,a8,.v (u4 q)] (u4 q) (.bl true)=.ok (.nx [a0,a1,a2,a3,.d (bO J (u4 q)<|.bl true),.o (W.map u4),a6,a7,a8,.v (u4 q)]):=by show(if _ then _ else _)=_;rw[kn ⟨(BG q).1,(BG q).2,n⟩];rfl
    have s:wU 5 [a0,a1,a2,a3,.d (bO J (u4 q)<|.bl true),.o (W.map u4),a6,a7,a8,.v (u4 q)] (u4 (q.2,q.1))=.ok (.nx [a0,a1,a2,a3,.d (bO J (u4 q)<|.bl true),.o ((W++[(q.2,q.1)]).map u4),a6,a7,a8,.v (u4 q)]):=by show(if _ then _ else _)=_;rw[kn p,aCf];rfl
    show B5 ((R.ok<|u4 q).bind λt=>nC 4 [a0,a1,a2,a3,.d J,.o (W.map u4),a6,a7,a8,.v (u4 q)] t (D.bl true)) _=_;rw[R.aa0,r];exact s
   .rw[e];simp
  .rw[m x,QB,aAd];constructor
   .rintro((h|h)|h)
    .exact .inl h
    .exact .inr (.inl (vO h))
    .exact .inr (.inr h)
   .rintro(h|h|h)
    .exact .inl (.inl h)
    .exact .inl (.inr (by rw[h]))
    .exact .inr h
section
variable(Φ:(List D->R D)->Hp->(cp->Prop)->cp->Prop)
def ffB:Ev->R Out:=λρ=>
 B5 ((AY 5 ρ).bind λz=>R.ok (Out.nx<|aCP z.snd 6<|Sl.v z.fst)) λρ=>
  ((U1 6 ρ).bind (fT 4 ρ)).bind λt=>
   if t=true then
    B5
     ((((U1 6 ρ).bind λd=>((callC Φ 1 (m8 (λρ=>(qI 6 ρ).bind λx=>R7 x (D.int 0)) M9) ρ).bind λd=>R.ok [d]).bind λa=>R.ok (d::a)).bind D3).bind λd=>R.ok (Out.nx<|aCP ρ 7<|Sl.v d))
     λρ=>
     B5
      (((((qI 7 ρ).bind λx=>LI x none (some 3)).bind λd=>((callC Φ 2 (m8 (U1 7) M9) ρ).bind λd=>R.ok [d]).bind λa=>R.ok (d::a)).bind N8).bind λd=>R.ok (Out.nx<|aCP ρ 8<|Sl.v d))
      λρ=>
      B5 ((((U1 7 ρ).bind λd=>((U1 8 ρ).bind λd=>R.ok [d]).bind λa=>R.ok (d::a)).bind cB).bind (wU 3 ρ))
       λρ=>((((U1 8 ρ).bind λd=>R.ok [d]).bind v5).bind P8).bind λa=>M2 (λd ρ=>R.ok (aCP ρ 9<|Sl.v d)) ffS a ρ
   else R.ok (Out.nx ρ)
def xQ (L:D) (e:G.V×G.V) (fs:List D) (J:List (D×D)) (W:List (G.V×G.V)) (a b c d:Sl):Ev:=
 [Sl.v (u4 e),Sl.c (J1 [L]) (Φ<|J1 [L]),Sl.c (C8 [L]) (Φ<|C8 [L]),.o fs,.d J,.o (W.map u4),a,b,c,d]
end
def wK {Φ:(List D->R D)->Hp->(cp->Prop)->cp->Prop}{i:Nat}{f:Ev->R (List D)}{ρ:Ev}{m:List D->R D}{ds:List D}(h:ρ[i]?=some (.c m (Φ m)))(a:f ρ=.ok ds):callC Φ i f ρ=m ds:=by unfold callC;rw[h];dsimp only;rw[kn rfl,a];rfl
def fW (j:List G.V)(fs:List (G.V×Int)):Nat:=(fs.map λf=>(G.d4 j f).length).sum
def dU (j:List G.V)(fs:List (G.V×Int))(f:G.V×Int):fW j (fs++[f])=fW j fs+(G.d4 j f).length:=by simp[fW]
def MD {j:List G.V}{m:G.V}(h:Land j m):Sz 1000 (G.f6 m j).1/\Sz 1000 (G.f6 m j).2:=by
 have a:Sz 900 m:=h.sz.1 m h.good.mem;obtain⟨k,e,f,g,i⟩:=G.yF h.good.solid h.good.mem h.good.least;unfold G.f6;dsimp only;split
 .exact⟨a.mono,LR a⟩
 .obtain⟨x,y,r,b⟩:=KT e g i;rw[b];have q:∀z∈x::y::r,Sz 1000 z:=λz d=>by rw[<-b]at d;exact(h.sz.1 z (G.c6.mp d).1).mono
  exact⟨q x (.head _),q y (.tail _ (.head _))⟩
def UQ {j:List G.V}{m:G.V}(h:Land j m){fs:List (G.V×Int)}{b:G.V×G.V->Prop}{W:List (G.V×G.V)}(L:G.LInv j (G.f6 m j) fs b W){p:G.V×G.V}(d:p∈W):Sz 1000 p.1/\Sz 1000 p.2:=by
 rcases L.wt p d with⟨f,g,i⟩|⟨_,e⟩
 .have S:=(L.face f g).aa2 h.good.ord;have a:=S.aa1.mp i;exact⟨(h.sz.1 _ (G.c6.mp a.q).1).mono,(h.sz.1 _ (G.c6.mp a.p).1).mono⟩
 .rw[e];exact MD h
def OJ {j:List G.V}{m:G.V}(h:Land j m){f:G.V×Int}(a:G.IsFace j f.1 f.2):(G.d4 j f).length<=j.length:=by have S:=a.aa2 h.good.ord;exact G.p8 S.aa4 λx b=>(G.c6.mp<|S.aa3 b).1
def zO {j:List G.V}{f g:G.V×Int}(h:R1 (k7 j f)=R1 (k7 j g)):f=g:=by have h:[f.1.x,f.1.y,f.1.z,f.2]=[g.1.x,g.1.y,g.1.z,g.2]:=h;simp only[aEM,and_true]at h;exact aGc (G.ext h.1 h.2.1 h.2.2.1) h.2.2.2
def qQ {α β:Type}{f:α->β}(d:∀a b,f a=f b->a=b){l:List α}(h:l.Nodup):(l.map f).Nodup:=aBN.mpr (h.imp λ{a b} n e=>n (d a b e))
def RT {Φ:(List D->R D)->Hp->(cp->Prop)->cp->Prop}{j:List G.V}{m:G.V}(hz:Land j m){fs:List (G.V×Int)}{J:List (D×D)}{W:List (G.V×G.V)}{a b c d:Sl}(L:G.LInv j (G.f6 m j) fs (λe=>u4 e∈J.map (·.1)) W)
  (hk:J.length<=fW j fs) (hW:W.length<=1+fW j fs) {n:Nat} (hn:W.length+(j.length*j.length-fW j fs)<n+1) (ai:W≠[]):
  ∃l r W' a' b' c' d',ffB Φ (xQ Φ (.lst (j.map vd)) (G.f6 m j) (fs.map (k7 j)) J W a b c d)=.ok (.nx (xQ Φ (.lst (j.map vd)) (G.f6 m j) (l.map (k7 j)) r W' a' b' c' d'))/\
   G.LInv j (G.f6 m j) l (λe=>u4 e∈r.map (·.1)) W'/\r.length<=fW j l/\W'.length<=1+fW j l/\W'.length+(j.length*j.length-fW j l)<n:=by
 obtain⟨rest,p,rfl⟩:∃rest p,W=rest++[p]:=⟨W.dropLast,W.getLast ai,(aEz ai).symm⟩;have s:=G.rO hz.good.solid hz.good.ord L.nd L.face;have t:=hz.few;have nn:j.length*j.length<=63*63:=aFl t t;have hsum:fW j fs+j.length<=j.length*j.length:=s;have H:(rest++[p]).length=rest.length+1:=by simp
 rw[H]at hW hn;have I:AY 5 (xQ Φ (.lst (j.map vd)) (G.f6 m j) (fs.map<|k7 j) J (rest++[p]) a b c d)=.ok (u4 p,xQ Φ (.lst (j.map vd)) (G.f6 m j) (fs.map<|k7 j) J rest a b c d):=by show(match((rest++[p]).map u4)[((rest++[p]).map u4).length-1]? with|some d=>_|none=>_:R (D×Ev))=_;rw[aCf];simp;rfl
 have N:fT 4 (xQ Φ (.lst (j.map vd)) (G.f6 m j) (fs.map<|k7 j) J rest (.v (u4 p)) b c d) (u4 p)=.ok (!(open Classical in decide (u4 p∈J.map (·.1)))):=by unfold fT;rw[show(xQ Φ (.lst (j.map vd)) (G.f6 m j) (fs.map<|k7 j) J rest (.v (u4 p)) b c d)[4]?=some (.d J)from rfl];dsimp only;rw[kn (BG p)]
 have C:T9 1000 j:=hz.sz.mono;unfold ffB;rw[I];show∃l r W' a' b' c' d',B5 (R.ok<|Out.nx<|xQ Φ (.lst (j.map vd)) (G.f6 m j) (fs.map<|k7 j) J rest (.v (u4 p)) b c d) _=_/\_;rw[C0];rw[show U1 6 (xQ Φ (.lst (j.map vd)) (G.f6 m j) (fs.map<|k7 j) J rest (.v (u4 p)) b c d)=.ok (u4 p)from rfl,R.aa0,N,R.aa0];by_cases u:u4 p∈J.map (·.1)
 .refine⟨fs,J,rest,.v (u4 p),b,c,d,?_,G.MW hz.good L rfl u,hk,by lia,by lia⟩;rw[decide_eq_true u];rfl
 .have w:p∈rest++[p]:=by simp
  obtain⟨E,n2,n3⟩:=G.wY hz.good L w u;obtain⟨y,A⟩:=UQ hz L w;have ab:=U3 y A C E.prim;have i:=zE y A C;obtain⟨f,ef⟩:∃f,G.b7 p.1 p.2 j=f:=⟨_,rfl⟩;rw[ef]at E n2 n3 ab i;have po:=gQ (d:=f.2) i.mono C;have O:=UY (n:=f.1) (j:=G.o8 f.1 f.2 j) i.mono (LX C);have rl:=OJ hz E;have O:N8 [vd f.1,.lst ((G.o8 f.1 f.2 j).map vd)]=.ok (.lst ((G.d4 j f).map vd)):=O;have pr:=wR (j:=G.d4 j f) (by lia);have Q:=λ{wk'} {W'} h1 h2=>G.MQ hz.good L (rest:=rest) (p:=p) rfl u (walked':=wk') (waiting':=W') h1 h2;rw[ef]at Q;have T:(fs++[f]).Nodup:=by
   have:=(Q (wk':=λe=>u4 e∈J.map (·.1)\/e∈G.J2 (G.d4 j f)) (W':=rest++(G.J2<|G.d4 j f).map λq=>(q.2,q.1)) (λe=>Iff.rfl) (λq=>by
    rw[aAT,aAk];constructor
    .rintro(h|⟨x,U,rfl⟩)
     .exact .inl h
     .exact .inr U
    .rintro(h|h)
     .exact .inl h
     .exact .inr ⟨_,h,rfl⟩))
   exact this.nd
  have k:fW j (fs++[f])+j.length<=j.length*j.length:=G.rO hz.good.solid hz.good.ord T λg hg=>by
   rcases aAT.mp hg with z|z
   .exact L.face g z
   .rw[aAN.mp z];exact E
  rw[dU]at k;have clen:(G.J2<|G.d4 j f).length=(G.d4 j f).length:=by unfold G.J2;simp;lia
  obtain⟨r,Y,run,B,len'⟩:=DN (a0:=Sl.v (u4<|G.f6 m j)) (a1:=Sl.c (J1 [.lst (j.map vd)]) (Φ<|J1 [.lst (j.map vd)])) (a2:=Sl.c (C8 [.lst (j.map vd)]) (Φ<|C8 [.lst (j.map vd)])) (a3:=.o ((fs++[f]).map (k7 j))) (a6:=.v (u4 p)) (a7:=.v (mJ f.1 f.2)) (a8:=.v (.lst ((G.d4 j f).map vd))) (G.J2<|G.d4 j f) J rest d (by lia) (by lia);refine⟨fs++[f],r,rest++(G.J2<|G.d4 j f).map (λq=>(q.2,q.1)),.v (u4 p),.v (mJ f.1 f.2),.v (.lst ((G.d4 j f).map vd)),Y,?_,Q B (λq=>?_),?_,?_,?_⟩
  .have ap:wU 3 (xQ Φ (.lst (j.map vd)) (G.f6 m j) (fs.map<|k7 j) J rest (.v (u4 p)) (.v (mJ f.1 f.2)) (.v (.lst ((G.d4 j f).map vd))) d) (k7 j f)=.ok (.nx (xQ Φ (.lst (j.map vd)) (G.f6 m j) ((fs++[f]).map (k7 j)) J rest (.v (u4 p)) (.v (mJ f.1 f.2)) (.v (.lst ((G.d4 j f).map vd))) d)):=by show(if(fs.map<|k7 j).length<sizeLine then _ else _)=_;have h3:=G.kL hz.good.solid hz.good.ord L.face;have h3:3*fs.length<=fW j fs:=h3;rw[kn (by rw[aAi];exact aDu (show fs.length<=4000 by lia) (by decide)),aCf];rfl
   have ca:callC Φ 1 (m8 (λρ=>(qI 6 ρ).bind λx=>R7 x (D.int 0)) M9) (xQ Φ (.lst (j.map vd)) (G.f6 m j) (fs.map<|k7 j) J rest (.v (u4 p)) b c d)=.ok (.lst (j.map vd)):=by exact(wK (m:=J1 [.lst (j.map vd)]) (ds:=[vd p.1]) rfl rfl).trans rfl
   have ct:callC Φ 2 (m8 (U1 7) M9) (xQ Φ (.lst (j.map vd)) (G.f6 m j) (fs.map<|k7 j) J rest (.v (u4 p)) (.v (mJ f.1 f.2)) c d)=.ok (.lst ((G.o8 f.1 f.2 j).map vd)):=by exact(wK (m:=C8 [.lst (j.map vd)]) (ds:=[mJ f.1 f.2]) rfl rfl).trans po
   have sl:LI (mJ f.1 f.2) none (some 3)=.ok (vd f.1):=rfl;rw[decide_eq_false u];simp only[Bool.not_false,if_true];rw[ca,R.aa0,R.aa0,R.aa0,R.aa0,ab,R.aa0];show B5 (R.ok<|Out.nx<|xQ Φ (.lst (j.map vd)) (G.f6 m j) (fs.map<|k7 j) J rest (.v (u4 p)) (.v (mJ f.1 f.2)) c d) _=_;rw[C0];rw[ct];show B5 ((((R.ok<|mJ f.1 f.2).bind λx=>LI x none (some 3)).bind λd=>(R.ok [D.lst ((G.o8 f.1 f.2 j).map vd)]).bind λds=>R.ok (d::ds)).bind N8|>.bind λd=>R.ok (Out.nx<|aCP _ 8<|Sl.v d)) _=_;rw[R.aa0,sl,R.aa0,R.aa0,R.aa0,O,R.aa0];show B5 (R.ok<|Out.nx<|xQ Φ (.lst (j.map vd)) (G.f6 m j) (fs.map<|k7 j) J rest (.v (u4 p)) (.v (mJ f.1 f.2)) (.v (.lst ((G.d4 j f).map vd))) d) _=_;rw[C0];show B5 (wU 3 (xQ Φ (.lst (j.map vd)) (G.f6 m j) (fs.map<|k7 j) J rest (.v (u4 p)) (.v (mJ f.1 f.2)) (.v (.lst ((G.d4 j f).map vd))) d)<|k7 j f) _=_;rw[ap,C0];show((v5 [.lst ((G.d4 j f).map vd)]).bind P8).bind _=_;rw[pr,R.aa0];exact run
  .rw[aAT,aAk];constructor
   .rintro(h|⟨x,U,rfl⟩)
    .exact .inl h
    .exact .inr U
   .rintro(h|h)
    .exact .inl h
    .exact .inr ⟨_,h,rfl⟩
  .rw[dU];lia
  .rw[dU,aAC,aAi];lia
  .rw[dU,aAC,aAi];lia
def TM (j:List G.V)(f:G.V×Int):List (G.V×Int)->List (G.V×Int)
 |[]=>[f]
 |x::Y=>if HT.lexLt (R1 (k7 j f)) (R1 (k7 j x))=true then f::x::Y else x::TM j f Y
def EM (j:List G.V)(fs:List (G.V×Int)):List (G.V×Int):=fs.foldr (TM j) []
theorem yE (j:List G.V)(f:G.V×Int):∀Y:List (G.V×Int),vS R1 (k7 j f) (Y.map (k7 j))=(TM j f Y).map (k7 j)
 |[]=>rfl
 |x::Y=>by
  unfold TM;rw[aAv,vS];split
  .rfl
  .rw[aAv,yE j f Y]
theorem dM (j:List G.V):∀fs:List (G.V×Int),bT R1 (fs.map (k7 j))=(EM j fs).map (k7 j)
 |[]=>rfl
 |f::fs=>by show vS R1 (k7 j f) (bT R1 (fs.map (k7 j)))=_;rw[dM j fs,yE];rfl
def jW (h:k7 j f=k7 j g):f=g:=zO (by rw[h])
theorem fC:∀{a b:List (G.V×Int)},a.map (k7 j)=b.map (k7 j)->a=b
 |[],[],_=>rfl
 |[],_::_,h=>by cases h
 |_::_,[],h=>by cases h
 |x::a,y::b,h=>by rw[aAv,aAv]at h;injection h with d e;rw[jW d,fC e]
def HC:f∈EM j fs↔f∈fs:=by
 have h:=(E9 R1<|fs.map<|k7 j).mem_iff (a:=k7 j f);rw[dM]at h;constructor
 .intro q;obtain⟨g,b,e⟩:=aAk.mp (h.mp<|aBo q);rw[<-jW e];exact b
 .intro q;obtain⟨g,b,e⟩:=aAk.mp (h.mpr<|aBo q);rw[<-jW e];exact b
def tL [Tabs]{j:List G.V}{fs:List (G.V×Int)}(h:fs.Nodup):((fs.map (k7 j)).map R1).Nodup:=by rw[aBK];exact qQ (λa b e=>zO (j:=j) e) h
def K1 (h:pB k l):l.Nodup:=h.imp λ{a b} q e=>by subst e;rw[TS.lex_irrefl]at q;cases q
def G0 {j:List G.V}{fs:List (G.V×Int)}(h:(fs.map (k7 j)).Nodup):fs.Nodup:=(aBN.mp h).imp λ{a b} n e=>n (by rw[e])
def yT {j:List G.V}{fs gs:List (G.V×Int)}(a:cV j fs)(b:cV j gs):fs=gs:=by
 have d:=G0 (K1 a.2);have e:=G0 (K1 b.2);have p:fs.Perm gs:=(aCM d e).mpr λf=>by rw[a.1,b.1]
 exact fC (dH a.2 b.2 (p.map _))
def nN (h:cV j fs):j0 j=fs:=by unfold j0;have q:∃fs,cV j fs:=⟨fs,h⟩;rw[dif_pos q];exact yT q.choose_spec h
def sV [Tabs]{j:List G.V}{fs:List (G.V×Int)}(a:fs.Nodup)(h:∀n d,(n,d)∈fs↔G.IsFace j n d):cV j (EM j fs):=by refine⟨λf=>by rw[HC];exact h f.1 f.2,?_⟩;rw[<-dM];exact Y9 (tL a)
def vq [Tabs]{Φ:(List D->R D)->Hp->(cp->Prop)->cp->Prop}{j:List G.V}{m:G.V}(hz:Land j m)(s:j.length<=23):
  L9 (B5 (R3 ffC (ffB Φ) 5000 (xQ Φ (.lst (j.map vd)) (G.f6 m j) [] [] [G.f6 m j] .no .no .no .no)) λρ=>(((qI 3 ρ).bind tz).bind λds=>R.ok (D.lst ds)).bind λd=>R.ok (Out.rt d))=.ok (.lst ((j0 j).map (k7 j))):=by
 refine JG (Iv:=λn ρ=>∃fs J W a b c d,ρ=xQ Φ (.lst (j.map vd)) (G.f6 m j) (fs.map<|k7 j) J W a b c d/\G.LInv j (G.f6 m j) fs (λe=>u4 e∈J.map (·.1)) W/\J.length<=fW j fs/\W.length<=1+fW j fs/\W.length+(j.length*j.length-fW j fs)<n) ?_ ?_ ?_ (by rintro ρ ⟨_,_,_,_,_,_,_,_,_,_,_,h⟩;lia)
 .rintro n ρ ⟨fs,J,W,a,b,c,d,rfl,L,t,u,v⟩;by_cases i:W=[]
  .subst i;exact .inl rfl
  .refine .inr ⟨?_,?_⟩
   .have w:(0:Int)<((W.map u4).length:Int):=by have:=aEL.mpr i;rw[aAi];lia
    show(R.ok<|D.bl<|decide ((0:Int)<((W.map u4).length:Int))).bind EY=_;rw[decide_eq_true w];rfl
   .obtain⟨x,y,A,B,C,E,H,e,I,N,l,o⟩:=RT (Φ:=Φ) (a:=a) (b:=b) (c:=c) (d:=d) hz L t u v i;exact⟨_,e,x,y,A,B,C,E,H,rfl,I,N,l,o⟩
 .refine⟨[],[],[G.f6 m j],.no,.no,.no,.no,rfl,?_,aAg _,aAg _,?_⟩
  .have:=G.DH hz.good;refine⟨this.face,this.nd,λe=>?_,this.cl,this.wt,this.ne⟩;rw[<-this.wk e];simp
  .have nn:j.length*j.length<=23*23:=aFl s s;show 1+(j.length*j.length-0)<5000
   lia
 .rintro n ρ ⟨fs,J,W,a,b,c,d,rfl,L,t,u,v⟩ k;have q:W=[]:=by
   cases W with
   |nil=>rfl
   |cons p W=>have k:(R.ok<|D.bl<|decide ((0:Int)<(((p::W).map u4).length:Int))).bind EY=.ok false:=k;rw[decide_eq_true (by simp;try lia)]at k;cases k
  subst q;obtain⟨i,r⟩:=G.PY hz.good L;have O:=sV L.nd r;rw[nN O];have g:fs≠[]:=λz=>by have Q:=G.V7 hz.good.solid hz.good.ord hz.good.mem hz.good.least;have:=(r _ _).mpr Q;rw[z]at this;cases this
  have T:=(G.pZ hz.good.solid hz.good.ord (λf=>r f.1 f.2) L.nd g).1;have U:(fs.map<|k7 j).length<=63:=by rw[aAi];lia
  have Y:tz (.lst (fs.map<|k7 j))=.ok ((EM j fs).map (k7 j)):=by show(if _ then _ else _)=_;rw[kn ⟨aBC.mpr λd hd=>by obtain⟨f,_,rfl⟩:=aAk.mp hd;rfl,tL L.nd,U⟩,dM]
  show L9 ((((R.ok<|D.lst<|fs.map<|k7 j).bind tz).bind λds=>R.ok (D.lst ds)).bind λd=>R.ok (Out.rt d))=_;rw[R.aa0,Y];rfl
theorem DZ:∀{ds:List D},(∀d∈ds,∃v,d=vd v)->(ds.filterMap vV).map vd=ds
 |[],_=>rfl
 |d::ds,h=>by obtain⟨v,rfl⟩:=h d (.head _);rw[List.filterMap_cons_some (vL v),aAv,DZ λd a=>h d (.tail _ a)]
section
variable [Tabs]
def ME (j:List G.V):∀d∈j.map vd,P9 d=true:=λd a=>by obtain⟨v,_,rfl⟩:=aAk.mp a;rfl
def aX (j:List G.V):bV (j.map vd)=(c8 j).map vd:=by unfold c8;refine(DZ λd a=>?_).symm;obtain⟨v,_,rfl⟩:=aAk.mp ((O9 (ME j) d).mp a);exact⟨v,rfl⟩
def m9 (j:List G.V):(c8 j).Pairwise λa b=>G.e9 (b-a):=XB (by rw[<-aX];exact dW _)
def NY {v:G.V}{j:List G.V}:vd v∈j.map vd↔v∈j:=by rw[aAk];exact⟨by rintro⟨u,a,e⟩;rw[<-iJ e];exact a,λh=>⟨v,h,rfl⟩⟩
def t9 {j:List G.V}{v:G.V}:v∈c8 j↔v∈j:=by rw[<-NY,<-aX,O9 (ME j),NY]
def bG (j:List G.V):(c8 j).Nodup:=(m9 j).imp λ{a b} h e=>by subst e;exact G.G1 h
def kH {a b:List G.V}(g:a.Pairwise λa b=>G.e9 (b-a))(i:b.Pairwise λa b=>G.e9 (b-a))(h:∀v,v∈a↔v∈b):a=b:=by refine SH (pQ (BS g) (BS i) λd=>?_);rw[aAk,aAk];exact⟨λ⟨v,f,e⟩=>⟨v,(h v).mp f,e⟩,λ⟨v,f,e⟩=>⟨v,(h v).mpr f,e⟩⟩
def VV (h:(c8 j).length<=63):qy (.lst (j.map vd))=.ok ((c8 j).map vd):=by show(if _ then _ else _)=_;rw[kn ⟨OO j,by rw[aX,aAi];exact h⟩,aX]
def Z6 (h:G.j5 a)(d:∀v,v∈a->v∈b):G.j5 b:=by obtain⟨A,f,B,g,C,i,D,j,e⟩:=h;exact⟨A,d A f,B,d B g,C,d C i,D,d D j,e⟩
def bx (h:G.j5 j):G.T0 j=3:=by
 by_cases e:G.T0 j=3
 .exact e
 .exact absurd h (G.NW e)
def BB (j:List G.V):(c8 j).length<=j.length:=G.p8 (bG j) λv a=>t9.mp a
def W4 (f:T9 900 j)(g:G.j5 j)(d:(c8 j).length<=63):∃m r,c8 j=m::r/\Land (m::r) m:=by
 have a:G.j5 (c8 j):=Z6 g λv i=>t9.mpr i;cases e:c8 j with
 |nil=>rw[e]at a;obtain⟨A,k,_⟩:=a;cases k
 |cons m r=>
  refine⟨m,r,rfl,?_⟩;have b:=m9 j;rw[e]at a d b;refine⟨⟨a,b,.head _,λX l=>?_⟩,⟨λP n=>f.1 P (t9.mp (by rw[e];exact n)),by lia⟩,d,rfl⟩;rcases aAd.mp l with h|h
  .exact .inl h
  .exact .inr ((aAA.mp b).1 X h)
def RD (a:T9 1000 j)(b:G.j5 j):D6 [.lst (j.map vd)]=.ok .non:=by simp only[D6,u3];exact kn ⟨a,bx b⟩
def vk (h:Land (m::j) m):G5 [.lst ((m::j).map vd)]=.ok (u4 (G.f6 m (m::j))):=by simp only[G5,u3];exact kn h
def YS (h:Land (m::j) m)(a:(m::j).length<=23):G4 (u4 (G.f6 m (m::j))) (J1 [.lst ((m::j).map vd)]) (C8 [.lst ((m::j).map vd)])=.ok (.lst ((j0 (m::j)).map (k7 (m::j)))):=by simp only[G4,show J1 [.lst ((m::j).map vd)] [.non]=.ok (.lst ((m::j).map vd))from rfl,u3];exact kn ⟨h,a,rfl,rfl,rfl⟩
def mT (a:T9 900 j)(b:G.j5 j)(d:(c8 j).length<=23):K0 [.lst (j.map vd)]=.ok (.lst ((j0 (c8 j)).map (k7 (c8 j)))):=by simp only[K0,u3];exact kn ⟨a,b,d⟩
def RI (a:T9 900 j)(b:G.j5 j)(d:(c8 j).length<=23):aE [.lst (j.map vd)]=.ok (.lst ((A2 j).map vd)):=by simp only[aE,u3];exact kn ⟨a,b,d⟩
omit [Tabs]in
theorem zw {α:Type}:∀l:List α,∃b:List α,b.Nodup/\∀x,x∈b↔x∈l
 |[]=>⟨[],aDl,λ_=>Iff.rfl⟩
 |a::l=>by
  obtain⟨b,d,h⟩:=zw l;by_cases f:a∈l
  .exact⟨b,d,λx=>by rw[h,aAd];exact⟨.inr,λq=>q.elim (λe=>by rw[e];exact f) id⟩⟩
  .exact⟨a::b,aAG.mpr ⟨λz=>f ((h a).mp z),d⟩,λx=>by rw[aAd,aAd,h]⟩
def F4 (h:Land j m)(p:j.length<=23):cV j (j0 j):=by
 classical
 obtain⟨fs,b,g⟩:=zw ((G.cands j).filter λf=>decide (G.IsFace j f.1 f.2));have i:∀n d,(n,d)∈fs↔G.IsFace j n d:=λn d=>by
  rw[g,aAQ];constructor
  .intro q;exact of_decide_eq_true q.2
  .intro q;refine⟨?_,decide_eq_true q⟩;obtain⟨A,k,B,l,C,o,_,e⟩:=G.iV q;unfold G.cands;rw[<-e];exact aBd.mpr ⟨A,k,aBd.mpr ⟨B,l,aAk.mpr ⟨C,o,rfl⟩⟩⟩
 have a:=sV b i;rw[nN a];exact a
theorem lB:∀(Y:List D) (b:List (List G.V)) (B:List G.V) (x y:Sl),rF Y=some b->B.length+b.flatten.length<=3000->
  ∃g i,M2 (bS 2 (K4 (λd ρ=>R.ok (aCP ρ 2 (Sl.v d))) (K4 (λd ρ=>R.ok (aCP ρ 3 (Sl.v d))) eS))) (λρ=>(U1 3 ρ).bind (UE 1 ρ)) Y [a,.o (B.map vd),x,y]=.ok (.nx [a,.o ((B++b.flatten).map vd),g,i])
 |[],b,B,x,y,h,_=>by cases h;exact⟨x,y,by simp⟩
 |d::Y,b,B,x,y,h,k=>by
  unfold rF at h;split at h
  .rename_i v l f m;cases h;obtain⟨p,j,rfl,n⟩:∃p j,d=.tup [p,.lst j]/\F6 j=some v:=by
    unfold XS at f;split at f
    .exact⟨_,_,rfl,f⟩
    .cases f
   have q:=o9 n;subst q;rw[List.flatten_cons,aAC]at k;obtain⟨g,i,e⟩:=lB Y l (B++v) (.v p) (.v (.lst (v.map vd))) m (by rw[aAC];lia);refine⟨g,i,?_⟩;have r:(B.map vd).length+(v.map vd).length<=sizeLine:=by rw[aAi,aAi];exact OH (by lia)
   refine(M0 (ρ1:=[a,.o (B.map vd),.v p,.v (.lst (v.map vd))]) (ρ2:=[a,.o ((B++v).map vd),.v p,.v (.lst (v.map vd))]) rfl ?_).trans ?_
   .show(if(B.map vd).length+(v.map vd).length<=sizeLine then _ else _)=_;rw[kn r,aCf];rfl
   .rw[e,List.flatten_cons,aDI]
  .cases h
theorem kJ (j:List G.V):∀fs:List (G.V×Int),rF (fs.map (k7 j))=some (fs.map (G.d4 j))
 |[]=>rfl
 |f::fs=>by rw[aAv,rF,kJ j fs];rw[show XS (k7 j f)=some (G.d4 j f)from u3 _];rfl
def BX {j:List G.V}{fs:List (G.V×Int)}(a:(fs.flatMap (G.d4 j)).length<=3000)(b:(c8 (fs.flatMap (G.d4 j))).length<=63):F9 [.lst (fs.map (k7 j))]=.ok (.lst ((c8 (fs.flatMap (G.d4 j))).map vd)):=by have e:(fs.map<|G.d4 j).flatten=fs.flatMap (G.d4 j):=rfl;simp only[F9,kJ,e];exact kn ⟨a,b⟩
def mS (d:j.Pairwise λa b=>G.e9 (b-a))(e:G.IsFace j f.1 f.2)(h:X∈G.d4 j f):X∈j:=(G.c6.mp<|(e.aa2 d).aa3 h).1
def yC (g:T9 900 j)(i:G.j5 j)(a:(c8 j).length<=23)(h:X∈A2 j):X∈j:=by obtain⟨m,r,e,L⟩:=W4 g i (by lia);unfold A2 at h;rw[t9,aBd]at h;obtain⟨f,b,d⟩:=h;rw[e]at b d a;have k:=F4 L a;have:=mS L.good.ord ((k.1 f).mp b) d;rw[<-e,t9]at this;exact this
def rR (L:Land j m)(b:j.length<=23):((j0 j).flatMap (G.d4 j)).length<=200/\(c8 ((j0 j).flatMap (G.d4 j))).length<=23:=by
 have a:=F4 L b;have e:=G0 (K1 a.2);have g:j0 j≠[]:=λz=>by have h:=G.V7 L.good.solid L.good.ord L.good.mem L.good.least;have:=(a.1 _).mpr h;rw[z]at this;cases this
 have i:=(G.pZ L.good.solid L.good.ord a.1 e g).2;constructor
 .rw[List.length_flatMap]
  lia
 .refine aAp (G.p8 (bG _) λv d=>?_) b;rw[t9,aBd]at d;obtain⟨f,k,l⟩:=d;exact mS L.good.ord ((a.1 f).mp k) l
end
def Z3 (h:0<b):W2 (.int a) (.int b)=.ok (.int (a.fmod b)):=xW (by omega)
def rV (h:0<b)(d:b<1000000000000000):Q4 (.int a) (.int b)=.ok (.int (a.fdiv b)):=aJ ⟨by omega,w5 (L0 (n:=60) (by omega) (by omega))⟩
def nM {a b:Int}(h:0<b):0<=a.fmod b/\a.fmod b<b:=by have f:=PyProof.Rows.fdiv_fmod_facts a b;have g:=f.2.2.1 h;omega
def V2 (a:r=.ok (.nx ρ))(b:L9 (F ρ)=x):L9 (B5 r F)=x:=by rw[a];exact b
def uw {n:Nat}(h:n<=1000000):fO [.int (n:Int)]=.ok ((aBv n).map λ(k:Nat)=>D.int (k:Int)):=by
 show(if sJ 0 (n:Int) 1 then R.ok (AI 0 1<|lK 0 n 1)else R.bad)=_;rw[kn ⟨by decide,by decide,by decide,by decide,by omega,by omega⟩];have e:lK 0 (n:Int) 1=n:=by
  unfold lK;split
  .simp
  .omega
 rw[e];unfold AI;congr 1;refine List.map_congr_left λk _=>?_;simp
section
variable [Tabs]
def mY {j:List G.V}(h:T9 900 j)(i:G.j5 j)(d:(c8 j).length<=23):∀X,X∈A2 j↔∃f:G.V×Int,G.IsFace (c8 j) f.1 f.2/\X∈G.d4 (c8 j) f:=λX=>by obtain⟨m,r,e,L⟩:=W4 h i (by lia);unfold A2;rw[t9,aBd];rw[e]at d⊢;have g:=F4 L d;exact⟨by rintro⟨f,a,b⟩;exact⟨f,(g.1 f).mp a,b⟩,by rintro⟨f,a,b⟩;exact⟨f,(g.1 f).mpr a,b⟩⟩
def xC {l:List G.V}(h:l.Pairwise λa b=>G.e9 (b-a)):c8 l=l:=kH (m9 _) h λv=>t9
def rS {j:List G.V}(l:T9 900 j)(o:G.j5 j)(p:(c8 j).length<=23):G.j5 (A2 j)/\T9 900 (A2 j)/\c8 (A2 j)=A2 j/\(A2 j).length<=23/\A2 (A2 j)=A2 j/\∀n d,G.IsFace (A2 j) n d↔G.IsFace (c8 j) n d:=by
 have s:=mY l o p;have g:(A2 j).Pairwise λa b=>G.e9 (b-a):=m9 _;have q:G.j5 (c8 j):=Z6 o λv h=>t9.mpr h;have t:=m9 j;obtain⟨m,r,e,L⟩:=W4 l o (by lia);have u:cV (c8 j) (j0<|c8 j):=by have i:=p;rw[e]at i⊢;exact F4 L i
 have B:(A2 j).length<=23:=by have i:=p;unfold A2;rw[e]at i⊢;exact(rR L i).2
 have C:j0 (c8 j)≠[]:=λz=>by
  obtain⟨A,N,_⟩:=q;have:∃f:G.V×Int,G.IsFace (c8 j) f.1 f.2:=by have k:=L;rw[<-e]at k;have:=G.V7 k.good.solid k.good.ord k.good.mem k.good.least;exact⟨_,this⟩
  obtain⟨f,w⟩:=this;have:=(u.1 f).mpr w;rw[z]at this;cases this
 obtain⟨H,x⟩:=aFh _ C;have E:=G.FD q t g s ((u.1 H).mp x);have sz:T9 900 (A2 j):=⟨λP I=>l.1 P (yC l o p I),by lia⟩;have y:=xC g;refine⟨E,sz,y,B,?_,λn d=>G.SJ q t g s _ C u.1⟩;refine kH (m9 _) g λv=>?_;have J:=mY sz E (by rw[y];exact B) v;show v∈A2 (A2 j)↔_;rw[J,y];constructor
 .rintro⟨f,w,h⟩;exact mS g w h
 .exactλh=>G.NQ q t g s h
end
end M
namespace DL
open PySem PySem.Spec L2
def SB {K:Params->lb}{P c:cp}{tb:List (Pos×Str)}{a:List cp}(b:P∈a)(d:∀w:cz,PySem.W.codeHdIn (K w.params) c P=true):∀p∈[(P,tb)],p.1∈a/\∃c,∀w:cz,PySem.W.codeHdIn (K w.params) c p.1=true:=λp e=>by rw[aAN.mp e];exact⟨b,c,d⟩
def Got (K:lb)(x:Str)(st:dC):Prop:=∃f a,PySem.W.nsIn K cv x=some (some<|.ref f)/\Fun K x x st f a
def SS (K:lb)(x:Str)(st:dC)(b:cp):Prop:=∃f d a,PySem.W.nsIn K cv x=some (some<|.ref f)/\PySem.W.codeHdIn K a b=true/\FunC K x x st f d a
def fD (K:lb)(mg:cE)(x:Str)(st:dC):Prop:=∃f a,mg x=some (.ref f)/\Fun K x x st f a
def zq (K:lb)(mg:cE)(x:Str)(st:dC)(b:cp):Prop:=∃f d a,mg x=some (.ref f)/\PySem.W.codeHdIn K a b=true/\FunC K x x st f d a
section
variable{kV doc pm L ct:ae}
def ax (a:PySem.W.nsIn K cv x=some (some (.ref f)))(l:K.lookup f=some ⟨d,e,.func (PySem.W.fnOf x x (E8 st) (t5 st) (c9 st) .none kV doc pm g L ct),b⟩)
 (c:PySem.W.codeIn K L x=true) (k:PySem.W.keepIn K (.ref f)=true):Got K x st:=⟨f,_,a,LK l c k⟩
def QL (a:PySem.W.nsIn K cv x=some (some (.ref f)))(l:K.lookup f=some ⟨g,h,.func (PySem.W.fnOf x x (E8 st) (t5 st) (c9 st) .none kV doc pm i L ct),b⟩)
 (c:PySem.W.codeIn K L x=true) (k:PySem.W.keepIn K (.ref f)=true) (e:L=.ref cd) (n:PySem.W.codeHdIn K cd d=true):SS K x st d:=⟨f,_,cd,a,n,VL l e c k⟩
def Got.def (g:Got K x st)(X:K.In h)(G:h.Ns cv mg):fD K mg x st:=let⟨f,d,a,b⟩:=g;⟨f,d,PySem.W.mg_of X G a,b⟩
def SS.def (g:SS K x st d)(X:K.In h)(G:h.Ns cv mg):zq K mg x st d:=let⟨f,e,i,a,b⟩:=g;⟨f,e,i,PySem.W.mg_of X G a,b⟩
def I0 (a:sc.kind=.function:=by rfl)(b:sc.isCoroutine=false:=by rfl)(d:sc.isGenerator=false:=by rfl)(e:N.Nodup:=by decide+kernel)(f:N.take ps.length=ps:=by rfl)(g:∀x∈ps,sc.names.lookup x=some .local\/sc.names.lookup x=some .cell:=by decide+kernel)(h:∀y∈sc.names,y.2≠.free:=by decide+kernel):FnScope N ps sc:=⟨a,b,d,e,f,g,h⟩
variable [Tabs]
def n6 (g:fD K mg x st)(S:FnScope N ps (c9 st))(j:∀{f:cp} {L:ae} {A:cy} {a:List Env} {s:be} {H:Hp} {E:XK},Room k (A.deeper (aEN x (c9 st) s.heap.objs.size f L))->(A.deeper (aEN x (c9 st) s.heap.objs.size f L)).units+64<df->(A.deeper (aEN x (c9 st) s.heap.objs.size f L)).units+130<df->N.Nodup->
  aL (TF P w K mg base N x (c9 st) f L A a s H E) (t5 st) F) (l:∀ds d,ds.length=ps.length->m ds=.ok d->L9 (F (j6 N ds))=.ok d) (e:∀(kV doc pm:ae) (n:Option cp) (L ct:ae) (b:List ae),b.length=ps.length->bindArgs (PySem.W.fnOf x x (E8 st) (t5 st) (c9 st) .none kV doc pm n L ct) ⟨b,[]⟩=pure (ps.zip b):=by
  intro _ _ _ _ _ _ b o;rcases b with _|⟨_,_|⟨_,_|⟨_,_|⟨_,_|⟨_,_|⟨_,_|⟨_,_⟩⟩⟩⟩⟩⟩⟩<;>first|rfl|exact absurd o (by simp)):x5 P w K mg base (k+1) x ps.length m:=by
 obtain⟨f,q,p,i⟩:=g;exact XT i S (i.binds e) p (λL A a s H E h=>j h h.units h.ae7 S.nd) l
end
end DL
namespace DL
open PySem PySem.Spec PySem.Calls PySem.W Builtin Builtin.ObjectAttr Builtin.Getset_descriptor
open PyProof.Rows hiding St
section
variable{prog:cu} {w:cz} {A:cy} {E:A3} {K:Frag} {h:de} {g:Array GenState} {d:Drawn} {t:Nat} {os:OsState} {a C:cp} {o:Obj}
end
end DL
namespace DL
open PySem PySem.Spec L2
open PyProof.Rows hiding St
variable [Tabs]
section
variable{X:Cx} {pos:Pos}
end
section
variable{X:Cx} {pins:N3} {σ:St} {H H':Hp} {s s':be}
end
section
variable{K:lb} {H9 H:Hp} {O0 O:cp->Prop} {σ:St} {ρ:Ev}
end
section
variable{X:Cx} {pos uo np:Pos}
end
section
variable{X:Cx} {pos:Pos}
end
section
variable{X:Cx} {pos:Pos}
end
section
end
section
end
section
abbrev AG (X:Cx)(e:dm)(es:List dm):Prop:=bb (e::es) X.env=(false,d3 e X.env)::bb es X.env
def B1 {i:Int}{j}:PB X (.Constant (.int i) j a) (WB (.int i)):=d6.pb
def yZ {e1:dm}{b:Ev->R D}(c:x5 X.prog X.w X.K X.mg X.base k x 1 m)(e:Room f X.A)(a1:PD X e1 b)(g:k<=f:=by decide)(d:AG X e1 []:=by rfl)(h:Gl X x:=by rfl)(i:(x==ll)=false:=by decide)(j:(dn a (bb [] X.env)).any (·.1)=false:=by rfl):
 PD X (.Call (.Name x p) [e1] [] a) (λρ=>((m8 b M9) ρ).bind m):=tW c (e.mono g) (i9 a1 o7 d) (A5 Z8) h i d j
def dN {e1 e2:dm}{b d:Ev->R D}(c:x5 X.prog X.w X.K X.mg X.base k x 2 m)(f:Room g X.A)(a1:PD X e1 b)(a2:PD X e2 d)(h:k<=g:=by decide)(e:AG X e1 [e2]:=by rfl)(i:AG X e2 []:=by rfl)(j:Gl X x:=by rfl)(l:(x==ll)=false:=by decide)(n:(dn a (bb [e2] X.env)).any (·.1)=false:=by rfl):
 PD X (.Call (.Name x p) [e1,e2] [] a) (λρ=>((m8 b (m8 d M9)) ρ).bind m):=tW c (f.mono h) (i9 a1 (i9 a2 o7 i) e) (A5<|A5 Z8) j l e n
def pc3 {e1 e2 a:dm}{d e f:Ev->R D}(c:x5 X.prog X.w X.K X.mg X.base k x 3 m)(h:Room i X.A)(a1:PD X e1 d)(a2:PD X e2 e)(a3:PD X a f)(j:k<=i:=by decide)(g:AG X e1 [e2,a]:=by rfl)(l:AG X e2 [a]:=by rfl)(n:AG X a []:=by rfl)(o:Gl X x:=by rfl)(q:(x==ll)=false:=by decide)(r:(dn b (bb [e2,a] X.env)).any (·.1)=false:=by rfl):
 PD X (.Call (.Name x p) [e1,e2,a] [] b) (λρ=>((m8 d (m8 e (m8 f M9))) ρ).bind m):=tW c (h.mono j) (i9 a1 (i9 a2 (i9 a3 o7 n) l) g) (A5<|A5<|A5 Z8) o q g r
def pc4 {e1 e2 b a:dm}{e f g h:Ev->R D}(c:x5 X.prog X.w X.K X.mg X.base k x 4 m)(j:Room l X.A)(a1:PD X e1 e)(a2:PD X e2 f)(a3:PD X b g)(n:PD X a h)(o:k<=l:=by decide)(i:AG X e1 [e2,b,a]:=by rfl)(q:AG X e2 [b,a]:=by rfl)(r:AG X b [a]:=by rfl)(s:AG X a []:=by rfl)(t:Gl X x:=by rfl)(u:(x==ll)=false:=by decide)(v:(dn d (bb [e2,b,a] X.env)).any (·.1)=false:=by rfl):
 PD X (.Call (.Name x p) [e1,e2,b,a] [] d) (λρ=>((m8 e (m8 f (m8 g (m8 h M9)))) ρ).bind m):=tW c (j.mono o) (i9 a1 (i9 a2 (i9 a3 (i9 n o7 s) r) q) i) (A5<|A5<|A5<|A5 Z8) t u i v
def AH {e1 e2:dm}{a b:Ev->R D}{j}(a1:PD X e1 a)(a2:PD X e2 b)(d:AG X e1 [e2]:=by rfl)(e:AG X e2 []:=by rfl):PD X (.Tuple [e1,e2] j f) (λρ=>((m8 a (m8 b M9)) ρ).bind cB):=BY (i9 a1 (i9 a2 o7 e) d)
def IW {e1 e2 a:dm}{b d e:Ev->R D}{j}(a1:PD X e1 b)(a2:PD X e2 d)(a3:PD X a e)(f:AG X e1 [e2,a]:=by rfl)(g:AG X e2 [a]:=by rfl)(h:AG X a []:=by rfl):PD X (.Tuple [e1,e2,a] j i) (λρ=>((m8 b (m8 d (m8 e M9))) ρ).bind cB):=BY (i9 a1 (i9 a2 (i9 a3 o7 h) g) f)
def GV {id:String}{g:List D->R D}{e:dm}{f:Ev->R D}(h:bZ X (.builtin id) g)(a:PB X e f)(i:Gl X x:=by rfl)(j:X.mg x=none:=by assumption)(k:dq x=some (.builtin id):=by decide+kernel)(l:x≠ "__name__":=by decide)(m:(x==ll)=false:=by decide)(d:AG X e []:=by rfl)(n:(dn b (bb [] X.env)).any (·.1)=false:=by rfl):
 PD X (.Call (.Name x p) [e] [] b) (λρ=>(m8 f M9 ρ).bind g):=gZ h (B8 a J3 d) i j k l m d n
def RL {i:List Str}{a:kb}{l:Pos}{e:dm}{fe:Ev->R D}(h:∀b f j k C,PD (GE X b j k ([x]++i) a (bY X a C) C f) e fe)(m:([x]++i).Nodup:=by decide+kernel)(n:Loc (relabel a X.env) x:=by first|exact aCn rfl|exact aBA rfl)(o:(a.names.lookup x==some .cell)=true\/(relabel a X.env).names.lookup x=some .local:=by first|exact .inl rfl|exact .inr rfl):
  ∀(b:N3) (f:List cp) (g:Cx),(∃p q C,g=GE X b p q ([x]++i) a (bY X a C) C f)->JR g (.Name x l) (λd ρ=>.ok (ρ.set 0 (.v d)))/\SK g [] (λ_=>.ok true)/\PD g e fe:=by
 rintro b f r ⟨j,k,C,rfl⟩;exact⟨k8 0 m rfl n o,RQ,h b f j k C⟩
def hxt {j:List Str}{a:kb}{l:Pos}{f c:dm}{fe:Ev->R D}{ft:Ev->R Bool}(h:∀b e g i C,FJ (GE X b g i ([x]++j) a (bY X a C) C e) c ft/\PD (GE X b g i ([x]++j) a (bY X a C) C e) f fe)(m:([x]++j).Nodup:=by decide+kernel)(n:Loc (relabel a X.env) x:=by first|exact aCn rfl|exact aBA rfl)(o:(a.names.lookup x==some .cell)=true\/(relabel a X.env).names.lookup x=some .local:=by first|exact .inl rfl|exact .inr rfl):
  ∀(b:N3) (e:List cp) (k:Cx),(∃p q C,k=GE X b p q ([x]++j) a (bY X a C) C e)->JR k (.Name x l) (λd ρ=>.ok (ρ.set 0 (.v d)))/\SK k [c] ft/\PD k f fe:=by
 rintro b e r ⟨g,i,C,rfl⟩;exact⟨k8 0 m rfl n o,DR (h b e g i C).1,(h b e g i C).2⟩
end
end DL
namespace DL
open PySem L2
variable [Tabs]
end DL
namespace M
open PySem L2 DL
variable [Tabs]
def lY (h:A7 d<=40):AF d d=.ok (.bl false):=by unfold AF;rw[kn ⟨h,h⟩,M1];rfl
def zW (k:Int):Int:=6*k*k+5*k+8
def bF:List D->R D
 |[.lst Y,.int k]=>if 0<=k/\k<=1000 then .ok (tO zW Y k)else .bad
 |_=>.bad
def cJ (Y:List D)(k:Int):Int:=match tO zW Y k with
 |.int i=>i
 |_=>0
def NN (d:M4 1048576 Y)(k:Int)(h0:0<=k)(b:k<=100):bF [.lst Y,.int k]=.ok (.int (cJ Y k))/\bits (cJ Y k)<=2000000:=by
 obtain⟨c,e,a⟩:=JC d zW k;have f:cJ Y k=c:=by unfold cJ;rw[e]
 rw[f];refine⟨(kn ⟨h0,by lia⟩).trans (la R.ok e),?_⟩;rcases a with a|rfl
 .exact w5 a
 .unfold zW;have g:0<=k*k:=aBh h0 h0;have h:k*k<=100*100:=Int.mul_le_mul b b h0 (by decide);rw[aFy];exact l6 (L0 (n:=30) (by lia) (by lia)) (by decide)
def dw (c w:Int):G.V:=⟨c.fmod w-w.fdiv 2,(c.fdiv w).fmod w-w.fdiv 2,(c.fdiv<|w*w).fmod w-w.fdiv 2⟩
def tmA (c:Int)(at_ j:Nat):Int:=(c.fdiv<|5+7*(at_:Int)+(j:Int)).fmod 5-2
def XA (P:G.V)(t:Int)(w:G.V):G.V:=⟨P.x+t*w.x,P.y+t*w.y,P.z+t*w.z⟩
def ptA (c:Int)(b:G.V)(ws:List G.V)(at_:Nat):G.V:=match ws with
 |[]=>b
 |[u]=>XA b (tmA c at_ 0) u
 |u::v::_=>XA (XA b (tmA c at_ 0) u) (tmA c at_ 1) v
def qj (c:Int)(b:G.V)(ws:List G.V)(n:Nat):List G.V:=(aBv n).map (ptA c b ws)
structure Drawn (j:List G.V):Prop where
 ne:j≠[]
 len:j.length<=40
 sz:∀P∈j,Sz 100 P
 flat:¬G.j5 j
open Classical in
def cnd (p:Prop) (d:D):R D:=if p then .ok d else .bad
def bj {p:Prop}{d r:D}(h:cnd p d=.ok r):p/\d=r:=by
 unfold cnd at h;split at h
 .rename_i z;cases h;exact⟨z,rfl⟩
 .cases h
def l3 (k:Int->Int->Int->List D->R D):List D->R D:=JS λY e=>uK (λa=>uK λb=>uK λc=>qG (k a b c e)) Y
def WF (t:Int):Int:=(t*40009+6007).fmod 2147483647
def mD (s k:Int):Int:=(s*s+5003*k+11).fmod 2147483647
def wz (s:Int):Int:=s.fmod 2000000011-1000000000
def WG (t:Int):G.V:=⟨wz (mD (WF t) 0),wz (mD (mD (WF t) 0) 1),wz (mD (mD (mD (WF t) 0) 1) 2)⟩
def bW (way:Int):Int:=if way=0 then 3 else if way=1 then 5 else if way=2 then 9 else 2000000001
def VS (t way:Int):G.V:=if way=4 then WG t else dw t (bW way)
def fj (t way:Int):Sz 40 (VS t way):=by
 unfold VS;split
 .have a:∀s,bits (wz s)<=40:=λs=>bits_sub (bits_fmod (by decide) (show bits 2000000011<=39 by decide)) (show bits 1000000000<=39 by decide);exact⟨a _,a _,a _⟩
 .have w:bW way≠0/\bits (bW way)<=39:=by
   unfold bW
   repeat' split
   all_goals decide
  have d:∀c:Int,bits (c.fmod (bW way)-(bW way).fdiv 2)<=40:=λc=>bits_sub (bits_fmod w.1 w.2) (bits_fdiv w.2);exact⟨d _,d _,d _⟩
open Classical in
def Z5:List D->R D
 |[.int t,.int way]=>if bits t<=3000000/\0<=way/\way<=4 then .ok (vd (VS t way))else .bad
 |_=>.bad
def GX {t way:Int}(h:bits t<=3000000)(h0:0<=way)(a:way<=4):Z5 [.int t,.int way]=.ok (vd (VS t way)):=kn ⟨h,h0,a⟩
def OQ (l:List Int):List D:=l.map D.int
def eZ:List D->Option (List Int)
 |[]=>some []
 |.int i::r=>match eZ r with
  |some l=>some (i::l)
  |none=>none
 |_=>none
@[simp]theorem sZ:∀l:List Int,eZ (OQ l)=some l
 |[]=>rfl
 |i::l=>by have:=sZ l;unfold OQ at this;simp[OQ,eZ,this]
theorem qC:∀{ds:List D} {l:List Int},eZ ds=some l->ds=OQ l
 |[],l,h=>by simp[eZ]at h;subst h;rfl
 |.int i::r,l,h=>by
  simp only[eZ]at h;split at h
  .rename_i a e;injection h with h;subst h;rw[qC e];rfl
  .cases h
 |.tup _::_,_,h=>by simp[eZ]at h
 |.lst _::_,_,h=>by simp[eZ]at h
 |.bl _::_,_,h=>by simp[eZ]at h
def yV (l:List Int):G.Sl:=⟨l.getD 0 0,l.getD 1 0,l.getD 2 0,⟨l.getD 3 0,l.getD 4 0,l.getD 5 0⟩,decide (l.getD 6 0=1)⟩
def bP (l:List Int):Prop:=l.length=7/\∀i∈l,bits i<=100
open Classical in
def J9:List D->R D
 |[p,.lst Y]=>match vV p,eZ Y with
  |some P,some l=>if bP l/\Sz 500 P then .ok (vd ((yV l).put P))else .bad
  |_,_=>.bad
 |_=>.bad
def xT {l:List Int}{P:G.V}(h:bP l)(a:Sz 500 P):J9 [vd P,.lst (OQ l)]=.ok (vd ((yV l).put P)):=by simp only[J9,vL,sZ];exact kn ⟨h,a⟩
def xX (c:Int):Int:=(c.fdiv 1029*271828182845904523536).fmod 200000000000000000001-100000000000000000000
def s7 (c k:Int):Int:=(c.fdiv k).fmod 7-3
def WA (c:Int):List Int:=(if c.fmod 3=2 then[s7 c 3*7654321,s7 c 21*7654321,s7 c 147*7654321]else[s7 c 3,s7 c 21,s7 c 147])++[xX c,0-(xX c).fdiv 7,(c.fdiv 1029).fmod 50,(c.fdiv 9).fmod 2]
def NB (c:Int):bP (WA c):=by
 have s:∀k,bits (s7 c k)<=4:=λk=>bits_sub (bits_fmod (by decide) (show bits 7<=3 by decide)) (show bits 3<=3 by decide);have m:∀k,bits (s7 c k*7654321)<=100:=λk=>l6 (bits_mul (s k) (show bits 7654321<=30 by decide)) (by decide);have a:∀k,bits (s7 c k)<=100:=λk=>l6 (s k) (by decide);have f:bits (xX c)<=99:=bits_sub (n:=98) (bits_fmod (by decide) (by decide)) (by decide);have r:∀x∈[xX c,0-(xX c).fdiv 7,(c.fdiv 1029).fmod 50,(c.fdiv 9).fmod 2],bits x<=100:=by simp only[aCg];exact⟨l6 f (by decide),bits_sub (show bits 0<=99 by decide) (bits_fdiv f),bits_fmod (by decide) (by decide),bits_fmod (by decide) (by decide),λ_ h=>by cases h⟩
 unfold WA;split
 .exact⟨rfl,aCg.mpr ⟨m _,aCg.mpr ⟨m _,aCg.mpr ⟨m _,r⟩⟩⟩⟩
 .exact⟨rfl,aCg.mpr ⟨a _,aCg.mpr ⟨a _,aCg.mpr ⟨a _,r⟩⟩⟩⟩
open Classical in
def T6:List D->R D
 |[.int c]=>if bits c<=3000000 then .ok (.lst (OQ (WA c)))else .bad
 |_=>.bad
def AO {c:Int}(h:bits c<=3000000):T6 [.int c]=.ok (.lst (OQ (WA c))):=kn h
def UG {j:List G.V}{n:G.V}{d:Int}(h:T9 900 j)(a:G.IsFace (c8 j) n d):Sz 2003 n:=by obtain⟨A,b,B,f,C,g,_,e⟩:=G.iV a;have z:∀X∈c8 j,Sz 1000 X:=λX i=>(h.1 X (t9.mp i)).mono;have:=pC (z A b) (z B f) (z C g);rw[e]at this;exact this
def N4 {j:List G.V}(h:T9 900 j)(i:G.j5 j)(b:(c8 j).length<=23):(∀f,f∈j0 (c8 j)↔G.IsFace (c8 j) f.1 f.2)/\j0 (c8 j)≠[]/\(j0 (c8 j)).length<=12167:=by obtain⟨m,r,e,L⟩:=W4 h i (by lia);have g:=b;rw[e]at g;have a:=F4 L g;rw[<-e]at a L;have k:=G0 (K1 a.2);have d:=G.IM k λf l=>(a.1 f).mp l;have n:(c8 j).length*((c8 j).length*(c8 j).length)<=23*(23*23):=aFl b (aFl b b);refine⟨a.1,λz=>?_,aAp d n⟩;have q:=G.V7 L.good.solid L.good.ord L.good.mem L.good.least;have:=(a.1 (_,_)).mpr q;rw[z]at this;cases this
def intD:D->Int
 |.int i=>i
 |_=>0
def sF:Nat->List D->List D
 |_,[]=>[]
 |k,d::a=>.tup [.int (k:Int),d]::sF (k+1) a
theorem tR:∀(Y:List D) (k i:Nat),(sF k Y)[i]?=Y[i]?.map λd=>D.tup [.int ((k+i:Nat):Int),d]
 |[],_,_=>rfl
 |d::a,k,0=>rfl
 |d::a,k,i+1=>by rw[sF,aCA,aCA,tR a (k+1) i,Nat.add_right_comm];rfl
def QT (Y:List D):EC Y=sF 0 Y:=aEf λi=>by rw[jF,tR,aEm]
def wO (m:Nat):Nat->List D->List Int->List Int
 |_,[],a=>a
 |k,d::b,a=>wO m (k+1) b (a.set (k%m) (a.getD (k%m) 0+intD d))
def wT (m:Nat):List Int:=(aBv m).map λ(k:Nat)=>5*(k:Int)*k+3*k
def w6 (Y:List D)(most:Int):Nat:=(4+(cJ Y 0).fmod (most-3)).toNat
def zJ (Y:List D)(most:Int):List Int:=wO (w6 Y most) 0 ((Y.take 63).drop 2) (wT<|w6 Y most)
def fM (Y:List D)(most:Int):List G.V:=(zJ Y most).map λt=>VS t ((cJ Y 1).fmod 5)
theorem DT (m:Nat)(e:0<m):∀(ds:List D) (k:Nat) (ts:List Int),M4 1048576 ds->ts.length=m->(∀t∈ts,bits t<=1100000+k)->(wO m k ds ts).length=m/\∀t∈wO m k ds ts,bits t<=1100000+k+ds.length
 |[],k,ts,_,h,b=>⟨h,b⟩
 |d::ds,k,ts,f,h,b=>by
  have:=DT m e ds (k+1) (ts.set (k%m)<|ts.getD (k%m) 0+intD d) (λx j=>f x (.tail _ j)) (by simpa using h) (λt a=>by
   rcases List.mem_or_eq_of_mem_set a with a|rfl
   .exact l6 (b t a) (by lia)
   .have g:k%m<ts.length:=by rw[h];exact aEe _ e
    have l:bits (ts.getD (k%m) 0)<=1100000+k:=by rw[aAo,aAj g];exact b _ (aCx g)
    obtain⟨i,rfl,n⟩:=f d (.head _);exact bits_add l (l6 n (by lia)))
  refine⟨this.1,λt a=>l6 (this.2 t a) ?_⟩;simp only[aAt];lia
def gB (Y:List D){most:Int}(h0:4<=most):4<=w6 Y most/\(w6 Y most:Int)<=most/\(w6 Y most:Int)=4+(cJ Y 0).fmod (most-3):=by have:=nM (a:=cJ Y 0) (b:=most-3) (by lia);unfold w6;lia
def FB (m:Nat)(h:m<=20):(wT m).length=m/\∀t∈wT m,bits t<=1100000:=by
 unfold wT;refine⟨by simp,λt a=>?_⟩;obtain⟨k,b,rfl⟩:=aAk.mp a;have d:k<m:=by simpa using b
 have e:(k:Int)*k<=20*20:=Int.mul_le_mul (by lia) (by lia) (by lia) (by decide);have f:0<=(k:Int)*k:=aBh (by lia) (by lia);rw[aFy];exact l6 (L0 (n:=30) (by lia) (by lia)) (by decide)
def LW {Y:List D}{most:Int}(b:M4 1048576 Y)(h0:4<=most)(f:most<=20):(zJ Y most).length=w6 Y most/\∀t∈zJ Y most,bits t<=1100061:=by
 have g:=gB Y h0;have a:=FB (w6 Y most) (by lia);have:=DT (w6 Y most) (by lia) ((Y.take 63).drop 2) 0 (wT<|w6 Y most) (λx d=>b x (aEw<|aDK d)) a.1 a.2;refine⟨this.1,λt e=>l6 (this.2 t e) ?_⟩;have:((Y.take 63).drop 2).length<=61:=by simp;lia
 lia
open Classical in
def dR:List D->R D
 |[.lst Y,.int a]=>if M4 1048576 Y/\Y.length<=63/\4<=a/\a<=20 then .ok (.lst ((fM Y a).map vd))else .bad
 |_=>.bad
def AJ {Y:List D}{most:Int}(a:M4 1048576 Y)(b:Y.length<=63)(h0:4<=most)(d:most<=20):dR [.lst Y,.int most]=.ok (.lst ((fM Y most).map vd)):=kn ⟨a,b,h0,d⟩
def OV {Y:List D}{most:Int}(b:M4 1048576 Y)(h0:4<=most)(d:most<=20):(∀p∈fM Y most,Sz 40 p)/\4<=(fM Y most).length/\((fM Y most).length:Int)<=most:=by have t:=LW b h0 d;have m:=gB Y h0;unfold fM;refine⟨λp e=>?_,by rw[aAi,t.1];lia,by rw[aAi,t.1];lia⟩;obtain⟨a,_,rfl⟩:=aAk.mp e;exact fj ..
def cx (Y:List D):LI (.lst Y) (some 2) (some 63)=.ok (.lst ((Y.take 63).drop 2)):=by
 show R.ok (D.lst<|cutD Y (some 2)<|some 63)=_;rw[List.drop_take];show R.ok (D.lst<|List.take (min 63 Y.length-min 2 Y.length)<|List.drop (min 2 Y.length) Y)=_;by_cases h:Y.length<=2
 .rw[aFQ (by lia),aFQ (by lia)];simp
 .rw[aFW (by lia:2<=Y.length)];by_cases a:Y.length<=63
  .rw[aDp (by simp;lia),aDp (by simp;lia)]
  .rw[aFW (by lia)]
open Classical in
def eI (j:List G.V):List G.V:=if G.j5 j then j else match j with
 |[]=>[]
 |P::r=>(P::r)++[⟨P.x+1,P.y,P.z⟩,⟨P.x,P.y+1,P.z⟩,⟨P.x,P.y,P.z+1⟩]
open Classical in
def cW:List D->R D
 |[.lst a]=>match F6 a with
  |some j=>if j≠[]/\(∀p∈j,Sz 300 p)/\j.length<=1000 then .ok (.lst ((eI j).map vd))else .bad
  |_=>.bad
 |_=>.bad
theorem nB {α:Type}{G:D->Ev->R Ev}{F:Ev->R Out}{x:D}{Iv:Ev->Prop}(rep:α->D)(p:α->Prop)(i:Ev->Prop)(n:∀ρ,i ρ->Iv ρ):∀(l:List α) (ρ:Ev),i ρ->(∀a∈l,∀ρ,i ρ->(p a/\K8 G F (rep a) ρ=.ok (.rt x))\/(¬p a/\∃ρ2,K8 G F (rep a) ρ=.ok (.nx ρ2)/\i ρ2))->((∃a∈l,p a)/\M2 G F (l.map rep) ρ=.ok (.rt x))\/(¬(∃a∈l,p a)/\∃ρ2,M2 G F (l.map rep) ρ=.ok (.nx ρ2)/\Iv ρ2)
 |[],ρ,h,_=>.inr ⟨by rintro⟨a,q,_⟩;exact(by cases q),ρ,rfl,n ρ h⟩
 |a::l,ρ,h,r=>by
  have s:∀{o},K8 G F (rep a) ρ=.ok o->∃d,G (rep a) ρ=.ok d/\F d=.ok o:=λ{o} e=>by
   unfold K8 at e;cases f:G (rep a) ρ with
   |ok d=>rw[f]at e;exact⟨d,rfl,e⟩
   |ex z=>rw[f]at e;cases e
   |bad=>rw[f]at e;cases e
  rcases r a (.head _) ρ h with⟨j,e⟩|⟨j,ρ2,e,u⟩
  .obtain⟨d,f,k⟩:=s e;exact .inl ⟨⟨a,.head _,j⟩,gH f k⟩
  .obtain⟨d,f,k⟩:=s e;rw[aAv,M0 f k];rcases nB rep p i n l ρ2 u (λb g=>r b (.tail _ g))with⟨⟨b,g,q⟩,m⟩|⟨q,m⟩
   .exact .inl ⟨⟨b,.tail _ g,q⟩,m⟩
   .exact .inr ⟨by
     rintro⟨b,g,t⟩;cases g with
     |head=>exact j t
     |tail _ g=>exact q ⟨b,g,t⟩,m⟩
def VO {α:Type}{G:D->Ev->R Ev}{F g:Ev->R Out}{x d:D}{l:List α}{ρ:Ev}(rep:α->D)(p:α->Prop)(b:Ev->Prop)(h:b ρ)(i:∀a∈l,∀ρ,b ρ->(p a/\K8 G F (rep a) ρ=.ok (.rt x))\/(¬p a/\∃ρ2,K8 G F (rep a) ρ=.ok (.nx ρ2)/\b ρ2))(f:(∃a∈l,p a)->x=d)(no:¬(∃a∈l,p a)->∀ρ',b ρ'->L9 (g ρ')=.ok d):L9 (B5 (M2 G F (l.map rep) ρ) g)=.ok d:=by
 rcases nB (Iv:=b) rep p b (λ_ h=>h) l ρ h i with⟨q,e⟩|⟨q,ρ2,e,j⟩
 .rw[e,<-f q];rfl
 .rw[e];exact no q ρ2 j
def zK (j:List G.V):w8 (j.map vd)<=5:=by
 induction j with
 |nil=>simp[w8]
 |cons v l a=>rw[aAv,w8];simp[A7,w8]at a⊢;lia
def VH (j:List G.V):AF (.lst (j.map vd)) (.lst [])=.ok (.bl (!j.isEmpty)):=by have:=zK j;unfold AF;rw[kn ⟨by rw[A7];lia,by simp[A7,w8]⟩];cases j<;>simp[t7,V9]
def XJ (W:List G.V)(u v:G.V):Prop:=G.cr u v≠0/\∃w∈W,G.b9 (G.cr u v) w≠0
def WY (W:List G.V)(u:G.V):Prop:=∃v∈W,XJ W u v
def UJ {P:G.V}{ps:List G.V}(h:∃u∈(P::ps).map (· -P),WY ((P::ps).map (· -P)) u):eI (P::ps)=P::ps:=by unfold eI;rw[kn];obtain⟨u,d,v,e,c,w,f,q⟩:=h;obtain⟨u,g,rfl⟩:=aAk.mp d;obtain⟨v,a,rfl⟩:=aAk.mp e;obtain⟨w,b,rfl⟩:=aAk.mp f;exact(G.pW<|.head _).mpr ⟨u,g,v,a,c,w,b,q⟩
def XV {P:G.V}{ps:List G.V}(h:¬∃u∈(P::ps).map (· -P),WY ((P::ps).map (· -P)) u):eI (P::ps)=(P::ps)++[⟨P.x+1,P.y,P.z⟩,⟨P.x,P.y+1,P.z⟩,⟨P.x,P.y,P.z+1⟩]:=by unfold eI;rw[ku];intro s;obtain⟨u,b,v,d,c,w,e,q⟩:=(G.pW<|aAU (a:=P)).mp s;exact h ⟨_,aBo b,_,aBo d,c,_,aBo e,q⟩
def HG {j:List G.V}(h:j≠[]):G.j5 (eI j):=by
 match j,h with
 |P::r,_=>
  unfold eI;split
  .assumption
  .exact G.yU P (.head _)
def IL {j:List G.V}(h:j≠[])(a:∀p∈j,Sz 300 p)(b:j.length<=1000):cW [.lst (j.map vd)]=.ok (.lst ((eI j).map vd)):=by simp only[cW,u3];exact kn ⟨h,a,b⟩
def PK {j:List G.V}(d:∀p∈j,Sz 40 p):(∀p∈eI j,Sz 41 p)/\(eI j).length<=j.length+3:=by
 unfold eI;split
 .exact⟨λp a=>(d p a).mono,by lia⟩
 .match j,d with
  |[],d=>exact⟨λp a=>(nomatch a),aAX _⟩
  |P::r,d=>
   refine⟨λp a=>?_,by simp⟩;have b:=d P (.head _);have m:∀{i:Int},bits i<=40->bits i<=41:=λh=>l6 h (by lia);have e:∀{i:Int},bits i<=40->bits (i+1)<=41:=λh=>bits_add h (show bits 1<=40 by decide);rcases aAT.mp a with a|a
   .exact(d p a).mono
   .simp only[aAd,aAJ,or_false]at a;rcases a with rfl|rfl|rfl
    .exact⟨e b.1,m b.2.1,m b.2.2⟩
    .exact⟨m b.1,e b.2.1,m b.2.2⟩
    .exact⟨m b.1,m b.2.1,e b.2.2⟩
end M
namespace DL
open PySem PySem.Spec L2
open PyProof.Rows hiding St st
variable [Tabs]
section
end
end DL
namespace SD
open PySem
def IsD (h:de)(d:cp)(es:Array gn)(ep:Nat):Prop:=∃o,h.get? d=some o/\o.ExactDict/\o.data=.dict es ep
def IsD.type {s:be}(x:IsD s.heap d es ep):s.TypeIs (.ref d) "dict":=let⟨o,a,r,_⟩:=x;⟨o,a,r.1⟩
section
variable{prog:cu} {w:cz} {A:cy} {E:A3} {s:be} {d it:cp} {es:Array gn} {ep i:Nat}
def iter_dk {Q:A3}(g:(d==h9)=false)(b:IsD s.heap d es ep)
  (h:Q (.ref s.heap.objs.size) {s with heap:=s.heap.push {cls:=.type "dict_keyiterator",data:=.fields #[.ref d,.int 0 0,.int es.size 0,.int ep 0]}}):a9 (cq prog w) A (pyIter (.ref d)) Q E s:=by
 have a:=b.type;obtain⟨o,e,j,f⟩:=b;refine aEh a F.slot_dict_iter (aBe F.slot_dict_iter a F.entry_dict_iter (aAa ?_)<|F.args_dict_iter_1 _);unfold Builtin.Dict.dictSlotNone;refine aAa (wpAny_notOrdered_dict a<|aAb (?_:a9 _ _ (aGb d>>=_) _ _ s));unfold aGb;rw[ku (by rw[g];decide)];refine aAa (aAb<|aAa<|aFw e f<|aAa<|wpAny_dictEpoch e f<|aAa<|aBb<|aAb ⟨_,rfl, "dict_keyiterator",_,⟨_,aAn _ rfl,rfl⟩,aDw.lookup,?_⟩);simpa[eh]using h
def next_dk {Q:Option ae->be->Prop}(q:A.handled=none)(h:s.heap.IsKeyIter it d i es.size ep)(r:IsD s.heap d es ep)
  (t:∀(f:i<es.size) h',h'.IsKeyIter it d (i+1) es.size ep->Heap.SameBut it s.heap h'->Q (some es[i].key) {s with heap:=h'}) (u:es.size<=i->∀h',Heap.ExtBut it s.heap h'->Q none {s with heap:=h'}):a9 (cq prog w) A (fo (.ref it)) Q E s:=by
 have g:=h.typeIs;obtain⟨o,p,v,j⟩:=h;obtain⟨x,k,y,l⟩:=r;have n:Builtin.Dict_items.ownsTuple "dict_keyiterator"=false:=by decide
 unfold fo;refine aAa (aDY<|aBP (name:=aCD "__next__") g aDw<|aBe aDw g F.entry_dict_keyiterator_next (aAa<|aAb<|aAa<|aAa ?_)<|F.args_dict_keyiterator_next_1 _);refine aAa (aDk g<|aAb<|aAa<|aGq p j ?_);simp only[n,aAq,if_false];show a9 _ _ (if(aDC d==Value.none)=true then _ else _) _ _ s;rw[ku (by intro z;cases z)];refine aAa (aAb<|aAa<|aFw k l ?_);rw[ku (by simp)];refine aAa (aAb<|aAa<|wpAny_dictEpoch k l ?_);rw[ku (by simp)];refine aAb ?_;by_cases f:i<es.size
 .simp only[show¬((i:Int)<0)by lia,if_false,aBH,aAD f];refine aAa ?_;refine aAa (aDk g<|aAb<|aAa<|wpAny_isOneOf_keyiter g ?_);show a9 _ _ (setField (.ref it) 1 (eh<|(i:Int)+1)>>=_) _ _ s;refine aAa (aGr p j (by simp) ?_);have e:(s.heap.update it (Obj.mapFields (·.setIfInBounds 1 (eh<|(i:Int)+1)))).IsKeyIter it d (i+1) es.size ep:=⟨_,aAV _ p (Obj.isFreed_of_fields<|Obj.data_mapFields j _),(Obj.cls_mapFields ..).trans v,by rw[Obj.data_mapFields j];simp[eh]⟩;refine aAa (aAL (aAa (wpAny_isOneOf_keyiter (s:={s with heap:=s.heap.update it (Obj.mapFields (·.setIfInBounds 1 (eh<|(i:Int)+1)))}) e.typeIs (?_:a9 _ _ (pure es[i].key) _ _ _))));exact aAb (aAb ⟨_,rfl,aAb (t f _ e<|aEK ..)⟩)
 .have f:es.size<=i:=by lia
  simp only[show¬((i:Int)<0)by lia,if_false,aBH,aCk f];refine aAa ?_;refine aAa (aDk g<|aAb (?_:a9 _ _ (setField (.ref it) 0 .none>>=_) _ _ s));refine aAa (aGr p j (by simp) (?_:a9 _ _ (newExc (.type "StopIteration") []>>=_) _ _ _));refine aAa ?_;simp only[newExc,newTuple];refine aAa (aBb (aAa (m:=firstArgMember _ _) (aFD (a:=Value.none) (by first|rfl|(simp only[firstArgMember];rfl)) (aBb ?_ (by size_fits)))) (by size_fits));simp only[raiseNew];refine aAa (wpAny_handled ?_);rw[show A.in1.handled=none from q];refine aAa (aAb<|wpAny_throw ?_);refine aAa (aDj (T:= "StopIteration") (b:=true) ⟨_,aAn _ rfl,rfl⟩ aGs<|aAb<|u f _<|((aEK ..).extBut.push _).push _)
end
section
variable{prog:cu} {w:cz} {A:cy} {E:A3} {s:be} {d:cp} {es:Array gn} {ep:Nat}
end
end SD
namespace DL
open PySem PySem.Spec L2
open PyProof.Rows hiding St
section
def TC (d:D):Bool:=P9 d&&(flat d).length==3
def rB:D->Bool
 |.tup [p,q]=>TC p&&TC q
 |_=>false
def W0:D->List Int
 |.tup [p,q]=>flat p++flat q
 |_=>[]
def mL (h:TC d=true):P9 d=true/\(flat d).length=3:=by unfold TC at h;rw[aAK,beq_iff_eq]at h;exact h
def iX (h:rB d=true):∃p q,d=.tup [p,q]/\P9 p=true/\P9 q=true/\(flat p).length=3/\(flat q).length=3:=by
 unfold rB at h;split at h
 .rw[aAK]at h;exact⟨_,_,rfl,(mL h.1).1,(mL h.2).1,(mL h.1).2,(mL h.2).2⟩
 .cases h
def vF (h:rB d=true):lA d=true:=by obtain⟨p,q,rfl,a,b,_⟩:=iX h;simp[lA,bX,A0 a,A0 b]
def yR (h:P9 d=true):A7 d<=3:=by
 rw[(aR h).2,A7];have:∀l:List Int,w8 (l.map D.int)<=2:=λl=>by
  induction l with
  |nil=>simp[w8]
  |cons i l a=>rw[aAv,w8];simp[A7];lia
 have:=this (flat d)
 lia
def VA (h:rB d=true):A7 d<8:=by
 obtain⟨p,q,rfl,a,b,_⟩:=iX h;have:=yR a;have:=yR b;simp only[A7,w8]
 lia
theorem FM {b e:List Int}:∀{a c:List Int},a.length=c.length->HT.lexLt (a++b) (c++e)=if a=c then HT.lexLt b e else HT.lexLt a c
 |[],[],_=>by simp
 |x::a,y::c,h=>by
  have g:=FM (b:=b) (e:=e) (a:=a) (c:=c) (by simpa using h);rw[aBr,aBr,HT.lexLt_cons,HT.lexLt_cons,g];by_cases d:x=y
  .subst d;by_cases f:a=c
   .simp[f]
   .simp[f]
  .simp[d]
variable [Tabs]
def UB (h:de) (v:ae):List Int:=open Classical in if p:∃d,rB d=true/\HV h v d then W0 p.choose else[]
def vZ (b:rB d=true)(a:HV h v d):UB h v=W0 d:=by unfold UB;have q:∃d,rB d=true/\HV h v d:=⟨d,b,a⟩;rw[dif_pos q,HV.inj q.choose_spec.2 a]
def vG (a:rB d=true)(e:HV h v d):∃b u w p q,v=.ref b/\IsTup h b #[u,w]/\d=.tup [p,q]/\HV h u p/\HV h w q/\P9 p=true/\P9 q=true/\(flat p).length=3:=by
 obtain⟨p,q,rfl,f,g,i,_⟩:=iX a;cases e with
 |@tup b B _ t r=>
  obtain⟨l⟩:=B;have r:HVs h l [p,q]:=r;cases r with
  |cons j r=>
   cases r with
   |cons k r=>cases r;exact⟨_,_,_,_,_,rfl,t,rfl,j,k,f,g,i⟩
def XI {prog:cu}{w:cz}{A:cy}{E:A3}{s:be}{x y:ae}{d e:D}{Q:wJ}(hA:A.units+8<df)(H:rB d=true)(I:rB e=true)(J:HV s.heap x d)(L:HV s.heap y e)(q:Q (HT.lexLt (W0 d) (W0 e)) s):a9 (cq prog w) A (keyLt' (TS.tupK false) x y) Q E s:=by
 obtain⟨b,u,w1,p,a,rfl,N,rfl,v1,B,i,j,O⟩:=vG H J;obtain⟨b',u',T,r,f,rfl,k,rfl,g,h,l,C,U⟩:=vG I L;obtain⟨c1,i1,rfl,Y,m⟩:=C5 i v1;obtain⟨c2,i2,rfl,s2,n⟩:=C5 l g;obtain⟨c3,i3,rfl,s3,o⟩:=C5 j B;obtain⟨c4,i4,rfl,s4,t⟩:=C5 C h;have d1:=mG i;have d2:=mG j;refine TS.lt_two (e1:=t7 p r) (e2:=t7 a f) (b1:=HT.lexLt (flat p) (flat r)) (b2:=HT.lexLt (flat a) (flat f)) N k rfl (rM v1 g (by lia)) (λ_=>TS.oneLt_tup Y s2 m n (by lia)) (λ_=>rM B h (by lia)) (λ_ _=>TS.oneLt_tup s3 s4 o t (by lia)) ?_;have v:(bif t7 p r then(bif t7 a f then false else HT.lexLt (flat a) (flat f))else HT.lexLt (flat p) (flat r))=HT.lexLt (flat p++flat a) (flat r++flat f):=by
  rw[FM (by rw[O,U])];cases z:t7 p r with
  |true=>
   have ep:=W9 (A0 i) (A0 l) z;subst ep;rw[kn rfl];cases z2:t7 a f with
   |true=>have eq:=W9 (A0 j) (A0 C) z2;subst eq;exact(TS.lex_irrefl _).symm
   |false=>rfl
  |false=>
   rw[ku λc=>?_]
   .rfl
   .have:=cT i l c;subst this;rw[M1]at z;cases z
 rw[v];exact q
def NF {prog:cu}{w:cz}{A:cy}{E:A3}{s:be}{vs:List ae}{Q:SortKind->be->Prop}(h:∀x∈vs,∃d,rB d=true/\HV s.heap x d)(i:2<=vs.length)(q:Q (TS.tupK false) s):a9 (cq prog w) A (keyKind' vs.toArray) Q E s:=by
 have j:∀x∈vs,∃p,∃b B,x=.ref b/\IsTup s.heap b B/\B[0]?=some p/\s.TypeIs p "tuple":=λx a=>by obtain⟨d,k,l⟩:=h x a;obtain⟨b,u,v,p,y,rfl,m,rfl,v1,C,n,_⟩:=vG k l;obtain⟨H,I,rfl,⟨o,r,f,_⟩,t⟩:=C5 n v1;exact⟨_,b,_,rfl,m,rfl,⟨o,r,f⟩⟩
 obtain⟨e,g⟩:∃e:ae->ae,∀x∈vs,∃b B,x=.ref b/\IsTup s.heap b B/\B[0]?=some (e x)/\s.TypeIs (e x) "tuple":=by refine⟨λx=>open Classical in if z:x∈vs then(j x z).choose else .none,λx a=>?_⟩;dsimp only;rw[dif_pos a];exact(j x a).choose_spec
 exact TS.kind_tuples (T:= "tuple") e g (λz=>by rw[z]at i;simp at i) (by decide) q
def QP (h:rB d=true)(h':rB e=true)(k:W0 d=W0 e):d=e:=by obtain⟨p,q,rfl,f,g,i,s⟩:=iX h;obtain⟨j,l,rfl,m,n,o,r⟩:=iX h';have k:flat p++flat q=flat j++flat l:=k;obtain⟨a,b⟩:=List.append_inj k (by rw[i,o]);rw[cT f m a,cT g n b]
open Classical in
def uT (ds:List D):List D:=ds.foldr (λd l=>if d∈l then l else d::l) []
def gE {ds:List D}{d:D}:d∈uT ds↔d∈ds:=by
 unfold uT;induction ds with
 |nil=>exact Iff.rfl
 |cons e ds a=>
  rw[List.foldr_cons,aAd,<-a];split
  .rename_i h;exact⟨.inr,λz=>z.elim (λq=>q▸h) id⟩
  .exact aAd
def jJ (ds:List D):(uT ds).Nodup:=by
 unfold uT;induction ds with
 |nil=>exact .nil
 |cons e ds a=>
  rw[List.foldr_cons];split
  .exact a
  .rename_i h;exact aAG.mpr ⟨h,a⟩
def pM {ds:List D}(h:∀d∈ds,rB d=true)(b:ds.Nodup):(ds.map W0).Nodup:=by
 induction ds with
 |nil=>exact .nil
 |cons e ds f=>obtain⟨g,i⟩:=aAG.mp b;rw[aAv];refine aAG.mpr ⟨λz=>?_,f (λd a=>h d (.tail _ a)) i⟩;obtain⟨d,a,k⟩:=aAk.mp z;exact g (QP (h d<|.tail _ a) (h e<|.head _) k▸a)
def KY:D->R (List D)
 |.lst a=>if a.all rB=true/\(uT a).length<=63 then .ok (bT W0 (uT a))else .bad
 |_=>.bad
def qW {p N bp:Pos}{f:Ev->R D}(ha:PB X e f)(hh:X.calm=true)(hu:X.A.units+300<df)(hg:Gl X "set":=by rfl)(hm:X.mg "set"=none:=by assumption)(yr:Gl X "sorted":=by rfl)(ju:X.mg "sorted"=none:=by assumption)
  (hv:dq "set"=some (.type "set"):=by decide+kernel) (hv2:dq "sorted"=some (.builtin "sorted"):=by decide+kernel)
  (he:bb [e] X.env=(false,d3 e X.env)::bb [] X.env:=by rfl) (bc:(dn bp (bb [] X.env)).any (·.1)=false:=by rfl)
  (kl:bb [.Call (.Name "set" N) [e] [] bp] X.env=(false,d3 (.Call (.Name "set" N) [e] [] bp) X.env)::bb [] X.env:=by rfl) (ud:(dn pos (bb [] X.env)).any (·.1)=false:=by rfl):
  PF X (.Call (.Name "sorted" p) [.Call (.Name "set" N) [e] [] bp] [] pos) (λρ=>(f ρ).bind KY):=by
 refine wA λpins s σ H Q I H9 O0 O ρ E q=>?_;dsimp only at q;refine aAW (O6 I yr ju hv2 ?_ (by decide) (by decide));have kr:PA X [.Call (.Name "set" N) [e] [] bp] _:=N1 (ET (p:=N) (B:=rB) (U:=uT) (λh=>⟨vF h,VA h,by obtain⟨p,q,rfl,_⟩:=iX h;exact⟨_,rfl⟩⟩) (λ_ d=>gE) ha hh hu hg hm hv he bc) bH kl;refine aBQ (D4 (kr pos pins s σ H (λvs H2=>∃S o es i g m,vs=[.ref S]/\H2=upd m S (.frz o (.own S))/\f ρ=.ok (.lst g)/\(g.all rB=true/\(uT g).length<=63)/\Same H m/\m S=none/\gj X.w o es/\u9 X.K m O es i/\i.Nodup/\(∀d,d∈i↔d∈g)) I ⟨H9,O0,O,ρ,E,?_⟩)
  λus s1 z=>?_) kl ud
 .cases e1:f ρ with
  |ex z=>rw[e1]at q;exact q
  |bad=>rw[e1]at q;exact q.elim
  |ok d=>
   rw[e1,R.aa0]at q;cases d with
   |lst g=>
    simp only[KY]at q;by_cases hc:g.all rB=true/\(uT g).length<=63
    .exact⟨hc,λS o es i m sm hS so st nd T=>⟨S,o,es,i,g,m,rfl,rfl,rfl,hc,sm,hS,so,st,nd,T⟩⟩
    .rw[ku hc]at q;exact q.elim
   |_=>exact q.elim
 .obtain⟨vs,H2,I2,r1,S,o,es,i,g,m,ev,eH,ef,⟨hp,ve⟩,sm,hS1,so,st,nd,T⟩:=z;subst ev eH;obtain⟨u,rfl,ru⟩:=vals1 r1;cases ru;rw[ef,R.aa0]at q;simp only[KY]at q;rw[kn ⟨hp,ve⟩]at q;have pr:∀d∈g,rB d=true:=aBC.mp hp;have r:∀d∈i,rB d=true:=λd j=>pr d ((T d).mp j);have s12:Same m (upd m S<|.frz o (.own S)):=j7 hS1 _;have ke:=st.same s12;obtain⟨hc,ea,ep,t,j,hf,hpln,led,asc,ees⟩:=so;have goS:=(I2.hok S _ j3).1;have hS2:SI.IsSet s1.heap S ea ep t:=⟨o,goS,hc.1,j⟩;have ym:(uT g).Perm i:=by
   letI:DecidableEq D:=λa b=>aDe _
   exact(aCM (jJ g) nd).mpr λd=>by rw[gE,T]
  have hsz:ea.size=i.length:=by have:=st.length;rw[<-ees]at this;simpa using this
  have h63':i.length<=63:=by rw[<-ym.length_eq];exact ve
  have wp:=SI.walkL_perm X.w S ea ep;have wpv:((SI.walkL X.w S ea ep).map (·.2)).Perm es:=by rw[<-ees];exact wp.map _
  have J:∀u∈(SI.walkL X.w S ea ep).map (·.2),∃d,d∈i/\rB d=true/\HV s1.heap u d:=λu hu=>by obtain⟨d,j,v,rv,rp⟩:=ke.get (wpv.mem_iff.mp hu);exact⟨d,j,r d j,J7 I2 rp (vF<|r d j) rv⟩
  refine TS.sorted_keys (vs:=(SI.walkL X.w S ea ep).map (·.2)) (f:=false) (key:=UB s1.heap) (C:=λs'=>∃h' Y,s'={s1 with heap:=h',toks:=Y}/\∀b o,s1.heap.get? b=some o->h'.get? b=some o)
   (λ{Q'} hq=>SI.collect_set (by simp[I2.ok.hd hh]) hS2 hf hpln (λnb=>by rw[led];simpa using nb) asc (by rw[hsz];exact aAp h63' (by decide)) λh' Y k=>hq _ ⟨h',Y,rfl,k⟩)
   (λs' ⟨h',Y,L,k⟩ s6 k6 x hx y hy prog w A E hA {Q} qq=>?_) (λh2 s' ⟨h',Y,L,k⟩ s6 k6 A {Q} qq=>?_) (by rw[aAi,wp.length_eq,aAM,hsz];lia) λs' fu h' l ⟨h1,Y,L,k⟩ pm srt k2 hl ⟨n,gl⟩=>?_
  .subst L;obtain⟨d,_,pd,vc⟩:=J x hx;obtain⟨d',_,pd',xl⟩:=J y hy;rw[vZ pd vc,vZ pd' xl]at qq;exact XI (by lia) pd pd' (vc.keeps λb o e _=>k6 b o (k b o e)) (xl.keeps λb o e _=>k6 b o (k b o e)) qq
  .subst L;refine NF (λx hx=>?_) h2 qq;obtain⟨d,_,pd,vc⟩:=J x hx;exact⟨d,pd,vc.keeps λb o e _=>k6 b o (k b o e)⟩
  .subst L;obtain⟨oo,N,st3⟩:=W3 (pm.trans wpv) ke;have hk:∀u d,(∃v,RelV v u/\Rep X.K (upd m S<|.frz o (.own S)) O v d)->d∈i->UB s1.heap u=W0 d:=by rintro u d ⟨v,rv,rp⟩ j;exact vZ (r d j) (J7 I2 rp (vF<|r d j) rv)
   have nd1:=pM r nd;have ou:(oo.map W0).Nodup:=(N.map W0).nodup_iff.mpr nd1;have xm:pB W0 oo:=FR (R:=λu d=>∃v,RelV v u/\Rep X.K (upd m S<|.frz o (.own S)) O v d) st3 srt ou λu d h j=>hk u d h (N.mem_iff.mp j);have nd3:((uT g).map W0).Nodup:=(ym.map W0).nodup_iff.mpr nd1;have e2:oo=bT W0 (uT g):=dH xm (Y9 nd3) (N.trans<|ym.symm.trans (E9 W0<|uT g).symm);subst e2;obtain⟨wv,lg,nv⟩:=u9.ac1 st3;have I2':=I2.kept (h':=h1) (t':=Y) k;have I3:=I2'.laid (a:=l) (o:=.lst wv) (h':=h') (t':=Y) k2 hl ⟨by rw[nv.length,(E9 W0<|uT g).length_eq];exact aAp ve (by decide),fu,n,lg,gl⟩;exact⟨.ref l,_,I3,rfl,q wv _ l (sm.trans s12) (I2'.hok.fresh hl) nv⟩
end
section
variable [Tabs]
theorem rH {α β:Type}{F:α->β->Prop}:∀{l:List α} {m:List β},Paired F l m->l.length=m.length/\∀(i:Nat) x y,l[i]?=some x->m[i]?=some y->F x y
 |_,_,.nil=>⟨rfl,λi x y h=>nomatch h⟩
 |_,_,.cons h t=>by
  obtain⟨a,b⟩:=rH t;refine⟨by simp[a],λi x y q r=>?_⟩;cases i with
  |zero=>cases q;cases r;exact h
  |succ i=>exact b i x y q r
def Itk (a:cp)(o:Obj)(es:List gn):It where
 go:=λi H=>H a=some (.ext λh=>h.get? a=some o)/\i<es.length
 yld:=λi H x d=>d=H/\∃e b,es[i]?=some e/\e.key=.ref b/\x=.ref b
 stop:=λi H=>H a=some (.ext λh=>h.get? a=some o)/\es.length<=i
def JF {P:cu}{w:cz}{K:lb}{U:dm}{a it:cp}{o:Obj}{es:List gn}{g:Array gn}{ep:Nat}(N:o.ExactDict)(O:o.data=.dict g ep)(r:g.toList=es)(Y:∀e∈es,∃b,e.key=.ref b):Turn P w K U (Itk a o es) [it] it (λi h=>h.IsKeyIter it a i g.size ep)where
 mem:=by simp
 obj:=λi h st b j=>by
  have e:b=it:=by simpa using j
  subst e;obtain⟨o,e,c,d⟩:=st;exact⟨o,e,λv z=>by rw[d]at z;cases z⟩
 keep:=λi h n st k=>st.at λo e=>k it (by simp) o e
 item:=by
  intro X t u x y i f s σ H E I p st l;subst t u x;obtain⟨A,B,f2,C,J,L⟩:=p it (by simp);have sz:g.size=es.length:=by rw[<-r,aAM]
  refine SD.next_dk (I.ok.hd y) st ⟨o,(I.hok a _ l.1).1,N,O⟩ (λQ n m sb=>?_) λz=>absurd l.2 (by lia);have I1:Inv X f σ H {s with heap:=n}:=I.turned (t':=s.toks) (λb o j e=>(sb.2 b j).trans e) A B C J L;obtain⟨o,e,c,d⟩:=id m;have T:es[i]?=some g[i]:=by rw[<-r,aAE];exact aAD Q
  obtain⟨b,q⟩:=Y g[i] (aAr T);exact⟨_,rfl,GJ (s:={s with heap:=n}) e c d (by decide) ⟨.ref b,H,I1,by rw[q];rfl,⟨rfl,_,b,T,q,rfl⟩,m,λb j=>(p b j).1⟩⟩
 done:=by
  intro X t u x y i f s σ H E I p st l;subst t u x;obtain⟨A,B,f2,C,J,L⟩:=p it (by simp);have sz:g.size=es.length:=by rw[<-r,aAM]
  exact SD.next_dk (I.ok.hd y) st ⟨o,(I.hok a _ l.1).1,N,O⟩ (λQ=>absurd l.2 (by lia)) λ_ n q=>⟨rfl,I.turned (t':=s.toks) (λb o j e=>q b o j e) A B C J L⟩
 self:=λ_ _ _ _ _ st h=>wpAny_pyIter_keyiter st h
def ED (i:Nat)(ρ:Ev):R (List D):=match ρ[i]? with
 |some (.d J)=>.ok (J.map (·.1))
 |_=>.bad
def KW (i:Nat){x:Str}{p:Pos}{tg:dm}(hN:X.N[i]?=some x:=by rfl)(hv:vT X.env.scope x:=by first|exact aCn rfl|exact aBA (aCn rfl)|exact aBA (aBA rfl))
  (hd:(x==ll)=false:=by decide) (cg:(x==lp)=false:=by decide):PIC X tg (.Name x p) (ED i):=by
 rintro f s σ H R I ⟨H9,O0,O,ρ,E,fk,q⟩;unfold ED at q;cases t:ρ[i]? with
 |none=>rw[t]at q;exact aAh q
 |some sl=>
  rw[t]at q;cases sl with
  |d J=>
   dsimp only at q;obtain⟨a,o,u,h1,_,_,A,h5,h6,h7⟩:=E.slot i _ t;refine D4 ((G6 hN hv hd cg:PE X (.Name x p) _) f s σ H (λv m=>v=.ref a/\m=H) I ⟨_,h1,rfl,rfl⟩) λv n ⟨x,m,r,r1,ex,eH⟩=>?_;subst ex eH;cases r1;obtain⟨g,B,ea,ep,C,w⟩:=h5;obtain⟨y,L⟩:=rH h6;have rl:∀e∈u,∃b,e.key=.ref b:=λe h=>by obtain⟨j,Q⟩:=List.getElem?_of_mem h;obtain⟨b,z,_⟩:=(L j e _ Q (aAj (by rw[<-y];exact(aAy.mp Q).1))).1;exact⟨b,z⟩
   refine SD.iter_dk g ⟨o,(r.hok a _ A).1,B,C⟩ ?_;refine⟨n.heap.objs.size,[n.heap.objs.size],_,_,m,rfl,r.kept (t':=n.toks) λb o e=>aAc _ e,JF B C w rl,⟨_,aAn _ rfl,rfl,rfl⟩,λb hb=>?_,q (Itk a o u) m (Same.refl _) ?_⟩
   .have e:b=n.heap.objs.size:=by simpa using hb
    subst e;exact r.ad8 (aAg _) (r.hok.fresh<|aAg _)
   .intro H2 O2 sm k hK hO hO2 i;have T:=sm a _ A;refine⟨λd e=>?_,λe=>⟨T,by rw[y];simpa using e⟩⟩;rw[aAF,aDo]at e;obtain⟨p,U,rfl⟩:=e;have h:=aAj (show i<u.length by rw[y];exact(aAy.mp U).1);obtain⟨b,z,rb⟩:=(L i _ _ h U).1;refine⟨⟨T,(aAy.mp h).1⟩,?_⟩;rintro x H' ⟨rfl,e',b',Y,l,rfl⟩;rw[h]at Y;cases Y;rw[z]at l;cases l;exact⟨Same.refl _,k.rep hO hK rb⟩
  |_=>exact aAh q
def VB (i:Nat) (ρ:Ev) (k:D):R D:=match ρ[i]? with
 |some (.d J)=>if L5 7 k=true/\wB k=true then(match atK J k with|some d=>.ok d|none=>.bad)else .bad
 |_=>.bad
def XE (i:Nat){x y:Str}{p L l:Pos}(j:Nat)(hk:PD X (.Name y L) (U1 j))(hu:X.A.units+130<df)(hN:X.N[i]?=some x:=by rfl)(hv:vT X.env.scope x:=by first|exact aCn rfl|exact aBA (aCn rfl)|exact aBA (aBA rfl))
  (hd:(x==ll)=false:=by decide) (cg:(x==lp)=false:=by decide):PD X (.Subscript (.Name x p) (.Name y L) l) (λρ=>(U1 j ρ).bind λk=>VB i ρ k):=by
 refine wA λe s σ H Q I H9 O0 O ρ E q=>?_;dsimp only at q;unfold VB at q;cases f:U1 j ρ with
 |ex x=>unfold U1 at f;split at f<;>cases f
 |bad=>rw[f]at q;exact q.elim
 |ok k=>
  rw[f,R.aa0]at q;cases m:ρ[i]? with
  |none=>rw[m]at q;exact aAh q
  |some sl=>
   rw[m]at q;cases sl with
   |d J=>
    dsimp only at q;split at q
    .rename_i T;obtain⟨a,o,es,h1,_,_,h4,h5,h6,h7⟩:=E.slot i _ m;refine wpAny_Subscript_Name_late (D4 ((G6 hN hv hd cg:PE X (.Name x p) _) e s σ H (λv h=>v=.ref a/\h=H) I ⟨_,h1,rfl,rfl⟩) λv s1 ⟨w,h,I1,r1,ew,eH⟩=>?_);subst ew eH;cases r1;refine D4 (hk e s1 σ h (λv g=>Same h g/\Rep X.K g O v k) I1 ⟨H9,O0,O,ρ,E,by rw[f,RC];exactλv g U r2=>⟨U,r2⟩⟩) λu U ⟨v,g,n,ru,t,rk⟩=>?_;obtain⟨b,rfl⟩:=bN rk T.2;cases ru;have z:=t a _ h4;have B:iS X.K g O es J:=h6.mono λr=>r.same t;obtain⟨Y,hD,lh,hp⟩:=lU n z h5 B h7;obtain⟨ok,dp⟩:=dP T.1;refine⟨"dict",_,PySem.F.slot_dict_getitem.lookup,hD.typeIs,?_⟩;rcases jZ (k:=k) hp with⟨_,C⟩|⟨p',d,w,f,C,zc,r⟩
     .rw[C]at q;exact aAh q
     .rw[C]at q;exact wpAny_getItem_heap (knd:=kR X.prog X.w) (by show X.A.in1.units+128<df;rw[l5];lia) ⟨J7 n rk ok rfl,by lia⟩ hD f ⟨w,g,n.tok _,zc,q w g t r⟩
    .exact aAh q
   |_=>exact aAh q
end
end DL
namespace DL
open PySem L2
section
variable [Tabs]
end
end DL
namespace M
open PySem L2 DL
variable [Tabs]
def kN (Y:List D) (most:Int):List G.V:=if((cJ Y 1).fdiv 5).fmod 3=0 then eI (fM Y most)else(eI<|fM Y most).map (yV<|WA<|(cJ Y 1).fdiv 5).put
open Classical in
def mK:List D->R D
 |[.lst Y,.int a]=>if M4 1048576 Y/\Y.length<=63/\4<=a/\a<=20 then .ok (.lst ((kN Y a).map vd))else .bad
 |_=>.bad
def MO {Y:List D}{most:Int}(a:M4 1048576 Y)(b:Y.length<=63)(h0:4<=most)(d:most<=20):mK [.lst Y,.int most]=.ok (.lst ((kN Y most).map vd)):=kn ⟨a,b,h0,d⟩
def fx {l:List Int}{P:G.V}(h:bP l)(a:Sz 50 P):Sz 300 ((yV l).put P):=by
 have g:∀k,bits (l.getD k 0)<=100:=λk=>by
  rw[aAo];cases e:l[k]? with
  |none=>exact(show bits 0<=100 by decide)
  |some i=>exact h.2 i (aAr e)
 have f:bits (P.x+l.getD 0 0*P.y)<=151:=bits_add (l6 a.1 (by decide)) (bits_mul (g 0) a.2.1);have m:bits (P.y+l.getD 1 0*P.z)<=151:=bits_add (l6 a.2.1 (by decide)) (bits_mul (g 1) a.2.2);have j:bits (P.z+l.getD 2 0*(P.x+l.getD 0 0*P.y))<=252:=bits_add (l6 a.2.2 (by decide)) (bits_mul (g 2) f);have ad:∀{x:Int} (k:Nat),bits x<=252->bits (x+l.getD k 0)<=300:=λk h=>l6 (bits_add h (l6 (g k) (by decide))) (by decide);have b:=l6 f (show 151<=252 by decide);have d:=l6 m (show 151<=252 by decide);unfold yV G.Sl.put;dsimp only;split
 .exact⟨ad 3 d,ad 4 b,ad 5 j⟩
 .exact⟨ad 3 b,ad 4 d,ad 5 j⟩
def HP (s:G.Sl){j:List G.V}(h:G.j5 j):G.j5 (j.map s.put):=G.MC s.unit (λX a=>by rw[<-s.ae1];exact aBo a) h
def RK {Y:List D}{most:Int}(e:M4 1048576 Y)(h0:4<=most)(f:most<=20):G.j5 (kN Y most)/\(∀p∈kN Y most,Sz 300 p)/\((kN Y most).length:Int)<=most+3:=by
 obtain⟨g,b,i⟩:=OV e h0 f;have ne:fM Y most≠[]:=λz=>by rw[z]at b;simp at b
 have s:=HG ne;obtain⟨d,j⟩:=PK g;unfold kN;split
 .exact⟨s,λp a=>(d p a).mono,by lia⟩
 .refine⟨HP _ s,λp a=>?_,by rw[aAi];lia⟩;obtain⟨q,h,rfl⟩:=aAk.mp a;exact fx (NB _) (d q h).mono
def fd4 (f:G.V×Int):D:=mJ f.1 f.2
def mU (a n:Nat):List D:=(List.range' a n).map λ(k:Nat)=>D.int (k:Int)
def xq {n:Nat}(h:n<=1000000):fO [.int (n:Int)]=.ok (mU 0 n):=by rw[uw h];unfold mU;rw[List.range_eq_range']
theorem wS {G:D->Ev->R Ev}{F:Ev->R Out}(Iv:Nat->Ev->Prop):∀{n a:Nat} {ρ:Ev},(∀i,a<=i->i<a+n->∀ρ,Iv i ρ->∃ρ2,K8 G F (.int (i:Int)) ρ=.ok (.nx ρ2)/\Iv (i+1) ρ2)->Iv a ρ->∃ρ',M2 G F (mU a n) ρ=.ok (.nx ρ')/\Iv (a+n) ρ'
 |0,a,ρ,_,h=>⟨ρ,rfl,h⟩
 |n+1,a,ρ,d,h=>by
  obtain⟨ρ2,e,f⟩:=d a (aAg _) (by lia) ρ h;obtain⟨ρ',g,j⟩:=wS Iv (n:=n) (λi l f=>d i (by lia) (by lia)) f;refine⟨ρ',?_,by rw[show a+(n+1)=a+1+n by lia];exact j⟩;show M2 G F (.int (a:Int)::mU (a+1) n) ρ=_;unfold K8 at e;cases b:G (.int (a:Int)) ρ with
  |ok k=>rw[b]at e;exact(M0 b e).trans g
  |ex z=>rw[b]at e;cases e
  |bad=>rw[b]at e;cases e
def WP (J:List (D×D)):List D:=J.map (·.1)
def Cov (S:List G.V)(J:List (D×D))(i j k:Nat):Prop:=∀A B C,S[i]?=some A->S[j]?=some B->S[k]?=some C->(G.Up S A B C->fd4 (G.j4 A B C)∈WP J)/\(G.Dn S A B C->fd4 (G.j4 A C B)∈WP J)
def TU (S:List G.V)(J:List (D×D))(i j k:Nat):Prop:=∀b a d,b<a->a<d->(b<i\/(b=i/\(a<j\/(a=j/\d<k))))->Cov S J b a d
def ZP {G:D->Ev->R Ev}{F:Ev->R Out}{Post:Ev->Prop}{n a:Nat}{ρ:Ev}(Iv:Nat->Ev->Prop)(d:∀i,a<=i->i<a+n->∀ρ,Iv i ρ->∃ρ2,K8 G F (.int (i:Int)) ρ=.ok (.nx ρ2)/\Iv (i+1) ρ2)(h0:Iv a ρ)(b:∀ρ',Iv (a+n) ρ'->Post ρ'):∃ρ2,M2 G F (mU a n) ρ=.ok (.nx ρ2)/\Post ρ2:=by obtain⟨ρ',e,h⟩:=wS Iv d h0;exact⟨ρ',e,b ρ' h⟩
def JU {r:R Out}{ρ:Ev}{F:Ev->R Out}{x:R Out}(a:r=.ok (.nx ρ))(b:F ρ=x):B5 r F=x:=by rw[a];exact b
def KH {S:List G.V}{i:Nat}{A:G.V}(h:S[i]?=some A):R7 (.lst (S.map vd)) (.int (i:Int))=.ok (vd A):=M7 (by rw[Y7 (by lia),aBH,aAF,h];rfl)
def NR {f:G.V×Int}{P:G.V}(h:Sz 2003 f.1)(a:Sz 1000 P):k5 [fd4 f,vd P]=.ok (.int (G.b9 f.1 P)):=kn ⟨⟨w5 h.1,w5 h.2.1,w5 h.2.2⟩,w5 a.1,w5 a.2.1,w5 a.2.2⟩
def HF {α:Type}{l:List α}(d:l.Nodup):2<l.length↔∃a b c,a∈l/\b∈l/\c∈l/\a≠b/\a≠c/\b≠c:=by
 constructor
 .intro h;match l,h,d with
  |a::b::c::l,_,d=>
   refine⟨a,b,c,by simp,by simp,by simp,?_,?_,?_⟩
   .rintro rfl;simp at d
   .rintro rfl;simp at d
   .rintro rfl;simp at d
 .rintro⟨a,b,c,k,n,o,f,g,i⟩
  classical
  have j:[a,b,c].Nodup:=by simp[f,g,i]
  have:=G.p8 j (m:=l) λv e=>by simp only[aAd,aAJ,or_false]at e;rcases e with rfl|rfl|rfl<;>assumption
  exact this
end M
namespace HT
open PySem PyProof.Rows
section
open PySem.SeqAt
open PySem.AutoSeq1 (wpAny_loadPart')
open PySem.MeetsSeq PySem.MeetsSeq2 PySem.MeetsSeq3
def MK (A:cy)(s:be)(a:Int)(t:Tok)(c:Int)(u:Tok)(prog:cu)(w:cz)(E:A3)(Q:A3)(h:Q (.bool (decide (c<a))) s):
  a9 (cq prog w) A (i6 .Gt (.int a t) (.int c u)) Q E s:=
 (PyProof.Rows.gt_int h:a9 (cq prog w) A (d9 .Gt (.int a t) (.int c u)) Q E s)
def qH (l b:cp)(B m:Array ae)(n n2:Nat)(dd qt:Option cp)(sl qg:Array (Option ae))(ns z:List Int)(T:IntsAre B.toList ns)(U:IntsAre m.toList z):
  Meets (Builtin.«tuple.__gt__» ⟨[.ref l,.ref b],[]⟩)
   (λ_ R s=>s.heap.get? l=some {cls:=.type "tuple",dict:=dd,data:=.seq B n,slots:=sl}/\s.heap.get? b=some {cls:=.type "tuple",dict:=qt,data:=.seq m n2,slots:=qg}/\
    R (.ok (.ret (.bool (lexLt z ns)))) s):=
 .of_wp λj w A R s h=>by
  obtain⟨C,g,d,E,os⟩:=s;obtain⟨hl,hb,h⟩:=h;have f2:=aFu;have z1:B.size=ns.length:=by rw[<-T.length];simp
  have z2:m.size=z.length:=by rw[<-U.length];simp
  wp_walk using aDD hl,aDD hb,aCh _ (λrest b L=>b.1=none/\L=⟨C,g,d,E,os⟩/\∃(H I:List ae) (o p:List Int),rest=H.zip I/\
   IntsAre H o/\IntsAre I p/\o.length+m.size=p.length+B.size/\R (.ok (.ret (.bool (lexLt p o)))) ⟨C,g,d,E,os⟩) _
  case turn=>
   rintro⟨y,x⟩ rest b L ⟨N,rfl,H,I,o,p,i,O,J,f,k⟩;cases O with
   |nil=>rw[aFv]at i;cases i
   |cons a t r=>
    cases J with
    |nil=>rw[aFd]at i;cases i
    |cons c u v=>
     rw[aBJ]at i;injection i with xp af;injection xp with hy hx;subst hy hx;rw[lexLt_cons]at k;simp only[aAt]at f;obtain⟨e,he,Y⟩:=nR A.in1 ⟨C,g,d,E,os⟩ a t c u;refine aAa (he j w _ _ ?_);cases e with
     |true=>
      rw[kn (Y.mp rfl).symm]at k
      wp_walk
      exact⟨rfl,rfl,_,_,_,_,af,r,v,by lia,k⟩
     |false=>
      rw[ku (λq=>absurd (Y.mpr q.symm) aBc)]at k;have Q:=MK A.in1 ⟨C,g,d,E,os⟩ a t c u j w
      wp_walk using Q
      exact⟨_,rfl,by simpa using k⟩
  case fin=>
   rintro⟨b1,b2⟩ L ⟨N,rfl,H,I,o,p,i,O,J,f,k⟩;simp only at N;subst N;have hv:lexLt p o=decide (m.size<B.size):=by
    cases O with
    |nil=>
     cases J with
     |nil=>simp only[aBL]at f;rw[lexLt_nil_nil];exact(decide_eq_false (by lia)).symm
     |cons c u hw=>simp only[aBL,aAt]at f;rw[z8];exact(decide_eq_false (by lia)).symm
    |cons a t hv=>
     cases J with
     |nil=>simp only[aBL,aAt]at f;rw[F7];exact(decide_eq_true (by lia)).symm
     |cons c u hw=>rw[aBJ]at i;cases i
   rw[hv]at k
   wp_walk
   exact⟨_,rfl,by simpa[aEg]using k⟩
  case h=>exact⟨rfl,rfl,B.toList,m.toList,ns,z,rfl,T,U,by lia,h⟩
end
section
variable{prog:cu} {w:cz} {A:cy} {E:A3} {s:be}
def gt_tupInts {Q:A3}(o:IsTup s.heap l B)(p:IsTup s.heap b e)(q:IntsAre B.toList ns)(r:IntsAre e.toList d)(t:A.units<df)(h:Q (.bool (lexLt d ns)) s):a9 (cq prog w) A (d9 .Gt (.ref l) (.ref b)) Q E s:=by
 obtain⟨⟨u,v,f,y⟩,g,i,n,j⟩:=id o;obtain⟨⟨I,z,data2,C⟩,k,m,H,a⟩:=id p;simp only at i j m a;subst i j m a;exact richCompare_meets_room (op:=.Gt) ⟨_,g,rfl⟩ ⟨_,k,rfl⟩ PySem.F.slot_tuple_gt PySem.F.entry_tuple_gt (PySem.F.args_tuple_gt_2 _ _) (qH l b B e n H v z y C ns d q r)
  ⟨g,k,show aDm (lexLt d ns)≠aGg/\Q (.bool (lexLt d ns)) s from⟨(λx=>nomatch x),h⟩⟩ t
end
end HT
namespace DL
open PySem PySem.Spec L2
open PyProof.Rows hiding St
variable [Tabs]
def gtI (ds:List D)(i j:Nat):Bool:=HT.lexLt (flat<|ds.getD j .non) (flat<|ds.getD i .non)
def oZ:List D->R D
 |[.tup a]=>if a≠[]/\a.all P9=true then .ok (a.getD (dA (NP a) (a.length-1)) .non)else .bad
 |_=>.bad
def pT:List D->R D
 |[.tup a]=>if a≠[]/\a.all P9=true then .ok (a.getD (dA (gtI a) (a.length-1)) .non)else .bad
 |_=>.bad
def rN {op:CmpOp}{bt:Nat->Nat->Bool}{p:cp}{ws:List V}{Y:List D}{E:A3}{Q:VK}(hc:X.calm=true)(hu:X.A.units+300<df)(I:Inv X r σ H s)(h1:T8 X.K H p ws)(h2:Reps X.K H O ws Y)(ai:Y≠[])(hp:Y.all P9=true)
  (L:∀{i j:Nat} {s:be} {l b:cp} {it t:Array ae} {E:A3} {N:A3},IsTup s.heap l it->IsTup s.heap b t->IntsAre it.toList (flat (Y.getD i .non))->IntsAre t.toList (flat (Y.getD j .non))->N (.bool (bt i j)) s->a9 (cq X.prog X.w) X.A.in1 (i6 op (.ref l) (.ref b)) N E s)
  (q:∀v,Rep X.K H O v (Y.getD (dA bt (Y.length-1)) .non)->Q v H):
  a9 (cq X.prog X.w) X.A.in1 (pyIter (.ref p)) (λit T=>∃I fp wr G n P St Hs bt,it=.ref I/\WalksS X.prog X.w X.A.in1 I fp wr G n P St/\St 0 T/\(∀b∈fp,b<T.heap.objs.size)/\0<n/\(∀i s,St i s->Hs s.heap)/\MM.CmpOn X.prog X.w X.A.in1 op Hs P bt/\∀v s',P (dA bt (n-1)) v->Moved wr G T s'->EP X r σ Q v s') E s:=by
 have pt:∀d∈Y,P9 d=true:=aBC.mp hp;obtain⟨a,u,U,zL⟩:=I.tuple h1;obtain⟨oL,gL,cL,nL,dL⟩:=id U;have st:u9 X.K H O a Y:=u9.of u h2;have k:a.toArray.size=Y.length:=by rw[aAm,<-u.length,h2.length]
 have uo:0<Y.length:=aEL.mpr ai;have W:=MM.walks_more (Walks.tuple (prog:=X.prog) (w:=X.w) (A:=X.A.in1) (by simp[I.ok.hd hc]) s.heap.objs.size p (aAl<|aAf gL) a.toArray) (jX s.heap a)
  (λq m=>by simp only[aAN];exact aAl (aAf<|N6 m))
 refine wpAny_pyIter_tuple U ⟨s.heap.objs.size,_,_,_,a.toArray.size,_,_,λh=>∀q∈jX s.heap a,h.get? q.1=some q.2,bt,rfl,W.toS,⟨⟨⟨_,aAn _ rfl,rfl,rfl⟩,U.push _⟩,λq m=>aAc _ (N6 m)⟩,λb f=>?_,by rw[k];exact uo,λi s h=>h.2,λi j vi vj s' N E2 hh x hj m=>?_,λv s' z C=>?_⟩
 .rw[aBt];rcases aAT.mp f with f|f
  .rcases aAd.mp f with rfl|f
   .exact aDh _
   .rcases aAd.mp f with rfl|f
    .exact aBi (aAf gL)
    .cases f
  .obtain⟨q,m,rfl⟩:=aAk.mp f;exact aBi (aAf<|N6 m)
 .have one:∀i v,a.toArray[i]?=some v->∃b B,v=.ref b/\IsTup s'.heap b B/\IntsAre B.toList (flat<|Y.getD i .non):=λi v x=>by
   rw[aBY]at x;obtain⟨d,J,w,lg,rp⟩:=B4 st x;have km:Y.getD i .non=d:=by rw[aAo,J];rfl
   rw[km];have y:=pt d (aAr J);obtain⟨b,B,rfl,⟨o,g,c,n,dd⟩,hia⟩:=C5 y (J7 I rp (A0 y) lg);exact⟨b,B,rfl,⟨o,hh _ (oD (aAr x) g),c,n,dd⟩,hia⟩
  obtain⟨b,B,rfl,t1,i1⟩:=one i vi x;obtain⟨b',uc,rfl,t2,i2⟩:=one j vj hj;exact L t1 t2 i1 i2 m
 .have z:a.toArray[dA bt (a.toArray.size-1)]?=some v:=z;rw[aBY,k]at z;obtain⟨d,J,w,lg,rp⟩:=B4 st z;have km:Y.getD (dA bt<|Y.length-1) .non=d:=by rw[aAo,J];rfl
  rw[km]at q;have I2:=I.kept (h':=s'.heap) (t':=s'.toks) λb o e=>C.heap b o (by simp only[aAN];exact aAl (aAf e)) (aAc _ e);have es:s'={s with heap:=s'.heap,toks:=s'.toks}:=by have g1:=C.gens;have g2:=C.drawn;have g3:=C.os;cases s';simp only at g1 g2 g3;subst g1 g2 g3;rfl
  rw[es];exact⟨w,_,I2,lg,q _ rp⟩
def RW (g:X.calm=true)(h:X.A.units+300<df):bZ X (.builtin "min") oZ:=by
 intro H O b i Q J r q;match i,q with
 |[.tup Y],q=>
  obtain⟨v,rfl,z⟩:=IY r;obtain⟨p,L,rfl,j,k⟩:=z.tupI;simp only[oZ]at q;by_cases a:Y≠[]/\Y.all P9=true
  .rw[kn a]at q;refine⟨λb d e=>b=[.ref p]/\d=H/\e=Q,λf s σ d l N e I m ⟨n,o,t⟩=>?_,rfl,rfl,rfl⟩;subst n o t;obtain⟨u,rfl,w⟩:=vals1 m;cases w;exact MM.call_minH (rN (op:=.Lt) (bt:=NP Y) g h I j k a.1 a.2 (λx y B C E=>HT.lt_tupInts x y B C (by rw[l5];lia) E) λv r=>q _ _ (Same.refl _) r)
  .rw[ku a]at q;exact q.elim
def VG (g:X.calm=true)(h:X.A.units+300<df):bZ X (.builtin "max") pT:=by
 intro H O b i Q J r q;match i,q with
 |[.tup Y],q=>
  obtain⟨v,rfl,z⟩:=IY r;obtain⟨p,L,rfl,j,k⟩:=z.tupI;simp only[pT]at q;by_cases a:Y≠[]/\Y.all P9=true
  .rw[kn a]at q;refine⟨λb d e=>b=[.ref p]/\d=H/\e=Q,λf s σ d l N e I m ⟨n,o,t⟩=>?_,rfl,rfl,rfl⟩;subst n o t;obtain⟨u,rfl,w⟩:=vals1 m;cases w;exact MM.call_maxH (rN (op:=.Gt) (bt:=gtI Y) g h I j k a.1 a.2 (λx y B C E=>HT.gt_tupInts x y B C (by rw[l5];lia) E) λv r=>q _ _ (Same.refl _) r)
  .rw[ku a]at q;exact q.elim
def ZA (a b:D):R D:=if P9 a=true/\P9 b=true then .ok (.bl (HT.lexLt (flat a)<|flat b))else .bad
def B0.ptI {K:lb}{H:Hp}{O:cp->Prop}{v:V}{d:D}(r:B0 K H O v d)(h:P9 d=true):Rep K H O v d:=by
 rcases r with r|⟨a,b,f,_,e,_⟩
 .exact r
 .rw[(aR h).2]at e;cases e
def YH (L:X.A.units+64<df):iH X (d9 .Lt) ZA:=by
 intro H O x y h i Q N m n q;unfold ZA at q;split at q
 .rename_i d;refine⟨λj k l f=>j=x/\k=y/\l=H/\f (.bl (HT.lexLt (flat h)<|flat i)) H,?_,rfl,rfl,rfl,q _ H (Same.refl _) .bl⟩;intro e s σ l j k v u f I o p ⟨r,t,w,z⟩;subst r t w;obtain⟨a,T,rfl,B,C⟩:=C5 d.1 (J7 I (m.ptI d.1) (A0 d.1) o);obtain⟨b,U,rfl,E,J⟩:=C5 d.2 (J7 I (n.ptI d.2) (A0 d.2) p);have g:EP X e σ f (.bool (HT.lexLt (flat h)<|flat i)) s:=⟨.bl _,_,I,rfl,z⟩;exact HT.lt_tupInts B E C J (by lia) g
 .exact q.elim
end DL
namespace M
open PySem L2 DL
section
variable [Tabs]
def mE (P Q:G.V):Bool:=HT.lexLt [P.x,P.y,P.z] [Q.x,Q.y,Q.z]
def lL (P Q:G.V):G.V:=if mE Q P then Q else P
def lH (P Q:G.V):G.V:=if mE P Q then Q else P
def wI (e:G.V×G.V):D:=.tup [vd (lL e.1 e.2),vd (lH e.1 e.2)]
def RN (P Q:G.V):oZ [.tup [vd P,vd Q]]=.ok (vd (lL P Q)):=by
 have a:oZ [.tup [vd P,vd Q]]=R.ok (([vd P,vd Q]:List D).getD (dA (NP [vd P,vd Q]) 1) .non):=by simp only[oZ,pT];exact kn ⟨by simp,rfl⟩
 rw[a];unfold lL;have e:NP [vd P,vd Q] 1 0=mE Q P:=rfl;cases h:mE Q P with
 |true=>rw[h]at e;simp[dA,e]
 |false=>rw[h]at e;simp[dA,e]
def QW (P Q:G.V):pT [.tup [vd P,vd Q]]=.ok (vd (lH P Q)):=by
 have a:pT [.tup [vd P,vd Q]]=R.ok (([vd P,vd Q]:List D).getD (dA (gtI [vd P,vd Q]) 1) .non):=by simp only[oZ,pT];exact kn ⟨by simp,rfl⟩
 rw[a];unfold lH;have e:gtI [vd P,vd Q] 1 0=mE P Q:=rfl;cases h:mE P Q with
 |true=>rw[h]at e;simp[dA,e]
 |false=>rw[h]at e;simp[dA,e]
def Y0 (S:List G.V) (fs:List (G.V×Int)):List (G.V×G.V):=fs.flatMap λf=>G.J2 (G.d4 S f)
open Classical in
def gF:List D->R D
 |[.lst a]=>match F6 a with
  |some j=>if T9 900 j/\G.j5 j/\(c8 j).length<=23 then .ok (.lst (bT W0 (uT ((Y0 (c8 j) (j0 (c8 j))).map wI))))else .bad
  |_=>.bad
 |_=>.bad
theorem xE {S:List G.V}(k:Nat):∀{gs:List (G.V×Int)},(∀f∈gs,(G.J2 (G.d4 S f)).length<=k)->(Y0 S gs).length<=gs.length*k
 |[],_=>by simp[Y0]
 |f::gs,h=>by
  have b:=xE k (gs:=gs) λg a=>h g (.tail _ a);have d:=h f (.head _);have e:Y0 S (f::gs)=G.J2 (G.d4 S f)++Y0 S gs:=by simp[Y0]
  rw[e,aAC,aAt,aGL]
  lia
def GC {P Q:G.V}(a:mE P Q=false)(b:mE Q P=false):P=Q:=by have:=TS.lex_total _ _ a b;simp only[aEM,and_true]at this;exact G.ext this.1 this.2.1 this.2.2
def oM {P Q:G.V}(h:mE P Q=true):mE Q P=false:=by
 cases z:mE Q P with
 |false=>rfl
 |true=>have:=TS.lex_trans _ _ _ h z;rw[TS.lex_irrefl]at this;cases this
def LP {P Q:G.V}(h:P≠Q):wI (P,Q)=wI (Q,P):=by
 unfold wI lL lH;cases a:mE P Q with
 |true=>rw[oM a];rfl
 |false=>
  cases b:mE Q P with
  |true=>rfl
  |false=>exact absurd (GC a b) h
def UX {j:List G.V}(n:T9 900 j)(g:G.j5 j)(t:(c8 j).length<=23):(uT ((Y0 (c8 j) (j0 (c8 j))).map wI)).length<=63:=by
 classical
 obtain⟨a,u,w⟩:=N4 n g (by lia);have b:G.j5 (c8 j):=Z6 g λv x=>t9.mpr x;have o:(j0<|c8 j).Nodup:=by obtain⟨m,r,e,L⟩:=W4 n g (by lia);have p:=F4 L (by rw[<-e];exact t);rw[<-e]at p;exact G0 (K1 p.2)
 have y:(Y0 (c8 j)<|j0<|c8 j).Nodup:=G.V6 b (m9 j) o λf h=>(a f).mp h;have i:∀P Q,(P,Q)∈(Y0 (c8 j)<|j0<|c8 j).filter (λe=>decide (G.e9<|e.2-e.1))↔(P,Q)∈G.X1 (c8 j) (j0<|c8 j)/\G.e9 (Q-P):=λP Q=>by rw[aAQ,decide_eq_true_eq];rfl
 have k:=(G.HI b (m9 j) a o u (y.sublist aBl) i).1;have sub:(uT<|(Y0 (c8 j)<|j0<|c8 j).map wI).length<=(((Y0 (c8 j)<|j0<|c8 j).filter (λe=>decide (G.e9<|e.2-e.1))).map wI).length:=by
  refine G.p8 (jJ _) λd s=>?_;rw[gE]at s;obtain⟨⟨P,Q⟩,l,rfl⟩:=aAk.mp s;have ne:=G.uI b (m9 j) a l;rcases G.C9 P Q with q|q|q
  .exact absurd q ne
  .exact aAk.mpr ⟨(Q,P),(i _ _).mpr ⟨G.T5 b (m9 j) a l,q⟩,LP ne.symm⟩
  .exact aAk.mpr ⟨(P,Q),(i _ _).mpr ⟨l,q⟩,rfl⟩
 rw[aAi]at sub
 lia
def HM {j:List G.V}(a:T9 900 j)(b:G.j5 j)(f:(c8 j).length<=23):KY (.lst ((Y0 (c8 j) (j0 (c8 j))).map wI))=.ok (bT W0 (uT ((Y0 (c8 j) (j0 (c8 j))).map wI))):=by have:=UX a b f;simp only[KY];exact kn ⟨aBC.mpr λd g=>by obtain⟨e,_,rfl⟩:=aAk.mp g;rfl,this⟩
def HQ {j:List G.V}(g:T9 900 j)(d:G.j5 j)(o:(c8 j).length<=23){gs h:List (G.V×Int)}(e:gs++h=j0 (c8 j)):(Y0 (c8 j) gs).length<=sizeLine:=by
 obtain⟨i,p,a⟩:=N4 g d (by lia);have:=xE (S:=c8 j) (gs:=gs) 23 λf k=>by have S:=((i f).mp (by rw[<-e];exact aBq _ k)).aa2 (m9 j);have n:G.j5 (c8 j):=Z6 d λv b=>t9.mpr b;rw[G.QU n (m9 j)];exact aAp (G.p8 S.aa4 (m:=c8 j) λv b=>(G.c6.mp<|S.aa3 b).1) (by lia)
 have l:gs.length<=12167:=by rw[<-e,aAC]at a;lia
 exact aAp (aAp this<|Nat.mul_le_mul_right 23 l) (by decide)
def YN (j:List G.V):List D:=bT W0 (uT<|(Y0 (c8 j)<|j0<|c8 j).map wI)
def KN {j:List G.V}(a:T9 900 j)(b:G.j5 j)(d:(c8 j).length<=23):gF [.lst (j.map vd)]=.ok (.lst (YN j)):=by simp only[gF,u3];exact kn ⟨a,b,d⟩
def BD {j:List G.V}(g:T9 900 j)(h:G.j5 j)(o:(c8 j).length<=23){d:D}:d∈YN j↔∃n k P Q,G.IsFace (c8 j) n k/\G.EdgeOf n (λX=>X∈G.o8 n k (c8 j)) P Q/\d=wI (P,Q):=by
 obtain⟨b,p,i⟩:=N4 g h (by lia);unfold YN;rw[(E9 W0 _).mem_iff,gE,aAk];constructor
 .rintro⟨e,l,rfl⟩;obtain⟨f,a,m⟩:=aBd.mp l;have a:=(b f).mp a;exact⟨f.1,f.2,e.1,e.2,a,(a.aa2<|m9 j).aa1.mp m,rfl⟩
 .rintro⟨n,k,P,Q,a,E,rfl⟩;exact⟨(P,Q),aBd.mpr ⟨(n,k),(b (n,k)).mpr a,(a.aa2<|m9 j).aa1.mpr E⟩,rfl⟩
def XN {j:List G.V}:pB W0 (YN j):=Y9 (pM (λd a=>by rw[gE]at a;obtain⟨e,_,rfl⟩:=aAk.mp a;rfl)<|jJ _)
def LO {P Q:G.V}(h:P≠Q):mE (lL P Q) (lH P Q)=true/\((lL P Q=P/\lH P Q=Q)\/(lL P Q=Q/\lH P Q=P)):=by
 unfold lL lH;cases a:mE P Q with
 |true=>rw[oM a];exact⟨a,.inl ⟨rfl,rfl⟩⟩
 |false=>
  cases b:mE Q P with
  |true=>exact⟨b,.inr ⟨rfl,rfl⟩⟩
  |false=>exact absurd (GC a b) h
def xw {P Q:G.V}(h:mE P Q=true):lL P Q=P/\lH P Q=Q:=by unfold lL lH;rw[oM h,h];exact⟨rfl,rfl⟩
def PZ {a b c d:D}(h:D.tup [a,b]=D.tup [c,d]):a=c/\b=d:=by simpa using h
def OT {j:List G.V}(o:T9 900 j)(r:G.j5 j)(s:(c8 j).length<=23):∃es:List (G.V×G.V),YN j=es.map u4/\∀e∈es,mE e.1 e.2=true/\e.1∈c8 j/\e.2∈c8 j:=by
 have all:∀l:List D,(∀d∈l,∃e:G.V×G.V,d=u4 e/\mE e.1 e.2=true/\e.1∈c8 j/\e.2∈c8 j)->∃es:List (G.V×G.V),l=es.map u4/\∀e∈es,mE e.1 e.2=true/\e.1∈c8 j/\e.2∈c8 j:=λl=>by
  induction l with
  |nil=>exactλ_=>⟨[],rfl,λe f=>by cases f⟩
  |cons d l t=>
   intro h;obtain⟨es,q,u⟩:=t λd g=>h d (.tail _ g);obtain⟨e,v,w⟩:=h d (.head _);refine⟨e::es,by rw[v,q];rfl,λx f=>?_⟩;rcases aAd.mp f with rfl|f
   .exact w
   .exact u x f
 refine all _ λd g=>?_;obtain⟨n,k,P,Q,y,E,rfl⟩:=(BD o r s).mp g;have i:=(G.c6.mp E.p).1;have m:=(G.c6.mp E.q).1;refine⟨(lL P Q,lH P Q),rfl,(LO E.ne).1,?_⟩;rcases(LO E.ne).2 with⟨a,b⟩|⟨a,b⟩
 .rw[a,b];exact⟨i,m⟩
 .rw[a,b];exact⟨m,i⟩
def vM {α:Type}{r:R α}{x:α}{F:α->R Out}{a:Ev->R Out}{d:D}(b:r=.ok x)(e:L9 (B5 (F x) a)=.ok d):L9 (B5 (r.bind F) a)=.ok d:=by rw[b];exact e
end
def MZ {J:List (D×D)}{k v:D}(h:k∉J.map (·.1)):bO J k v=J++[(k,v)]:=by unfold bO;exact ku h
def RM {J:List (D×D)}{k:D}(h:k∉J.map (·.1)):atK J k=none:=by unfold atK;rw[Option.map_eq_none_iff,aEY];intro p a e;exact h (aAk.mpr ⟨p,a,of_decide_eq_true e⟩)
def D9 (es:List (G.V×G.V)):List (D×D):=es.map λe=>(u4 e,.int 1)
def iU (es:List (G.V×G.V)):(D9 es).map (·.1)=es.map u4:=by unfold D9;rw[aBK];rfl
def DM {es:List (G.V×G.V)}{e:G.V×G.V}(h:e∉es):u4 e∉(D9 es).map (·.1):=by rw[iU];intro a;obtain⟨d,b,q⟩:=aAk.mp a;exact h (vO q▸b)
def SY {es:List (G.V×G.V)}{e:G.V×G.V}(h:e∉es):bO (D9 es) (u4 e) (.int 1)=D9 (es++[e]):=by rw[MZ (DM h)];unfold D9;rw[aCf];rfl
def SL {es:List (G.V×G.V)}{e:G.V×G.V}(h:e∉es):(atK (D9 es) (u4 e)).getD (.int 0)=.int 0:=by rw[RM (DM h)];rfl
def GF (es:List (G.V×G.V)):(D9 es).length=es.length:=aAi ..
def U9 (l:List G.V)(k:Nat):G.V×G.V:=(l.getD (if k=0 then l.length-1 else k-1) 0,l.getD k 0)
def R6 (l:List G.V):List (G.V×G.V):=(aBv l.length).map (U9 l)
def IS (l:List G.V):(R6 l).Perm (G.J2 l):=by
 match l with
 |[]=>exact aGp _
 |a::r=>
  have b:(G.J2 (a::r)).length=r.length+1:=by unfold G.J2;simp
  have ne:G.J2 (a::r)≠[]:=λz=>by rw[z]at b;simp at b
  have e:R6 (a::r)=(G.J2 (a::r)).getLast ne::(G.J2 (a::r)).dropLast:=by
   refine List.ext_getElem (by simp[R6,b]) λk f g=>?_;have h:k<r.length+1:=by simpa[R6]using f
   cases k with
   |zero=>simp only[R6,aDi,List.getElem_range,List.getElem_cons_zero,List.getLast_eq_getElem,b,U9,if_true];simp[G.J2,List.getElem_append,aAo]
   |succ k=>
    simp only[R6,aDi,List.getElem_range,aFO,List.getElem_dropLast,U9];have d:k<r.length:=by lia
    simp[G.J2,List.getElem_append,aAo,d,aBi d]
  rw[e];refine(List.perm_append_singleton _ _).symm.trans ?_;rw[aEz]
def K3 (S:List G.V) (fs:List (G.V×Int)):List (G.V×G.V):=fs.flatMap λf=>R6 (G.d4 S f)
def HU (S:List G.V)(fs:List (G.V×Int)):(K3 S fs).Perm (G.X1 S fs):=by
 unfold K3 G.X1;induction fs with
 |nil=>exact aGp _
 |cons f fs a=>rw[aEd,aEd];exact(IS _).append a
def GK {P Q:G.V}:mE P Q=true↔G.e9 (Q-P):=by unfold mE G.e9;rw[HT.lexLt_cons,HT.lexLt_cons,HT.lexLt_cons,HT.lexLt_nil_nil];simp only[G.EQ,G.ER,G.FE];split<;>(try split)<;>(try split)<;>simp<;>lia
def UP [Tabs]{j:List G.V}(u:T9 900 j)(t:G.j5 j)(w:(c8 j).length<=23):∃es:List (G.V×G.V),YN (A2 j)=es.map u4/\(∀e∈es,mE e.1 e.2=true/\e∈K3 (c8 j) (j0 (c8 j))/\(e.2,e.1)∈K3 (c8 j) (j0 (c8 j)))/\
  (A2 j).length+(j0 (c8 j)).length=es.length+2/\(K3 (c8 j) (j0 (c8 j))).Nodup/\(K3 (c8 j) (j0 (c8 j))).length=2*es.length/\
  ∀v∈A2 j,2<G.cnt (λf=>v∈G.d4 (c8 j) f) (j0 (c8 j))/\G.cnt (λe=>v=e.1\/v=e.2) es=G.cnt (λf=>v∈G.d4 (c8 j) f) (j0 (c8 j)):=by
 classical
 obtain⟨o,ai,_⟩:=N4 u t w;have i:G.j5 (c8 j):=Z6 t λv H=>t9.mpr H;have d:=m9 j;have nd:(j0<|c8 j).Nodup:=by obtain⟨m,r,e,L⟩:=W4 u t (by lia);have FL:=F4 L (by rw[<-e];exact w);rw[<-e]at FL;exact G0 (K1 FL.2)
 have z:=mY u t w;have bo:(A2 j).Pairwise λa b=>G.e9 (b-a):=m9 _;obtain⟨I,J,A,b4,b5,b6⟩:=rS u t w;have N:(c8<|A2 j).length<=23:=by rw[A];exact b4
 obtain⟨es,O,el⟩:=OT J I N;have T:es.Nodup:=by
  have:(es.map u4).Nodup:=by rw[<-O];exact K1 XN
  exact(aBN.mp this).imp λ{a b} n e=>n (la u4 e)
 have B:=HU (c8 j) (j0<|c8 j);have C:∀P Q,(P,Q)∈es↔(P,Q)∈G.X1 (c8 j) (j0<|c8 j)/\G.e9 (Q-P):=λP Q=>by
  have m:(P,Q)∈es↔u4 (P,Q)∈YN (A2 j):=by rw[O,aAk];exact⟨λh=>⟨_,h,rfl⟩,λ⟨e,h,q⟩=>vO q▸h⟩
  constructor
  .intro h;have lt:=(el _ h).1;obtain⟨n,k,P',Q',g,E,q⟩:=(BD J I N).mp (m.mp h);rw[A]at g E;have g:=(b6 n k).mp g;have E:=G.kT i d bo z g E;have i1:=(G.Q5 i d o).mpr ⟨(n,k),g,E⟩;have s:P=lL P' Q'/\Q=lH P' Q':=by have q:=PZ q;exact⟨iJ q.1,iJ q.2⟩
   refine⟨?_,GK.mp lt⟩;rcases(LO E.ne).2 with⟨a,b⟩|⟨a,b⟩
   .rw[s.1,s.2,a,b];exact i1
   .rw[s.1,s.2,a,b];exact G.T5 i d o i1
  .rintro⟨h,lt⟩;obtain⟨f,g,E⟩:=(G.Q5 i d o).mp h;refine m.mpr ((BD J I N).mpr ⟨f.1,f.2,P,Q,by rw[A];exact(b6 _ _).mpr g,by rw[A];exact G.oT i d bo z g E,?_⟩);have s:=xw (GK.mpr lt);unfold wI;dsimp only;rw[s.1,s.2]
 refine⟨es,O,λe he=>?_,G.a0b i d o nd ai (bG _) z T C,B.nodup_iff.mpr (G.V6 i d nd λf h=>(o f).mp h),B.length_eq.trans (G.jK i d o nd T C),λv H=>⟨?_,G.xI i d o nd T C v⟩⟩
 .obtain⟨P,Q⟩:=e;have:=(C P Q).mp he;exact⟨(el _ he).1,B.mem_iff.mpr this.1,B.mem_iff.mpr (G.T5 i d o this.1)⟩
 .obtain⟨f,g,U⟩:=(z v).mp H;obtain⟨g1,g2,Y,f2,n1,n2,za,x0,x1,x2⟩:=G.S9 i d g U;have vm:=(G.c6.mp<|(g.aa2 d).aa3 U).1;have mc:∀{α:Type} {l:List α} {p:α->Prop} {x:α},x∈l->p x->x∈l.filter (λy=>decide (p y)):=λh q=>aAQ.mpr ⟨h,decide_eq_true q⟩;unfold G.cnt;refine(HF<|nd.sublist aBl).mpr ⟨f,g1,g2,?_,?_,?_,n1,n2,za⟩
  .exact mc ((o f).mpr g) U
  .exact mc ((o g1).mpr Y) (G.oE i d vm Y g f2 x1 x0 x2 n1.symm za n2)
  .exact mc ((o g2).mpr f2) (G.oE i d vm f2 g Y x2 x0 x1 n2.symm za.symm n1)
section
variable [Tabs]
def SM {j:List G.V}(a:T9 900 j)(e:G.j5 j)(g:(c8 j).length<=23):∀f∈j0 (c8 j),∀v∈A2 j,k5 [mJ f.1 f.2,vd v]=.ok (.int (G.b9 f.1 v))/\G.b9 f.1 v<=f.2:=λf b v d=>by have b:=((N4 a e g).1 f).mp b;have d:=yC a e g d;exact⟨NR (f:=f) (UG a b) (a.1 v d).mono,b.sup v (t9.mpr d)⟩
def oz {j:List G.V}(b:T9 900 j)(d:G.j5 j)(a:(c8 j).length<=23):(j0 (c8 j)).length<=12167/\∀f∈j0 (c8 j),(G.d4 (c8 j) f).length<=23:=by obtain⟨e,_,g⟩:=N4 b d a;refine⟨g,λf h=>?_⟩;have nd:=((e f).mp h).aa2 (m9 j);exact aAp (G.p8 nd.aa4 (m:=c8 j) λv i=>(G.c6.mp<|nd.aa3 i).1) a
def ZY {J:Ev->Prop}{r:R Out}{F:Ev->R Out}(I:Ev->Prop)(a:∃ρ,r=.ok (.nx ρ)/\I ρ)(b:∀ρ,I ρ->∃ρ2,F ρ=.ok (.nx ρ2)/\J ρ2):∃ρ2,B5 r F=.ok (.nx ρ2)/\J ρ2:=by obtain⟨ρ,e,i⟩:=a;rw[e];exact b ρ i
def ZJ {α:Type}{r:R α}{x:α}{F:α->R Out}{J:Ev->Prop}(a:r=.ok x)(b:∃ρ2,F x=.ok (.nx ρ2)/\J ρ2):∃ρ2,r.bind F=.ok (.nx ρ2)/\J ρ2:=by rw[a];exact b
def WS {i j:Nat}{F:Ev->R Out}{a b:D}{ρ ρ':Ev}{J:Ev->Prop}(e:(ρ.set i (.v a)).set j (.v b)=ρ')(h:∃ρ2,F ρ'=.ok (.nx ρ2)/\J ρ2):∃ρ2,K8 (bS 2 (K4 (λd ρ=>.ok (ρ.set i (.v d))) (K4 (λd ρ=>.ok (ρ.set j (.v d))) eS))) F (.tup [a,b]) ρ=.ok (.nx ρ2)/\J ρ2:=by subst e;exact h
def JV {i:Nat}{F:Ev->R Out}{d:D}{ρ ρ':Ev}{J:Ev->Prop}(e:ρ.set i (.v d)=ρ')(h:∃ρ2,F ρ'=.ok (.nx ρ2)/\J ρ2):∃ρ2,K8 (λd ρ=>.ok (ρ.set i (Sl.v d))) F d ρ=.ok (.nx ρ2)/\J ρ2:=by subst e;exact h
def yQ {α:Type}{r:R Bool}{A B:R α}(h:r=.ok false):(r.bind λt=>if t=true then A else B)=B:=by rw[h];rfl
def FY {f g:Ev->R Bool}{ρ:Ev}(a:f ρ=.ok false)(b:g ρ=.ok false):orB f g ρ=.ok false:=by unfold orB;rw[a];exact b
def bQ {α β:Type}{r:R α}{x:α}{F:α->R β}{y:R β}(a:r=.ok x)(b:F x=y):r.bind F=y:=by rw[a];exact b
def oj {α:Type}{r:R α}{x:α}{F:α->R D}{K:List D->R D}{y:R D}(a:r=.ok x)(b:((F x).bind λd=>R.ok [d]).bind K=y):(m8 (λ_=>r.bind F) M9 ([]:Ev)).bind K=y:=by unfold m8 M9;rw[a];exact b
def pk {f g:Ev->R D}{ρ:Ev}{a b:D}(d:f ρ=.ok a)(e:g ρ=.ok b):m8 f (m8 g M9) ρ=.ok [a,b]:=by unfold m8;rw[d,e];rfl
def BH {α:Type}(f:α->D)(l:List α):GQ [.lst (l.map f)]=.ok (.int (l.length:Int)):=by show R.ok (D.int ((l.map f).length:Int))=_;rw[aAi]
def mF:List D->R D:=JS λY=>qG (cnd (Y.length<=63/\M4 1048576 Y)<|.bl true)
def XD {f:Ev->R Bool}{ρ:Ev}(h:f ρ=.ok true):ZV f ρ=.ok false:=by unfold ZV;rw[h];rfl
def yG (e:G.V×G.V):L5 7 (u4 e)=true/\wB (u4 e)=true:=⟨rfl,rfl⟩
def wj {ρ:Ev}{w:List (G.V×G.V)}{e:G.V×G.V}(h:ρ[5]?=some (.d (D9 w)))(a:e∉w):VF 5 ρ (.ok (u4 e)) (.ok (.int 0))=.ok (.int 0):=by unfold VF;rw[h];dsimp only;rw[R.aa0,R.aa0];unfold YB;rw[kn (yG e),SL a]
def tq {ρ:Ev}{w:List (G.V×G.V)}{e:G.V×G.V}(h:ρ[5]?=some (.d (D9 w)))(a:e∉w)(b:w.length<=30000):nC 5 ρ (u4 e) (.int 1)=.ok (.nx (ρ.set 5 (.d (D9 (w++[e]))))):=by unfold nC;rw[h];show(if _ then _ else _)=_;rw[kn ⟨(yG e).1,(yG e).2,aAp (by rw[GF];exact b) (by decide)⟩,SY a]
def FW {ρ:Ev}{w:List (G.V×G.V)}{e:G.V×G.V}(h:ρ[5]?=some (.d (D9 w)))(a:e∈w):fT 5 ρ (u4 e)=.ok false:=by unfold fT;rw[h];show(if _ then _ else _)=_;rw[kn (yG e),decide_eq_true (by rw[iU];exact aBo a)];rfl
def uk {a:Sl}{w:List (G.V×G.V)}{e:G.V×G.V}(b:e∈w):VB 1 [a,.d (D9 w)] (u4 e)=.ok (.int 1):=by
 have:atK (D9 w) (u4 e)=some (.int 1):=by
  unfold atK;cases q:(D9 w).find? (λp=>decide (p.1=u4 e))with
  |none=>rw[aEY]at q;exact absurd (decide_eq_true rfl) (q (u4 e,.int 1)<|aAk.mpr ⟨e,b,rfl⟩)
  |some p=>obtain⟨f,_,rfl⟩:=aAk.mp (aFi q);rfl
 unfold VB;dsimp only[aCA,aCz];rw[kn (yG e),this]
def a0e {ρ:Ev}{w:List (G.V×G.V)}(h:ρ[5]?=some (.d (D9 w)))(a:w.length<=30000):UD 5 ρ=.ok (.int (w.length:Int)):=by unfold UD;rw[h];dsimp only;rw[GF,kn (aAp a (by decide))]
def ZR {ρ:Ev}{w:List (G.V×G.V)}(h:ρ[5]?=some (.d (D9 w))):ED 5 ρ=.ok (w.map u4):=by unfold ED;rw[h];dsimp only;rw[iU]
def xz {n m:Nat}(h:m=2*n)(a:n<=30000):R8 (.int 2) (.int (n:Int))=.ok (.int (m:Int)):=by
 have k:30000<2^80:=by decide
 have b:bits (n:Int)<=80:=uA (by rw[Int.natAbs_natCast];lia);rw[f8 (l7.of (show bits 2<=80 by decide) b),show(2:Int)*n=m by lia]
def UC {l:List G.V}{i:Nat}(h:i<l.length):R7 (.lst (l.map vd)) (.int ((i:Int)-1))=.ok (vd (U9 l i).1)/\R7 (.lst (l.map vd)) (.int (i:Int))=.ok (vd (U9 l i).2):=by
 have g:∀j,j<l.length->l[j]?=some (l.getD j 0):=λj a=>by rw[aAo,aAj a];rfl
 refine⟨?_,KH (g i h)⟩;unfold U9;cases i with
 |zero=>
  refine M7 ?_;have e:BU (l.map vd).length (((0:Nat):Int)-1)=some (l.length-1):=by
   unfold BU;rw[aAi,ku (by lia),kn (by lia)];congr 1
   lia
  unfold pD;rw[e,kn rfl];show(l.map vd)[l.length-1]?=_;rw[aAF,g (l.length-1) (by lia)];rfl
 |succ k=>have:=KH (g k (by lia));rw[ku (by lia),show((k+1:Nat):Int)-1=(k:Int)by lia];exact this
def SU {S:List G.V}{done gs:List (G.V×Int)}{f:G.V×Int}(a:(K3 S (done++f::gs)).Nodup){i:Nat}(h:i<(G.d4 S f).length):U9 (G.d4 S f) i∉K3 S done++(R6 (G.d4 S f)).take i/\K3 S done++(R6 (G.d4 S f)).take (i+1)=K3 S done++(R6 (G.d4 S f)).take i++[U9 (G.d4 S f) i]/\(K3 S done++(R6 (G.d4 S f)).take i).length<=(K3 S (done++f::gs)).length:=by
 have e:K3 S (done++f::gs)=K3 S done++(R6 (G.d4 S f)++K3 S gs):=by simp[K3]
 have t:(R6<|G.d4 S f).take (i+1)=(R6<|G.d4 S f).take i++[U9 (G.d4 S f) i]:=by rw[List.take_add_one];congr 1;rw[R6,aAF,aEE h];rfl
 have sub:(K3 S done++(R6<|G.d4 S f).take i++[U9 (G.d4 S f) i]).Sublist (K3 S (done++f::gs)):=by rw[e,aDI,<-t];exact List.Sublist.append_left ((aFp _ _).trans (aFx _ _)) _
 refine⟨λb=>?_,by rw[t,aDI],?_⟩
 .have:=aCl.mp (a.sublist sub);exact this.2.2 _ b _ (aAN.mpr rfl) rfl
 .exact((aFx _ _).trans sub).length_le
def zZ {α:Type}{G:D->Ev->R Ev}{ft:Ev->R Bool}{fe:Ev->R D}{ρ:Ev}(rep:α->D)(l:List α)(b:l.length<=30000)(h:∀a∈l,∃ρ1,G (rep a) ρ=.ok ρ1/\ft ρ1=.ok false):(if(l.map rep).length<=sizeLine then(u5 G ft fe ρ (l.map rep)).bind λd=>R.ok (D.lst d)else R.bad)=.ok (.lst []):=by rw[kn (aAp (by rw[aAi];exact b) (by decide)),T7 rep (λ_=>false) (λ_=>.non) l λa e=>let⟨ρ1,f,g⟩:=h a e;⟨ρ1,f,g,λz=>by cases z⟩,aEb.mpr λ_ _=>by simp];rfl
open Classical in
def zR {α:Type}{b:D->Ev->R Ev}{ft:Ev->R Bool}{fe:Ev->R D}{ρ:Ev}(rep:α->D)(p:α->Prop)(g:α->D)(l:List α)(e:l.length<=30000)(h:∀a∈l,∃ρ1,b (rep a) ρ=.ok ρ1/\ft ρ1=.ok (decide (p a))/\fe ρ1=.ok (g a)):((if(l.map rep).length<=sizeLine then(u5 b ft fe ρ (l.map rep)).bind λf=>R.ok (D.lst f)else R.bad).bind λd=>R.ok [d]).bind GQ=.ok (.int (G.cnt p l:Int)):=by rw[kn (aAp (by rw[aAi];exact e) (by decide)),T7 rep (λa=>decide (p a)) g l λa i=>let⟨ρ1,j,k,m⟩:=h a i;⟨ρ1,j,k,λ_=>m⟩];show R.ok (D.int _)=_;rw[aAi];rfl
open Classical in
def KU (v:G.V)(l:List G.V):OZ (vd v) (l.map vd)=@decide (v∈l) (propDecidable _):=by
 by_cases h:v∈l
 .rw[@decide_eq_true _ (propDecidable _) h];exact aDg.mpr ⟨_,aBo h,M1 _⟩
 .rw[@decide_eq_false _ (propDecidable _) h];cases q:OZ (vd v) (l.map vd)with
  |false=>rfl
  |true=>obtain⟨x,a,e⟩:=aDg.mp q;obtain⟨w,b,rfl⟩:=aAk.mp a;have:=W9 (by simp[lA,bX]) (by simp[lA,bX]) e;exact absurd (iJ this▸b) h
open Classical in
def lq (v:G.V)(e:G.V×G.V):UN (vd v) (u4 e)=.ok (.bl (@decide (v=e.1\/v=e.2) (propDecidable _))):=by
 have:OZ (vd v) ([e.1,e.2].map vd)=@decide (v=e.1\/v=e.2) (propDecidable _):=by rw[KU];exact decide_eq_decide.mpr (by simp)
 unfold UN;dsimp only;rw[kn ⟨by simp[A7,w8],by simp[A7,w8]⟩];exact la (λb=>R.ok (D.bl b)) this
open Classical in
def a1q (v:G.V)(l:List G.V):inR false (vd v) (.lst (l.map vd))=.ok (.bl (@decide (v∈l) (propDecidable _))):=by have d:=zK l;show(if _ then R.ok (D.bl<|OZ (vd v) (l.map vd) !=false)else _)=_;rw[kn ⟨by lia,by simp[A7,w8]⟩,KU,Bool.bne_false]
def a2q (P Q:G.V):ZA (vd P) (vd Q)=.ok (.bl (mE P Q)):=kn ⟨rfl,rfl⟩
end
end M
namespace K23
open PySem L2 DL M
def top (i:Nat):dC:=PySem.Challenge.pw_stakebodies_k23_whole_rings_edges_faces.main.body.getD i (.Pass ⟨0,0,0,0⟩)
abbrev Y4:dC:=top 5
abbrev qJ:List Str:=["P", "Q"]
def oQ:FnScope qJ ["P", "Q"] (c9 Y4):=I0
abbrev fF:dC:=top 6
abbrev AU:List Str:=["u", "v"]
def xU:FnScope AU ["u", "v"] (c9 fF):=I0
abbrev bM:dC:=top 7
abbrev wE:List Str:=["u", "v"]
def qS:FnScope wE ["u", "v"] (c9 bM):=I0
abbrev N7:dC:=top 8
abbrev jO:List Str:=["numbers", "divisor", "number", "rest", "further"]
def gJ:FnScope jO ["numbers"] (c9 N7):=I0
abbrev R4:dC:=top 9
abbrev lI:List Str:=["P", "Q", "R", "cross", "divisor", "upright"]
def iL:FnScope lI ["P", "Q", "R"] (c9 R4):=I0
abbrev iW:dC:=top 10
abbrev JI:List Str:=["plane", "P", "height"]
def DB:FnScope JI ["plane", "P"] (c9 iW):=I0
abbrev O7:dC:=top 13
abbrev kB:List Str:=["ways", "way"]
def iG:FnScope kB ["ways"] (c9 O7):=I0
abbrev B7:dC:=top 14
abbrev L8:List Str:=["points", "ways", "along", "upright"]
def lQ:FnScope L8 ["points"] (c9 B7):=I0
abbrev Y5:dC:=top 15
abbrev qU:List Str:=["points"]
def mV:FnScope qU ["points"] (c9 Y5):=I0
abbrev W7:dC:=top 16
abbrev kW:List Str:=["plane", "points"]
def uX:FnScope kW ["plane", "points"] (c9 W7):=I0
abbrev X5:dC:=top 17
abbrev qY:List Str:=["pair", "points", "along", "upright", "outermost", "P", "way"]
def pL:FnScope qY ["pair", "points"] (c9 X5):=I0
abbrev bE:dC:=top 18
abbrev wC:List Str:=["points", "least", "upward", "touched"]
def qR:FnScope wC ["points"] (c9 bE):=I0
abbrev jC:dC:=top 19
abbrev JL:List Str:=["upright", "P", "Q", "R"]
def BW:FnScope JL ["upright", "P", "Q", "R"] (c9 jC):=I0
abbrev bI:dC:=top 20
abbrev vY:List Str:=["upright", "points", "chain", "P"]
def qK:FnScope vY ["upright", "points"] (c9 bI):=I0
abbrev jL:dC:=top 21
abbrev HZ:List Str:=["upright", "points", "there", "back"]
def BN:FnScope HZ ["upright", "points"] (c9 jL):=I0
abbrev Y3:dC:=top 22
abbrev qV:List Str:=["ring"]
def oV:FnScope qV ["ring"] (c9 Y3):=I0
abbrev aW:dC:=top 23
abbrev vU:List Str:=["first", "about", "touched_by", "faces", "walked", "waiting", "pair", "plane", "ring", "step"]
def eV:FnScope vU ["first", "about", "touched_by"] (c9 aW):=I0
abbrev J5:dC:=top 24
abbrev gA:List Str:=["points", "spread", "about", "touched_by"]
def kI:FnScope gA ["points"] (c9 J5):=I0
abbrev bC:dC:=top 25
abbrev uD:List Str:=["faces", "corners", "plane", "ring"]
def qZ:FnScope uD ["faces"] (c9 bC):=I0
abbrev jI:dC:=top 26
abbrev IK:List Str:=["points"]
def CU:FnScope IK ["points"] (c9 jI):=I0
abbrev bB:dC:=top 28
abbrev nQ:List Str:=["land", "edges", "plane", "ring"]
def xJ:FnScope nQ ["land"] (c9 bB):=I0
abbrev cN:dC:=top 30
abbrev yD:List Str:=["script", "k"]
def uZ:FnScope yD ["script", "k"] (c9 cN):=I0
abbrev fZ:dC:=top 31
abbrev AM:List Str:=["one", "other"]
def xK:FnScope AM ["one", "other"] (c9 fZ):=I0
abbrev aZ:dC:=top 32
abbrev uE:List Str:=["u", "v"]
def qO:FnScope uE ["u", "v"] (c9 aZ):=I0
abbrev V0:dC:=top 33
abbrev nG:List Str:=["u", "v"]
def lJ:FnScope nG ["u", "v"] (c9 V0):=I0
abbrev aU:dC:=top 34
abbrev uP:List Str:=["total", "way", "wide", "stir", "found", "k"]
def qT:FnScope uP ["total", "way"] (c9 aU):=I0
abbrev J0:dC:=top 35
abbrev X6:List Str:=["script", "most", "many", "totals", "k", "cell"]
def oP:FnScope X6 ["script", "most"] (c9 J0):=I0
abbrev M5:dC:=top 36
abbrev aY:List Str:=["points", "ways", "u", "v", "crossed", "x", "y", "z"]
def qP:FnScope aY ["points"] (c9 M5):=I0
abbrev P6:dC:=top 37
abbrev eN:List Str:=["cell", "slants", "far"]
def nD:FnScope eN ["cell"] (c9 P6):=I0
abbrev V1:dC:=top 38
abbrev qD:List Str:=["point", "slants", "x", "y", "z"]
def lR:FnScope qD ["point", "slants"] (c9 V1):=I0
abbrev W5:dC:=top 39
abbrev kZ:List Str:=["script", "most", "points", "cell"]
def wD:FnScope kZ ["script", "most"] (c9 W5):=I0
abbrev aH:dC:=top 44
abbrev yX:List Str:=["script", "points", "land", "faces", "edges", "ways", "plane", "ring", "k", "way", "one", "two", "corner", "many", "rings"]
def KE:FnScope yX ["script"] (c9 aH):=I0
def cO:dC:=(t5 J5).getD 2 (.Pass ⟨0,0,0,0⟩)
abbrev EX:Str:= "faces_of.<locals>.about"
def G7:dC:=(t5 J5).getD 3 (.Pass ⟨0,0,0,0⟩)
abbrev gO:Str:= "faces_of.<locals>.touched_by"
def tbK:List (Pos×Str):=[(EW cO,EX),(EW G7,gO)]
section
variable [Tabs]
variable{P:cu} {w:cz} {K:lb} {mg:cE} {base:de}
def o6 (g:fD K mg "way_between" Y4):x5 P w K mg base 1 "way_between" 2 m6:=by
 refine' n6 (k:=0) (F:=_) g oQ (λf i j l=>?b) λe d m h=>?_
 case b=>refine' (d7<|j1<|IW (c7 u6 (PD.pb<|i8 (b8 1) d6)<|PD.pb<|i8 (b8 0) d6) (c7 u6 (PD.pb<|i8 (b8 1) d6)<|PD.pb<|i8 (b8 0) d6)<|c7 u6 (PD.pb<|i8 (b8 1) d6)<|PD.pb<|i8 (b8 0) d6)
 replace h:=F8 h;obtain⟨a,b,c,e,rfl,h⟩:=h;replace h:=F8 h;obtain⟨n,o,p,e,rfl,h⟩:=h;replace h:=D7 h;obtain⟨rfl,h⟩:=h;exact h
def D1 (g:fD K mg "cross_of" fF):x5 P w K mg base 1 "cross_of" 2 w9:=by
 refine' n6 (k:=0) (F:=_) g xU (λp q r s=>?b) λe d t h=>?_
 case b=>refine' (d7<|j1<|IW (c7 u6 (PD.pb<|c7 l8 (PD.pb<|i8 (b8 0) d6)<|PD.pb<|i8 (b8 1) d6)<|PD.pb<|c7 l8 (PD.pb<|i8 (b8 0) d6)<|PD.pb<|i8 (b8 1) d6) (c7 u6 (PD.pb<|c7 l8 (PD.pb<|i8 (b8 0) d6)<|PD.pb<|i8 (b8 1) d6)<|PD.pb<|c7 l8 (PD.pb<|i8 (b8 0) d6)<|PD.pb<|i8 (b8 1) d6)<|c7 u6 (PD.pb<|c7 l8 (PD.pb<|i8 (b8 0) d6)<|PD.pb<|i8 (b8 1) d6)<|PD.pb<|c7 l8 (PD.pb<|i8 (b8 0) d6)<|PD.pb<|i8 (b8 1) d6)
 replace h:=F8 h;obtain⟨a,b,c,e,rfl,h⟩:=h;replace h:=F8 h;obtain⟨u,v,x,e,rfl,h⟩:=h;replace h:=D7 h;obtain⟨rfl,h⟩:=h;split at h
 .rename_i o;obtain⟨⟨f,i,j⟩,l,m,n⟩:=o;rw[<-h];simp[j6,f8 (l7.of i n),f8 (l7.of j m),f8 (l7.of j l),f8 (l7.of f n),f8 (l7.of f m),f8 (l7.of i l)]
 .cases h
def y6 (g:fD K mg "product_of" bM):x5 P w K mg base 1 "product_of" 2 k5:=by
 refine' n6 (k:=0) (F:=_) g qS (λp q r s=>?b) λe d u h=>?_
 case b=>refine' (d7<|j1<|c7 p5 (PD.pb<|c7 p5 (PD.pb<|c7 l8 (PD.pb<|i8 (b8 0) d6)<|PD.pb<|i8 (b8 1) d6)<|PD.pb<|c7 l8 (PD.pb<|i8 (b8 0) d6)<|PD.pb<|i8 (b8 1) d6)<|PD.pb<|c7 l8 (PD.pb<|i8 (b8 0) d6)<|PD.pb<|i8 (b8 1) d6)
 replace h:=VT h;obtain⟨a,b,c,t,e,rfl,h⟩:=h;replace h:=F8 h;obtain⟨v,x,y,e,rfl,h⟩:=h;replace h:=D7 h;obtain⟨rfl,h⟩:=h;split at h
 .rename_i f;obtain⟨⟨i,j,l⟩,m,n,o⟩:=f;rw[<-h];simp[j6,VZ,WN,WC,f8 (l7.of i m),f8 (l7.of j n),f8 (l7.of l o)]
 .cases h
def O8 (s:mg "abs"=none)(g:fD K mg "common_divisor" N7):x5 P w K mg base 1 "common_divisor" 1 G2:=by
 refine' n6 (k:=0) (F:=_) g gJ (λJ y L i=>?b) λu d N h=>?_
 case b=>
  refine' (c5 (j2 1 d6 i)
   (c5 (C7 aBa rfl (RE<|d5 0) (k8 2 i) (c5 (j2 3 (GV bq<|b8 2) i)
   (d7 (jM (uq 3) aBa (k9 (bU y) (b8 3) B1) (c5 (j2 4 (c7 A4 (b8 1)<|b8 3) i)
   (c5 (j2 1 (d5 3) i)
   (d7<|j2 3 (d5 4) i)))))))
   (d7<|j1<|d5 1)))
 replace h:=F8 h;obtain⟨a,b,c,u,rfl,h⟩:=h;replace h:=D7 h;obtain⟨rfl,h⟩:=h;rw[<-h];simp only[j6,aAv,aGa,aBr,aEH];simp only[eJ,ak,R.aa0,IX,C0,aAt,aBL,Nat.reduceAdd,Nat.reduceSub,List.replicate_succ,List.replicate_zero,aCQ,aCR];refine Z1 (λrest ρ=>∃(g:Nat) (n r f:Sl),ρ=[.v (.tup [.int a,.int b,.int c]),.v (.int g),n,r,f]/\∃e:List Int,rest=e.map D.int/\e.foldl (λg n=>Nat.gcd g n.natAbs) g=G.x6 ⟨a,b,c⟩) ?_ ⟨0,_,_,_,rfl,[a,b,c],rfl,by simp[G.x6]⟩ ?_
 .rintro d u ρ ⟨g,n,r,f,rfl,e,l,j⟩;match e,l,j with
  |x::e,l,j=>
   injection l with A B;subst A B;simp only[fP,aCQ,aCR,xM,GD,yO,WL,R.aa0,cw,C0];have C:(if x<0 then-x else x)=(x.natAbs:Int):=by split<;>lia
   rw[C];refine yN (λm ρ=>∃(p q:Nat) (f:Sl),ρ=[.v (.tup [.int a,.int b,.int c]),.v (.int p),.v (.int x),.v (.int q),f]/\q<m/\Nat.gcd p q=Nat.gcd g x.natAbs) ?_ (by rintro ρ ⟨p,q,f,_,h,_⟩;lia) ⟨g,x.natAbs,f,rfl,by show x.natAbs<((x.natAbs:Int).natAbs)+2;lia,rfl⟩ ?_
   .rintro m ρ ⟨p,q,f,rfl,E,t⟩;by_cases o:(q:Int)=0
    .exact .inl (by simp[o])
    .have H:q≠0:=by lia
     refine .inr ⟨by simp[H],_,?_,q,p%q,Sl.v (.int ((p%q:Nat):Int)),rfl,?_,?_⟩
     .have em:W2 (.int (p:Int)) (.int (q:Int))=.ok (.int ((p%q:Nat):Int)):=by rw[xW o,aET _ (by lia)];rfl
      simp[em]
     .have:=aEe p (show 0<q by lia)
      lia
     .rw[Nat.gcd_comm,<-Nat.gcd_rec,Nat.gcd_comm];exact t
   .rintro m ρ ⟨p,q,f,rfl,E,t⟩ I;have o:q=0:=by
     by_cases z:q=0
     .exact z
     .simp[z]at I
    subst o;refine⟨p,_,_,_,rfl,e,rfl,?_⟩;rw[<-j,aFT,<-t,Nat.gcd_zero_right]
 .rintro ρ ⟨g,n,r,f,rfl,e,l,j⟩;have:e=[]:=by simpa using l.symm
  subst this;simp at j;simp[j]
def R5 (D1:x5 P w K mg base 1 "cross_of" 2 w9)(o6:x5 P w K mg base 1 "way_between" 2 m6)(O8:x5 P w K mg base 1 "common_divisor" 1 G2)(y6:x5 P w K mg base 1 "product_of" 2 k5)(g:fD K mg "plane_through" R4):x5 P w K mg base 2 "plane_through" 3 R9:=by
 refine' n6 (k:=1) (F:=_) g iL (λl Y dc s=>?b) λA d hl h=>?_
 case b=>
  refine' (c5 (j2 3 (dN D1 l (dN o6 l (d5 0)<|d5 1)<|dN o6 l (d5 0)<|d5 2) s)
   (c5 (j2 4 (yZ O8 l<|d5 3) s)
   (c5 (x9 (k9 (eT Y) (b8 4) B1) (d7 iP) n4)
   (c5 (j2 5 (IW (c7 A1 (PD.pb<|i8 (b8 3) d6)<|b8 4) (c7 A1 (PD.pb<|i8 (b8 3) d6)<|b8 4)<|c7 A1 (PD.pb<|i8 (b8 3) d6)<|b8 4) s)
   (d7<|j1<|BY<|i9 (i8 (b8 5) d6)<|i9 (i8 (b8 5) d6)<|i9 (i8 (b8 5) d6)<|i9 (dN y6 l (d5 5)<|d5 0) o7)))))
 replace h:=F8 h;obtain⟨a,b,c,A,rfl,h⟩:=h;replace h:=F8 h;obtain⟨d,e,f,A,rfl,h⟩:=h;replace h:=F8 h;obtain⟨g,J,i,A,rfl,h⟩:=h;replace h:=D7 h;obtain⟨rfl,h⟩:=h
 .skip
  split at h
  .rename_i hz;obtain⟨⟨p,q,r⟩,n⟩:=hz;rw[<-h];obtain⟨P,B⟩:∃P:G.V,P=⟨a,b,c⟩:=⟨_,rfl⟩;obtain⟨Q,E⟩:∃P:G.V,P=⟨d,e,f⟩:=⟨_,rfl⟩;obtain⟨j,H⟩:∃P:G.V,P=⟨g,J,i⟩:=⟨_,rfl⟩;rw[<-B]at p n;rw[<-E]at q n;rw[<-H]at r n;have vP:(.tup [.int a,.int b,.int c]:D)=vd P:=by rw[B]
   have vQ:(.tup [.int d,.int e,.int f]:D)=vd Q:=by rw[E]
   have vR:(.tup [.int g,.int J,.int i]:D)=vd j:=by rw[H]
   rw[vP,vQ,vR,<-B,<-E,<-H];have o:=(q.sub p).cr (r.sub p);have c1:=cA (u:=Q-P) (v:=j-P) (q.sub p).mono (r.sub p).mono;obtain⟨L,g1,g2⟩:=G.jB n;have m:((G.x6 (G.cr (Q-P)<|j-P):Nat):Int)≠0:=by lia
   have gb:xP ((G.x6 (G.cr (Q-P)<|j-P):Nat):Int):=⟨m,w5 (GM o)⟩;have dv:=BE (G.cr (Q-P)<|j-P);have pl:G.j4 P Q j=(G.kF (G.cr (Q-P)<|j-P) (G.x6<|G.cr (Q-P)<|j-P),G.b9 (G.kF (G.cr (Q-P)<|j-P)<|G.x6<|G.cr (Q-P)<|j-P) P):=rfl;rw[pl];generalize hC:G.cr (Q-P) (j-P)=C at*
   have sn:Sz 2003 (G.kF C<|G.x6 C):=by have N:=bits_fdiv (b:=(G.x6 C:Int)) o.1;have O:=bits_fdiv (b:=(G.x6 C:Int)) o.2.1;have T:=bits_fdiv (b:=(G.x6 C:Int)) o.2.2;rw[nA L]at N O T;exact⟨N,O,T⟩
   have d1:∀t:Int,Q4 (.int t) (.int (G.x6 C:Nat))=.ok (.int (t/(G.x6 C:Nat))):=λt=>by rw[aJ gb,nA L]
   have U:=iE (u:=G.kF C (G.x6 C)) (v:=P) sn.mono p.mono;have e0:(((G.x6 C:Nat):Int)==0)=false:=by simpa using m
   simp only[G.kF]at U;have I:k5 [.tup [.int (C.x/(G.x6 C:Nat)),.int (C.y/(G.x6 C:Nat)),.int (C.z/(G.x6 C:Nat))],vd P]=_:=U;simp[j6,c1,dv,e0,d1,I,G.kF]
  .cases h
def iK (g:fD K mg "side_of" iW):x5 P w K mg base 1 "side_of" 2 Z4:=by
 refine' n6 (k:=0) (F:=_) g DB (λv A B s=>?b) λq d C h=>?_
 case b=>
  refine' (c5 (j2 2 (c7 u6 (PD.pb<|c7 p5 (PD.pb<|c7 p5 (PD.pb<|c7 l8 (PD.pb<|i8 (b8 0) d6)<|PD.pb<|i8 (b8 1) d6)<|PD.pb<|c7 l8 (PD.pb<|i8 (b8 0) d6)<|PD.pb<|i8 (b8 1) d6)<|PD.pb<|c7 l8 (PD.pb<|i8 (b8 0) d6)<|PD.pb<|i8 (b8 1) d6)<|PD.pb<|i8 (b8 0) d6) s)
   (c5 (x9 (k9 yW (b8 2) B1) (d7<|j1 d6) n4)
   (c5 (x9 (k9 FP (b8 2) B1) (d7<|j1<|pN d6) n4)
   (d7<|j1 d6))))
 replace h:=VY h;obtain⟨a,b,c,d,q,rfl,h⟩:=h;replace h:=F8 h;obtain⟨x,y,z,q,rfl,h⟩:=h;replace h:=D7 h;obtain⟨rfl,h⟩:=h
 .skip
  split at h
  .rename_i u;obtain⟨⟨e,f,i⟩,j,l,m⟩:=u;rw[<-h];obtain⟨t,r⟩:∃t,a*x+b*y+c*z-d=t:=⟨_,rfl⟩;have o:OM (.int (a*x+b*y+c*z)) (.int d)=.ok (.int t):=by rw[<-r];rfl
   rw[r];unfold sgn;by_cases p:0<t
   .simp[-vN,j6,f8 (l7.of e j),f8 (l7.of f l),f8 (l7.of i m),p,o]
   .by_cases n:t<0
    .simp[-vN,j6,f8 (l7.of e j),f8 (l7.of f l),f8 (l7.of i m),p,n,o]
    .simp[-vN,j6,f8 (l7.of e j),f8 (l7.of f l),f8 (l7.of i m),p,n,o]
  .cases h
def G3 (j:LN K mg "NO_WAY" [0,0,0])(g:fD K mg "first_real_way" O7):x5 P w K mg base 1 "first_real_way" 1 z7:=by
 refine' n6 (k:=0) (F:=_) g iG (λp l q m=>?b) λn d r h=>?_
 case b=>
  refine' (c5 (C7 aBa rfl (n8<|d5 0) (k8 1 m)<|d7<|x9 (k9 (bU l) (b8 1)<|PD.pb<|uR j) (d7<|j1<|d5 1) n4)
   (d7<|j1 CI))
 match n,h with
 |[.lst Y],h=>
  simp only[z7]at h;split at h
  .rename_i f i;rw[o9 i];rw[<-h];simp[j6];generalize Sl.v (D.lst<|aDv vd f)=a;generalize Sl.no=b;clear h i;induction f generalizing b with
   |nil=>rfl
   |cons v f o=>
    rw[aAv,G.A6];by_cases e:v=0
    .rw[M0 (ρ2:=[a,.v (vd v)]) rfl (by simp[-jY,ne0,e]),o];simp[e]
    .rw[gH (x:=vd v) rfl (by simp[-jY,ne0,e])];simp[e,CV]
  .cases h
def F3 (o6:x5 P w K mg base 1 "way_between" 2 m6)(G3:x5 P w K mg base 1 "first_real_way" 1 z7)(D1:x5 P w K mg base 1 "cross_of" 2 w9)(y6:x5 P w K mg base 1 "product_of" 2 k5)(ic:mg "len"=none)(L:mg "any"=none)(g:fD K mg "dimension_of" B7):x5 P w K mg base 2 "dimension_of" 1 B9:=by
 refine' n6 (k:=1) (F:=_) g lQ (λz hu dc O=>?b) λo d hl h=>?_
 case b=>
  refine' (c5 (x9 (k9 (eT hu) (PD.pb<|GV U5<|b8 0) B1) (d7 iP) n4)
   (c5 (oH 1 ["P"] ["points"] [0] O rfl (J6 (sc:=c9 B7) (N:=L8)) (n8<|d5 0) (RL λ_ _ _ _ _=>(dN o6 z (i8 (b8 1) d6)<|d5 0))<|λ_=>t6)
   (c5 (j2 2 (yZ G3 z<|d5 1) O)
   (c5 (x9 (k9 PP (b8 2)<|PD.pb CI) (d7<|j1 d6) n4)
   (c5 (j2 3 (yZ G3 z<|P1 ["way"] ["along"] [2] rfl (J6 (sc:=c9 B7) (N:=L8)) (n8<|d5 1) (RL λ_ _ _ _ _=>(dN D1 z (d5 1)<|d5 0))<|λ_=>t6) O)
   (c5 (x9 (k9 PP (b8 3)<|PD.pb CI) (d7<|j1 d6) n4)
   (c5 (x9 (QN<|GV (cj rfl)<|PD.pb<|P1 ["way"] ["upright"] [3] rfl (J6 (sc:=c9 B7) (N:=L8)) (n8<|d5 1) (RL λ_ _ _ _ _=>(ZH (bU hu) (PD.pb<|dN y6 z (d5 1)<|d5 0) B1))<|λ_=>t6) (d7<|j1 d6) n4)
   (d7<|j1 d6))))))))
 match o,h with
 |[.lst Y],h=>
  simp only[B9]at h;split at h
  .rename_i j l;rw[o9 l];split at h
   .rename_i hz;rw[<-h];obtain⟨ai,E⟩:=hz;match j,ai with
    |p::r,_=>
    obtain⟨a,e⟩:∃a,(p::r).map vd=a:=⟨_,rfl⟩;have i0:R7 (.lst a) (.int 0)=.ok (vd p):=M7 (by rw[Y7 (by decide),<-e];rfl);have H:u5 (λd ρ=>R.ok (aCP ρ 0<|Sl.v d)) (λx=>R.ok true) (λρ=>(((qI 1 ρ).bind λx=>R7 x (D.int 0)).bind λd=>((U1 0 ρ).bind λd=>R.ok [d]).bind λo=>R.ok (d::o)).bind m6) [.no,.v (.lst a)] a=.ok (((p::r).map (· -p)).map vd):=by rw[aBK];rw[show u5 _ _ _ _ a=u5 _ _ _ _ ((p::r).map vd)by rw[e]];refine L4 vd _ _ λq m=>⟨[.v (vd q),Sl.v (.lst a)],rfl,?_⟩;show((R7 (.lst a)<|.int 0).bind _).bind _=_;rw[i0];rfl
    have l:∀w∈(p::r).map (· -p),Sz 1001 w:=λw l=>by obtain⟨q,m,rfl⟩:=aAk.mp l;exact(E.1 q m).sub (E.1 p (.head _))
    have I:(((p::r).map (· -p)).map vd).length<=sizeLine:=by rw[aAi,aAi];exact small E.2
    have J:a.length<=sizeLine:=by rw[<-e,aAi];exact small E.2
    have f:((a.length:Int)==0)=false:=by rw[<-e];simp;lia
    have t:=AV ((p::r).map (· -p));unfold G.T0;dsimp only;rw[e];generalize(p::r).map (· -p)=W at*
    have n:=λu=>AV (W.map<|G.cr u);cases Q:G.A6 W with
    |none=>rw[Q]at t;simp[j6,f9,J,f,H,t,CV,PR]
    |some s=>
     rw[Q]at t;obtain⟨hm,_⟩:=G.t8 Q;have A:=l s hm;have B:u5 (λd ρ=>R.ok (aCP ρ 0<|Sl.v d)) (λx=>R.ok true) (λρ=>((U1 1 ρ).bind λd=>((U1 0 ρ).bind λd=>R.ok [d]).bind λo=>R.ok (d::o)).bind w9) [.no,.v (vd s)] (W.map vd)=.ok ((W.map<|G.cr s).map vd):=by rw[aBK];refine L4 vd _ _ λq m=>⟨[.v (vd q),Sl.v (vd s)],rfl,?_⟩;show w9 [vd s,vd q]=_;exact cA A.mono (l q m).mono
     have n:=AV (W.map<|G.cr s);have eW:(W.map vd).length=W.length:=aAi ..;rw[eW]at I;cases C:G.A6 (W.map<|G.cr s)with
     |none=>rw[C]at n;simp only[aBK]at B n;simp only[C];simp[j6,f9,J,f,H,t,CV,PR,I,B,n]
     |some i=>
      rw[C]at n;obtain⟨ju,_⟩:=G.t8 C;have T:Sz 2003 i:=by obtain⟨q,m,rfl⟩:=aAk.mp ju;exact(A.cr<|l q m).mono
      have U:u5 (λd ρ=>R.ok (aCP ρ 0<|Sl.v d)) (λx=>R.ok true) (λρ=>(((U1 1 ρ).bind λd=>((U1 0 ρ).bind λd=>R.ok [d]).bind λo=>R.ok (d::o)).bind k5).bind λx=>AF x (D.int 0)) [.no,.v (vd i)] (W.map vd)=.ok ((W.map λw=>decide (G.b9 i w≠0)).map D.bl):=by rw[aBK];refine L4 vd _ _ λq m=>⟨[.v (vd q),Sl.v (vd i)],rfl,?_⟩;show(k5 [vd i,vd q]).bind _=_;rw[iE T.mono (l q m).mono,R.aa0,OI];congr 2;rw[aDE];simp
      have y:=aw (W.map λw=>decide (G.b9 i w≠0));have ean:(W.map λw=>decide (G.b9 i w≠0)).any id=W.any λw=>decide (G.b9 i w≠0):=by rw[List.any_map];rfl
      rw[ean]at y;simp only[aBK]at B n U y;simp only[C];generalize(λw=>decide (G.b9 i w≠0))=Bf at*
      cases hc:W.any Bf with
      |false=>rw[hc]at y;simp[j6,f9,J,f,H,t,CV,PR,I,B,n,U,y]
      |true=>rw[hc]at y;simp[j6,f9,J,f,H,t,CV,PR,I,B,n,U,y]
   .cases h
  .cases h
def X9 (F3:x5 P w K mg base 2 "dimension_of" 1 B9)(g:fD K mg "refuse_flat" Y5):x5 P w K mg base 3 "refuse_flat" 1 D6:=by
 refine' n6 (k:=2) (F:=_) g mV (λf p q r=>?b) λi d s h=>?_
 case b=>refine' (d7<|x9 (k9 FP (PD.pb<|yZ F3 f<|d5 0) B1) (d7 iP) n4)
 match i,h with
 |[.lst Y],h=>
  simp only[D6]at h;split at h
  .rename_i j l;rw[o9 l];split at h
   .rename_i m;rw[<-h];obtain⟨n,a⟩:=m;have o:j≠[]:=λe=>by subst e;cases a
    have e:=QE o n;rw[a]at e;simp[j6,e]
   .cases h
  .cases h
def F1 (iK:x5 P w K mg base 1 "side_of" 2 Z4)(g:fD K mg "points_on" W7):x5 P w K mg base 2 "points_on" 2 y9:=by
 refine' n6 (k:=1) (F:=_) g uX (λl m p q=>?b) λf d r h=>?_
 case b=>refine' (d7<|j1<|P1 ["P"] ["plane"] [0] rfl (J6 (sc:=c9 W7) (N:=kW)) (n8<|d5 1) (hxt λ_ _ _ _ _=>⟨(k9 (eT m) (PD.pb<|dN iK l (d5 1)<|d5 0) B1),(d5 0)⟩)<|λ_=>t6)
 replace h:=VY h;obtain⟨a,b,c,d,f,rfl,h⟩:=h;replace h:=pF h;obtain⟨Y,f,rfl,h⟩:=h;replace h:=D7 h;obtain⟨rfl,h⟩:=h
 .skip
  split at h
  .rename_i j n;rw[o9 n];split at h
   .rename_i i;rw[<-h];have e:=T7 vd (G:=λd ρ=>R.ok (aCP ρ 0<|Sl.v d)) (ft:=λρ=>((((U1 1 ρ).bind λd=>((U1 0 ρ).bind λd=>R.ok [d]).bind λf=>R.ok (d::f)).bind Z4).bind λx=>WU x (D.int 0)).bind EY) (fe:=U1 0) (ρ:=[.no,.v (.tup [D.int a,D.int b,D.int c,D.int d])])
     (λX=>decide (G.b9 ⟨a,b,c⟩ X=d)) vd j λP o=>⟨[.v (vd P),Sl.v (D.tup [D.int a,D.int b,D.int c,D.int d])],rfl,by simp[SF i.1.mono (i.2.1 P o).mono,a2f,G.b9];exact decide_eq_decide.mpr (by lia),λ_=>rfl⟩
    simp[j6,f9,small i.2.2,e];rfl
   .cases h
  .cases h
def G8 (o6:x5 P w K mg base 1 "way_between" 2 m6)(y6:x5 P w K mg base 1 "product_of" 2 k5)(D1:x5 P w K mg base 1 "cross_of" 2 w9)(R5:x5 P w K mg base 2 "plane_through" 3 R9)(T:LN K mg "NO_WAY" [0,0,0])(g:fD K mg "plane_about" X5):x5 P w K mg base 3 "plane_about" 2 D3:=by
 refine' n6 (k:=2) (F:=_) g pL (λs hu dc q=>?b) λJ d hl h=>?_
 case b=>
  refine' (c5 (j2 2 (dN o6 s (i8 (b8 0) d6)<|i8 (b8 0) d6) q)
   (c5 (j2 3 (uR T) q)
   (c5 (j2 4 (i8 (b8 0) d6) q)
   (c5 (C7 aBa rfl (n8<|d5 1) (k8 5 q) (c5 (j2 6 (dN o6 s (i8 (b8 0) d6)<|d5 5) q)
   (d7 (x9 (FS.pt<|pV (k9 (eT hu) (b8 3)<|PD.pb<|uR T)<|lV<|k9 yW (PD.pb<|dN y6 s (d5 3)<|d5 6) B1) (c5 (j2 3 (dN D1 s (d5 2)<|d5 6) q)
   (d7<|j2 4 (d5 5) q)) n4))))
   (d7<|j1<|pc3 R5 s (i8 (b8 0) d6) (i8 (b8 0) d6)<|d5 4)))))
 replace h:=uM h;obtain⟨U,J,rfl,h⟩:=h;replace h:=pF h;obtain⟨Y,J,rfl,h⟩:=h;replace h:=D7 h;obtain⟨rfl,h⟩:=h;replace h:=F8 h;obtain⟨a,b,c,U,rfl,h⟩:=h;replace h:=F8 h;obtain⟨d,e,f,U,rfl,h⟩:=h;replace h:=D7 h;obtain⟨rfl,h⟩:=h
 .skip
  split at h
  .rename_i j hw;rw[o9 hw];split at h
   .rename_i hz;rw[<-h];obtain⟨r,H,hs,L⟩:=hz;have vA:(.tup [.int a,.int b,.int c]:D)=vd ⟨a,b,c⟩:=rfl;have vB:(.tup [.int d,.int e,.int f]:D)=vd ⟨d,e,f⟩:=rfl;rw[vA,vB];generalize(⟨a,b,c⟩:G.V)=A at*
    generalize(⟨d,e,f⟩:G.V)=B at*
    simp[j6];have z0:(.tup [.int 0,.int 0,.int 0]:D)=vd 0:=rfl;rw[z0];refine Z1 (λrest ρ=>∃(l i:G.V) (m:List G.V) (x y:Sl),ρ=[.v (.tup [vd A,vd B]),.v (.lst (aDv vd j)),.v (vd<|B-A),.v (vd l),.v (vd i),x,y]/\rest=m.map vd/\Sz 2003 l/\Sz 1000 i/\(∀X∈m,Sz 1000 X)/\G.E6 (B-A) A m l i=G.E6 (B-A) A j 0 A) ?_ ⟨0,A,j,_,_,rfl,rfl,⟨by decide,by decide,by decide⟩,r,hs.1,rfl⟩ ?_
    .rintro d J ρ ⟨l,i,m,x,y,rfl,t,N,O,C,n⟩;match m,t with
     |P::m,t=>
      injection t with e3 e4;subst e3 e4;have Q:=C P (.head _);have I:=Q.sub r;have e0:=eq0 l;rw[show(.tup [.int 0,.int 0,.int 0]:D)=vd 0 from rfl]at e0;have c1:=cA (u:=B-A) (v:=P-A) (H.sub r).mono I.mono;have p1:=iE (u:=l) (v:=P-A) N.mono I.mono;have w1:=XQ A P;have i0:R7 (.tup [vd A,vd B]) (.int 0)=.ok (vd A):=rfl
      conv at n=>lhs;unfold G.E6
      simp only[fP,aCQ,aCR,yO,WL,kU,eJ,R.aa0,i0,w1,C0,e0,DP,p1,pH];by_cases o:l=0
      .rw[kn (.inl o)]at n;refine⟨_,?_,G.cr (B-A) (P-A),P,m,.v (vd P),.v (vd<|P-A),rfl,rfl,(((H.sub r).cr I).mono),Q,λX E=>C X (.tail _ E),n⟩;rw[decide_eq_true o];simp only[if_true,R.aa0,c1,C0,aCQ,aCR,kU,eJ]
      .rw[decide_eq_false o];by_cases p:0<G.b9 l (P-A)
       .rw[kn (.inr p)]at n;refine⟨_,?_,G.cr (B-A) (P-A),P,m,.v (vd P),.v (vd<|P-A),rfl,rfl,(((H.sub r).cr I).mono),Q,λX E=>C X (.tail _ E),n⟩;rw[decide_eq_true p];simp only[if_true,aAq,if_false,R.aa0,c1,C0,aCQ,aCR,kU,eJ]
       .rw[ku (λz=>z.elim o p)]at n;refine⟨_,?_,l,i,m,.v (vd P),.v (vd<|P-A),rfl,rfl,N,O,λX E=>C X (.tail _ E),n⟩;rw[decide_eq_false p];simp only[aAq,if_false,R.aa0]
    .rintro ρ ⟨l,i,m,x,y,rfl,t,N,O,C,n⟩;have:m=[]:=by simpa using t.symm
     subst this;have n:(l,i)=G.E6 (B-A) A j 0 A:=n;have eo:(G.E6 (B-A) A j 0 A).2=i:=by rw[<-n]
     unfold G.b7 at L⊢;rw[eo]at L⊢;have pl:=NM ⟨r,H,O⟩ (VD L);simp[pl]
   .cases h
  .cases h
def aQ (F1:x5 P w K mg base 2 "points_on" 2 y9)(G8:x5 P w K mg base 3 "plane_about" 2 D3)(F3:x5 P w K mg base 2 "dimension_of" 1 B9)(uh:mg "min"=none)(g:fD K mg "first_pair" bE):x5 P w K mg base 8 "first_pair" 1 G5:=by
 refine' n6 (k:=7) (F:=_) g qR (λf z dc o=>?b) λA d hl h=>?_
 case b=>
  have B:=f.ae4 (by decide);refine' (c5 (j2 1 (gZ (UA rfl B)<|B8 (b8 0) J3) o)
   (c5 (j2 2 (AH (d5 1)<|IW (i8 (b8 1) d6) (i8 (b8 1) d6)<|c7 p5 (PD.pb<|i8 (b8 1) d6) B1) o)
   (c5 (j2 3 (dN F1 f (dN G8 f (d5 2)<|d5 0)<|d5 0) o)
   (c5 (x9 (k9 (eT z) (PD.pb<|yZ F3 f<|d5 3) B1) (d7<|j1<|d5 2) n4)
   (d7<|j1<|AH (i8 (b8 3) d6)<|i8 (b8 3) d6)))))
 match A,h with
 |[.lst Y],h=>
  simp only[G5]at h;split at h
  .rename_i m j C;rw[o9 C];split at h
   .rename_i a;rw[<-h];have u:=YA a.good.ord;have i:T9 1000 (m::j):=a.sz.mono;have l:Sz 900 m:=a.sz.1 m (.head _);obtain⟨E,H,I,J,N⟩:=G.yF a.good.solid a.good.mem a.good.least;have p:=U3 l.mono (LR l) i E;have q:=zE l.mono (LR l) i;rw[rj]at p;have v:=gQ (d:=(G.b7 m (m+G.kk) (m::j)).2) q.mono i;obtain⟨x,y,r,e⟩:=KT H J N;have O:=LX (n:=(G.b7 m (m+G.kk) (m::j)).1) (d:=(G.b7 m (m+G.kk) (m::j)).2) i;have s:=QE (j:=G.o8 (G.b7 m (m+G.kk) (m::j)).1 (G.b7 m (m+G.kk) (m::j)).2 (m::j)) (by rw[e];simp) O;have Q:R7 (.lst ((G.o8 (G.b7 m (m+G.kk) (m::j)).1 (G.b7 m (m+G.kk) (m::j)).2 (m::j)).map vd)) (.int 0)=.ok (vd x):=M7 (by rw[e];exact mx _ _);have T:R7 (.lst ((G.o8 (G.b7 m (m+G.kk) (m::j)).1 (G.b7 m (m+G.kk) (m::j)).2 (m::j)).map vd)) (.int 1)=.ok (vd y):=M7 (by rw[e];exact sj _ _ _);unfold G.f6;dsimp only;by_cases t:G.T0 (G.o8 (G.b7 m (m+G.kk) (m::j)).1 (G.b7 m (m+G.kk) (m::j)).2 (m::j))=2
    .rw[kn t];rw[t]at s;generalize(m::j).map vd=L at*
     generalize(G.o8 (G.b7 m (m+G.kk) (m::j)).1 (G.b7 m (m+G.kk) (m::j)).2 (m::j)).map vd=L2 at*
     generalize(G.b7 m (m+G.kk) (m::j)).1=U at*
     generalize(G.b7 m (m+G.kk) (m::j)).2=pm at*
     simp[j6,u,p,v,s,G.kk]
    .rw[ku t];have e0:(G.o8 (G.b7 m (m+G.kk) (m::j)).1 (G.b7 m (m+G.kk) (m::j)).2 (m::j)).getD 0 0=x:=by rw[e];rfl
     have e1:(G.o8 (G.b7 m (m+G.kk) (m::j)).1 (G.b7 m (m+G.kk) (m::j)).2 (m::j)).getD 1 0=y:=by rw[e];rfl
     rw[e0,e1];have hb:((G.T0 (G.o8 (G.b7 m (m+G.kk) (m::j)).1 (G.b7 m (m+G.kk) (m::j)).2 (m::j)):Int)==2)=false:=by rw[beq_eq_false_iff_ne];lia
     generalize(m::j).map vd=L at*
     generalize(G.o8 (G.b7 m (m+G.kk) (m::j)).1 (G.b7 m (m+G.kk) (m::j)).2 (m::j)).map vd=L2 at*
     generalize(G.T0 (G.o8 (G.b7 m (m+G.kk) (m::j)).1 (G.b7 m (m+G.kk) (m::j)).2 (m::j)):Int)=dd at*
     generalize(G.b7 m (m+G.kk) (m::j)).1=U at*
     generalize(G.b7 m (m+G.kk) (m::j)).2=pm at*
     simp[j6,u,p,v,s,hb,Q,T]
   .cases h
  .cases h
def jV (y6:x5 P w K mg base 1 "product_of" 2 k5)(D1:x5 P w K mg base 1 "cross_of" 2 w9)(o6:x5 P w K mg base 1 "way_between" 2 m6)(g:fD K mg "turn_of" jC):x5 P w K mg base 2 "turn_of" 4 dF:=by
 refine' n6 (k:=1) (F:=_) g BW (λm A B C=>?b) λn d E h=>?_
 case b=>refine' (d7<|j1<|dN y6 m (d5 0)<|dN D1 m (dN o6 m (d5 1)<|d5 2)<|dN o6 m (d5 2)<|d5 3)
 replace h:=F8 h;obtain⟨a,b,c,n,rfl,h⟩:=h;replace h:=F8 h;obtain⟨d,e,f,n,rfl,h⟩:=h;replace h:=F8 h;obtain⟨g,o,i,n,rfl,h⟩:=h;replace h:=F8 h;obtain⟨j,k,l,n,rfl,h⟩:=h;replace h:=D7 h;obtain⟨rfl,h⟩:=h
 .skip
  split at h
  .rename_i y;obtain⟨p,q,r,s⟩:=y;rw[<-h];have t:=cA (u:=⟨g,o,i⟩-⟨d,e,f⟩) (v:=⟨j,k,l⟩-⟨g,o,i⟩) (r.sub q).mono (s.sub r).mono;have x:=iE (u:=⟨a,b,c⟩) (v:=G.cr (⟨g,o,i⟩-⟨d,e,f⟩) (⟨j,k,l⟩-⟨g,o,i⟩)) p.mono ((r.sub q).cr (s.sub r)).mono;simp only[vd,G.EQ,G.ER,G.FE,G.TQ,G.VM,G.UO]at t x;have z:∀a b c d e f:Int,m6 [.tup [.int a,.int b,.int c],.tup [.int d,.int e,.int f]]=.ok (.tup [.int (d-a),.int (e-b),.int (f-c)]):=λ_ _ _ _ _ _=>rfl;simp[j6,z,t,x,G.turn,G.f7]
  .cases h
def S7 (jV:x5 P w K mg base 2 "turn_of" 4 dF)(ic:mg "len"=none)(g:fD K mg "left_chain" bI):x5 P w K mg base 3 "left_chain" 2 S8:=by
 refine' n6 (k:=2) (F:=_) g qK (λhr hu dc T=>?b) λl d J h=>?_
 case b=>
  refine' (c5 (eF 2 (jN o7) T)
   (c5 (C7 aBa rfl (n8<|d5 1) (k8 3 T) (c5 (jM (λ_=>1001) aBa (FS.pt<|FH (k9 yW (PD.pb<|GV U5<|b8 2) B1)<|xF<|k9 a0a (PD.pb<|pc4 jV hr (d5 0) (i8 (b8 2)<|pN d6) (i8 (b8 2)<|pN d6)<|d5 3) B1)<|d7<|QY 2)
   (d7<|bK 2<|d5 3)))
   (d7<|FA 2<|j1<|d5 2)))
 replace h:=F8 h;obtain⟨a,b,c,l,rfl,h⟩:=h;replace h:=pF h;obtain⟨Y,l,rfl,h⟩:=h;replace h:=D7 h;obtain⟨rfl,h⟩:=h
 .skip
  split at h
  .rename_i j hw;rw[o9 hw];split at h
   .rename_i L;rw[<-h];obtain⟨U,hs⟩:=L;have vn:(.tup [.int a,.int b,.int c]:D)=vd ⟨a,b,c⟩:=rfl;rw[vn];generalize(⟨a,b,c⟩:G.V)=n at*
    simp[j6];refine Z1 (λrest ρ=>∃(c i:List G.V) (x:Sl),ρ=[.v (vd n),.v (.lst (aDv vd j)),.o (c.reverse.map vd),x]/\rest=i.map vd/\(∀X∈c,Sz 1000 X)/\(∀X∈i,Sz 1000 X)/\c.length+i.length<=1000/\i.foldl (λc P=>P::G.V8 n P c) c=G.v7 n j) ?_ ⟨[],j,_,rfl,rfl,λX p=>by(cases p),hs.1,by simpa using hs.2,rfl⟩ ?_
    .rintro d l ρ ⟨c,i,x,rfl,u,sc,N,J,y⟩;match i,u with
     |P::i,u=>
      injection u with e3 e4;subst e3 e4;have O:=N P (.head _);simp only[aAt]at J;simp only[fP,aCQ,aCR];refine Exists.elim (yN (n:=1001) (ρ:=[.v (vd n),.v (.lst (aDv vd j)),.o (c.reverse.map vd),.v (vd P)]) (Post:=λρ=>∃e,ρ=[.v (vd n),.v (.lst (aDv vd j)),.o (e.reverse.map vd),.v (vd P)]/\(∀X∈e,Sz 1000 X)/\e.length<=c.length/\e=G.V8 n P c)
       (c:=XH (λρ=>((((qI 2 ρ).bind λd=>R.ok [d]).bind GQ).bind λx=>ij x (D.int 1)).bind EY) λρ=>((((U1 0 ρ).bind λd=>(((qI 2 ρ).bind λx=>R7 x (D.int (-2))).bind λd=>(((qI 2 ρ).bind λx=>R7 x (D.int (-1))).bind λd=>((U1 3 ρ).bind λd=>R.ok [d]).bind λl=>R.ok (d::l)).bind λl=>R.ok (d::l)).bind λl=>R.ok (d::l)).bind dF).bind λx=>yj x (D.int 0)).bind EY) (F:=λρ=>(AY 2 ρ).bind λz=>R.ok (Out.nx z.snd))
       (λm ρ=>∃e,ρ=[.v (vd n),.v (.lst (aDv vd j)),.o (e.reverse.map vd),.v (vd P)]/\(∀X∈e,Sz 1000 X)/\e.length<=c.length/\e.length<m/\G.V8 n P e=G.V8 n P c) ?_ (by rintro ρ ⟨e,_,_,_,h,_⟩;lia) ⟨c,rfl,sc,aAg _,by lia,rfl⟩ ?_) ?_
      .rintro m ρ ⟨e,rfl,sub,q,s,f⟩;match e,sub,q,s,f with
       |[],_,_,_,_=>exact .inl (by simp)
       |[a],_,_,_,_=>exact .inl (by simp)
       |b::a::r,sub,q,s,f=>
        have t:(b::a::r).reverse.map vd=r.reverse.map vd++[vd a,vd b]:=by simp
        have B:R7 (.lst ((b::a::r).reverse.map vd)) (.int (-1))=.ok (vd b):=M7 (by rw[t];exact WV _ _ _);have C:R7 (.lst ((b::a::r).reverse.map vd)) (.int (-2))=.ok (vd a):=M7 (by rw[t];exact VW _ _ _);have E:=DS U (sub a<|.tail _ (.head _)) (sub b<|.head _) O;have H:(1:Int)<(aDv vd (b::a::r).reverse).length:=by rw[aAi,aCJ];simp;lia
        by_cases Q:G.turn n a b P<=0
        .refine .inr ⟨?_,[.v (vd n),.v (.lst (aDv vd j)),.o ((a::r).reverse.map vd),.v (vd P)],?_,a::r,rfl,λX p=>sub X (.tail _ p),?_,?_,?_⟩
         .simp only[vK,yO,DJ,R.aa0,CY,pH,decide_eq_true H,DP,if_true,eJ,kU,B,C,E,DC,decide_eq_true Q]
         .show(match(aDv vd (b::a::r).reverse)[(aDv vd (b::a::r).reverse).length-1]? with|some d=>_|none=>_:R (D×Ev)).bind _=_;rw[t];simp
         .simp only[aAt]at q⊢;lia
         .simp only[aAt]at s⊢;lia
         .rw[<-f]
          conv=>rhs;unfold G.V8
          rw[kn Q]
        .refine .inl ?_;simp only[vK,yO,DJ,R.aa0,CY,pH,decide_eq_true H,DP,if_true,eJ,kU,B,C,E,DC,decide_eq_false Q]
      .rintro m ρ ⟨e,rfl,sub,q,s,f⟩ I;refine⟨e,rfl,sub,q,?_⟩;match e,sub,q,s,f,I with
       |[],_,_,_,f,_=>exact f
       |[a],_,_,_,f,_=>exact f
       |b::a::r,sub,q,s,f,I=>
        have t:(b::a::r).reverse.map vd=r.reverse.map vd++[vd a,vd b]:=by simp
        have B:R7 (.lst ((b::a::r).reverse.map vd)) (.int (-1))=.ok (vd b):=M7 (by rw[t];exact WV _ _ _);have C:R7 (.lst ((b::a::r).reverse.map vd)) (.int (-2))=.ok (vd a):=M7 (by rw[t];exact VW _ _ _);have E:=DS U (sub a<|.tail _ (.head _)) (sub b<|.head _) O;have H:(1:Int)<(aDv vd (b::a::r).reverse).length:=by rw[aAi,aCJ];simp;lia
        simp only[vK,yO,DJ,R.aa0,CY,pH,decide_eq_true H,DP,if_true,eJ,kU,B,C,E,DC,QC,decide_eq_false_iff_not]at I;rw[<-f]
        conv=>rhs;unfold G.V8
        rw[ku I]
      .rintro ρ2 ⟨ew,e,rfl,sub,q,A⟩;refine⟨[.v (vd n),.v (.lst (aDv vd j)),.o ((P::e).reverse.map vd),.v (vd P)],?_,P::e,i,_,rfl,rfl,?_,λX p=>N X (.tail _ p),?_,?_⟩
       .rw[ew];have L:(aDv vd e.reverse).length<sizeLine:=by rw[aAi,aCJ];exact aDu (show e.length<=1000 by lia) (by decide)
        simp only[C0,kU,eJ,R.aa0];show(if(aDv vd e.reverse).length<sizeLine then _ else _)=_;rw[kn L];simp
       .intro X p;rcases aAd.mp p with rfl|p
        .exact O
        .exact sub X p
       .simp;lia
       .rw[<-y,aFT,A]
    .rintro ρ ⟨c,i,x,rfl,u,sc,N,J,y⟩;have:i=[]:=by simpa using u.symm
     subst this;have y:c=G.v7 n j:=y;subst y;simp[QO]
   .cases h
  .cases h
def jA (S7:x5 P w K mg base 3 "left_chain" 2 S8)(z:mg "list"=none)(A:mg "reversed"=none)(g:fD K mg "ring_of" jL):x5 P w K mg base 4 "ring_of" 2 N8:=by
 refine' n6 (k:=3) (F:=_) g BN (λf B C i=>?b) λm d E h=>?_
 case b=>
  refine' (c5 (j2 2 (dN S7 f (d5 0)<|d5 1) i)
   (c5 (j2 3 (dN S7 f (d5 0)<|PF.pd<|BL (b8 1) rfl) i)
   (d7<|j1<|c7 p5 (PD.pb<|tH (b8 2) cR<|U8<|pN d6)<|PD.pb<|tH (b8 3) cR<|U8<|pN d6)))
 replace h:=F8 h;obtain⟨a,b,c,m,rfl,h⟩:=h;replace h:=pF h;obtain⟨Y,m,rfl,h⟩:=h;replace h:=D7 h;obtain⟨rfl,h⟩:=h
 .skip
  split at h
  .rename_i j q;rw[o9 q];split at h
   .rename_i r;rw[<-h];obtain⟨o,e⟩:=r;have s:(.tup [.int a,.int b,.int c]:D)=vd ⟨a,b,c⟩:=rfl;rw[s];generalize(⟨a,b,c⟩:G.V)=n at*
    have t:=WD o e;have u:T9 1000 j.reverse:=e.sub (λP v=>by simpa using v) (by simp);have p:=WD o u;rw[aFH (l:=j)]at p;have H:=tU n j;have x:=tU n j.reverse;rw[aCJ]at x;have y:lS (.lst ((G.v7 n j).reverse.map vd).dropLast) (.lst ((G.v7 n j.reverse).reverse.map vd).dropLast)=.ok (.lst ((G.j8 n j).map vd)):=by rw[FZ (by simp only[aGi,aAi,aCJ];exact aAp (show _<=2000 by have:=e.2;lia) (by decide))];unfold G.j8;rw[aCf,List.map_dropLast,List.map_dropLast]
    simp[-aFH,j6,t,p,QV,y,lz]
   .cases h
  .cases h
def I9 (n:mg "list"=none)(a:mg "zip"=none)(g:fD K mg "pairs_round" Y3):x5 P w K mg base 1 "pairs_round" 1 v5:=by
 refine' n6 (k:=0) (F:=_) g oV (λo p q r=>?b) λi d s h=>?_
 case b=>refine' (d7<|j1<|PF.pd<|AT (b8 0) (PD.pb<|c7 p5 (PD.pb<|tH (b8 0) (U8 d6) cR)<|PD.pb<|tH (b8 0) cR<|U8 d6) rfl)
 match i,h with
 |[.lst Y],h=>
  simp only[v5]at h;split at h
  .rename_i j l;rw[o9 l];split at h
   .rename_i t;rw[<-h];have m:lS (.lst (j.map vd).tail) (.lst ((j.map vd).take 1))=.ok (.lst ((j.tail++j.take 1).map vd)):=by rw[FZ (by simp only[List.length_tail,aBU,aAi];exact OH (by lia))];rw[aCf,List.map_tail,List.map_take]
    have e:(j.map vd).length=((j.tail++j.take 1).map vd).length:=by
     simp only[aAi,aAC,List.length_tail,aBU]
     lia
    have f:QX [.lst (j.map vd),.lst ((j.tail++j.take 1).map vd)]=.ok ((G.J2 j).map u4):=by show(if _ then _ else _)=_;rw[kn e,sM (β:=Unit)];rfl
    simp[-aCf,-List.map_tail,-List.map_take,j6,UL,YM,m,f]
   .cases h
  .cases h
def aP (G8:x5 P w K mg base 3 "plane_about" 2 D3)(jA:x5 P w K mg base 4 "ring_of" 2 N8)(I9:x5 P w K mg base 1 "pairs_round" 1 v5)(C:mg "len"=none)(I:mg "sorted"=none)(g:fD K mg "faces_from" aW):UH P w K mg base 8 3 "faces_from" G4:=by
 obtain⟨f,J,q,l⟩:=g;refine' TW (k:=7) (F:=_) l eV rfl (l.binds λ_ _ _ _ _ _ r t=>match r,t with|[_,_,_],_=>rfl) q (λL A e s H E a=>?hb) ?hm
 case hb=>
  have N:=a.units;have n:=a.ae7;have u:=a.ae4 (by decide);have b:=eV.nd;refine' (c5 (eF 3 (jN o7) b)
   (c5 (xG 4 b)
   (c5 (eF 5 (jN<|i9 (d5 0) o7) b)
   (c5 (jM (λ_=>5000) aBa (k9 yW (PD.pb<|GV U5<|b8 5) B1) (c5 (AW 6 5 b)
   (d7 (x9 (iN 4 (d5 6) n) (c5 (j2 7 (dN G8 a (d5 6) (wZ 1 (k:=3) (Φ:=JO P w K mg base 3 1) rfl (i9 (i8 (b8 6) d6) o7) (A5 Z8) (a.mono (by decide)))) b)
   (c5 (j2 8 (dN jA a (tH (b8 7) cR<|U8 d6) (wZ 2 (k:=3) (Φ:=JO P w K mg base 3 1) rfl (i9 (d5 7) o7) (A5 Z8) (a.mono (by decide)))) b)
   (c5 (bK 3<|AH (d5 7)<|d5 8)
   (d7 (C7 aBa rfl (n8<|yZ I9 a<|d5 8) (k8 9 b) (c5 (pJ 4 pK (d5 9) n)
   (d7<|bK 5<|AH (i8 (b8 9) d6)<|i8 (b8 9) d6))))))) n4))))
   (d7<|j1<|PF.pd<|CC (b8 3) rfl u)))))
 case hm=>
  intro d O Q T h;simp only[G4]at h;split at h
  .rename_i Y v;split at h
   .rename_i m j x;split at h
    .rename_i i;rw[<-h];obtain⟨i,y,z,o,p⟩:=i;rw[o9 x]at o p;subst z o p;have B:(1:Nat)<=sizeLine:=by decide
     simp only[kE,eJ,xM,GD,R.aa0,aAt,aBL,aEm,B,if_true,C0];exact vq (Φ:=JO P w K mg base 3 1) i y
    .cases h
   .cases h
  .cases h
def sW:Nst:=⟨"about",EX,E8 cO,t5 cO,c9 cO,EW cO,["corner"],[],["spread"],[1],(λρ=>(U1 1 ρ).bind λd=>.ok (.rt d)),J1,2⟩
def cZ:Nst:=⟨"touched_by",gO,E8 G7,t5 G7,c9 G7,EW G7,["plane"],[],["spread"],[1],(λρ=>((m8 (U1 0) (m8 (U1 1) M9) ρ).bind y9).bind λd=>.ok (.rt d)),C8,3⟩
def GR {f:cp}{L:ae}{A:cy}{a:List Env}{s:be}{H:Hp}{E:XK}:NstOk (TF P w K mg base gA "faces_of" (c9 J5) f L A a s H E) 2 sW where
 sc:=⟨rfl,rfl,rfl,by decide+kernel,by decide+kernel,by decide+kernel,λx h=>DY h,by decide+kernel⟩
 one:=rfl
 body:=λt k e A a s H l=>by have u:=l.units;exact(d7<|j1<|d5 1)
 mm:=by
  intro m n d b g h;match m,n,b,g,h with
  |[_],[_],_,_,h=>cases h;rfl
 bind:=λe o v k p q r=>match q,r with|[_],_=>rfl
 len:=rfl
 at_:=λi j x b g=>match i,b,g with
  |0,b,g=>by obtain rfl:1=j:=Option.some.inj b;obtain rfl:("spread":Str)=x:=Option.some.inj g;exact⟨rfl,rfl⟩
  |i+1,b,_=>nomatch(show(none:Option Nat)=some j from b)
 d0:=rfl
 k0:=rfl
 nm:=rfl
 lc:=.inl rfl
 st:=.inl rfl
 dbg:=by decide
 cdt:=by decide
def pE (F1:x5 P w K mg base 2 "points_on" 2 y9){f:cp}{L:ae}{A:cy}{a:List Env}{s:be}{H:Hp}{E:XK}:NstOk (TF P w K mg base gA "faces_of" (c9 J5) f L A a s H E) 2 cZ where
 sc:=⟨rfl,rfl,rfl,by decide+kernel,by decide+kernel,by decide+kernel,λx h=>DY h,by decide+kernel⟩
 one:=rfl
 body:=λy m g A a s H l=>by have z:=l.units;exact(d7<|j1<|dN F1 l (d5 0)<|d5 1)
 mm:=by
  intro n o d b k h;match n,o,b,k,h with
  |[w],[p],_,_,h=>have h:y9 [p,w]=.ok d:=h;show L9 (((m8 (U1 0) (m8 (U1 1) M9) [.v p,.v w]).bind y9).bind λd=>.ok (.rt d))=.ok d;have e:m8 (U1 0) (m8 (U1 1) M9) [.v p,.v w]=.ok [p,w]:=rfl;rw[e,R.aa0,h];rfl
 bind:=λg q B m r t u=>match t,u with|[_],_=>rfl
 len:=rfl
 at_:=λi j x b k=>match i,b,k with
  |0,b,k=>by obtain rfl:1=j:=Option.some.inj b;obtain rfl:("spread":Str)=x:=Option.some.inj k;exact⟨rfl,rfl⟩
  |i+1,b,_=>nomatch(show(none:Option Nat)=some j from b)
 d0:=rfl
 k0:=rfl
 nm:=rfl
 lc:=.inl rfl
 st:=.inl rfl
 dbg:=by decide
 cdt:=by decide
def J8 {t:cp}(F1:x5 P w K mg base 2 "points_on" 2 y9)(X9:x5 P w K mg base 3 "refuse_flat" 1 D6)(aQ:x5 P w K mg base 8 "first_pair" 1 G5)(aP:UH P w K mg base 8 3 "faces_from" G4)(bh:mg "sorted"=none)(lu:mg "set"=none)(O:iF mg base)(i:(t,tbK)∈Tabs.tbs)(g:zq K mg "faces_of" J5 t):x5 P w K mg base 9 "faces_of" 1 K0:=by
 obtain⟨f,fd,cd,Q,T,u⟩:=g;refine' TZ (k:=8) (F:=_) u kI (u.fn.binds λ_ _ _ _ _ _ U y=>match U,y with|[_],_=>rfl) Q (λA l s H E a=>?hb) ?hm
 case hb=>
  have hu:=a.units;have dc:=a.ae7;have xo:=a.ae4 (by decide);have z:=kI.nd;refine' (c5 (MV<|yZ X9 a<|d5 0)
   (c5 (j2 1 (PF.pd<|iC (b8 0) rfl xo) z)
   (DE (n1:=sW) (n2:=cZ) (clos1:=[("spread",s.heap.objs.size+1)]) (clos2:=[("spread",s.heap.objs.size+1)]) (tb:=tbK) GR (pE F1) ?co1 ?co2 ?hA O rfl T i (by decide+kernel) (by decide+kernel) (by decide+kernel) (by decide+kernel) (by decide) z aP (a.mono (by decide)) (yZ aQ a<|d5 1) (λ_=>rfl))))
  case co1=>exact⟨rfl,rfl,rfl,λx c h=>h,λx o=>⟨_,by obtain rfl:x= "spread":=aAN.mp o;rfl⟩⟩
  case co2=>exact⟨rfl,rfl,rfl,λx c h=>h,λx o=>⟨_,by obtain rfl:x= "spread":=aAN.mp o;rfl⟩⟩
  case hA=>exact HS
 case hm=>
  intro p d y h;match p,h with
  |[.lst Y],h=>
   simp only[K0]at h;split at h
   .rename_i j hw;rw[o9 hw];split at h
    .rename_i hz;rw[<-h];obtain⟨B,C,I⟩:=hz;obtain⟨m,r,e,L⟩:=W4 B C (by lia);have q:=VV (j:=j) (by lia);have fl:=RD (B.mono (n:=1000)) C;rw[e]at I q⊢;have J:=vk L;have N:=YS L I;obtain⟨b,eL⟩:∃b,(m::r).map vd=b:=⟨_,rfl⟩;rw[eL]at q J N;show L9 (B5 ((D6 [D.lst (j.map vd)]).bind λ_=>R.ok (Out.nx [.v (.lst (j.map vd)),.no,.no,.no])) _)=_;rw[fl,R.aa0,C0];show L9 (B5 (((qy<|.lst (j.map vd)).bind λp=>R.ok (D.lst p)).bind λd=>R.ok (Out.nx [.v (.lst (j.map vd)),.v d,.no,.no])) _)=_;rw[q,R.aa0,R.aa0,C0];show L9 (((G5 [D.lst b]).bind λd1=>(R.ok [D.lst b]).bind λw1=>(R.ok [D.lst b]).bind λw2=>G4 d1 (J1 w1) (C8 w2)).bind λd=>R.ok (Out.rt d))=_;rw[J,R.aa0,R.aa0,R.aa0,N];rfl
    .cases h
   .cases h
def aK (r:mg "sorted"=none)(s:mg "set"=none)(g:fD K mg "corners_in" bC):x5 P w K mg base 8 "corners_in" 1 F9:=by
 refine' n6 (k:=7) (F:=_) g qZ (λj t u f=>?b) λl d x h=>?_
 case b=>
  have m:=j.ae4 (by decide);refine' (c5 (eF 1 (jN o7) f)
   (c5 (C7 aBa rfl (n8<|d5 0) (W8 (n:=2) rfl<|p7 (k8 2 f)<|p7 (k8 3 f) Q3)<|d7<|mW 1<|d5 3)
   (d7<|j1<|PF.pd<|iC (b8 1) rfl m)))
 match l,h with
 |[.lst Y],h=>
  simp only[F9]at h;split at h
  .rename_i o p;split at h
   .rename_i i;rw[<-h];obtain⟨y,z,e⟩:=lB (a:=Sl.v (D.lst Y)) Y o [] Sl.no Sl.no p (by simpa using i.1);rw[aGa,aEH]at e;have q:=VV i.2;simp[j6,-List.map_flatten,e,q]
   .cases h
  .cases h
def iY (aK:x5 P w K mg base 8 "corners_in" 1 F9)(J8:x5 P w K mg base 9 "faces_of" 1 K0)(g:fD K mg "body_of" jI):x5 P w K mg base 10 "body_of" 1 aE:=by
 refine' n6 (k:=9) (F:=_) g CU (λf t u v=>?b) λn d x h=>?_
 case b=>refine' (d7<|j1<|yZ aK f<|yZ J8 f<|d5 0)
 match n,h with
 |[.lst Y],h=>
  simp only[aE]at h;split at h
  .rename_i j o;rw[o9 o];split at h
   .rename_i p;rw[<-h];obtain⟨i,l,a⟩:=p;obtain⟨m,r,e,L⟩:=W4 i l (by lia);have q:=mT i l a;have y:((j0<|c8 j).flatMap (G.d4<|c8 j)).length<=200/\(c8<|(j0<|c8 j).flatMap (G.d4<|c8 j)).length<=23:=by rw[e]at a⊢;exact rR L a
    have s:=BX (j:=c8 j) (fs:=j0 (c8 j)) (by lia) (by lia);simp[j6,q,s,A2]
   .cases h
  .cases h
end
section
variable [Tabs]
variable{P:cu} {w:cz} {K:lb} {mg:cE} {base:de}
def fU (J8:x5 P w K mg base 9 "faces_of" 1 K0)(I9:x5 P w K mg base 1 "pairs_round" 1 v5)(uh:mg "min"=none)(s:mg "max"=none)(bh:mg "sorted"=none)(lu:mg "set"=none)(g:fD K mg "edges_of" bB):x5 P w K mg base 10 "edges_of" 1 gF:=by
 refine' n6 (k:=9) (F:=_) g xJ (λt hu dc nd=>?b) λC d hl h=>?_
 case b=>
  have u:=t.ae4 (by decide);refine' (c5 (eF 1 (jN o7) nd)
   (c5 (C7 aBa rfl (n8<|yZ J8 t<|d5 0) (W8 (n:=2) rfl<|p7 (k8 2 nd)<|p7 (k8 3 nd) Q3)<|d7<|mW 1<|P1 ["pair"] [] [] rfl (J6 (sc:=c9 bB) (N:=nQ)) (n8<|yZ I9 t<|d5 3) (RL λ_ _ _ _ _=>(AH (gZ (RW rfl u)<|B8 (b8 0) J3)<|gZ (VG rfl u)<|B8 (b8 0) J3))<|λ_=>t6)
   (d7<|j1<|PF.pd<|qW (b8 1) rfl u)))
 match C,h with
 |[.lst Y],h=>
  simp only[gF]at h;split at h
  .rename_i j l;rw[o9 l];split at h
   .rename_i O;rw[<-h];obtain⟨q,r,E⟩:=O;have Q:=mT q r (by lia);obtain⟨T,ai,U⟩:=N4 q r (by lia);have rl:∀f∈j0 (c8 j),(G.d4 (c8 j) f).length<=3000:=λf x=>by have nd:=((T f).mp x).aa2 (m9 j);exact aAp (G.p8 nd.aa4 (m:=c8 j) λv hv=>(G.c6.mp<|nd.aa3 hv).1) (by lia)
    have y:∀i H,i++H=j0 (c8 j)->(Y0 (c8 j) i).length<=sizeLine:=λi H e=>HQ q r E e;have z:=HM q r E;simp-implicitDefEqProofs [j6,Q];generalize j0 (c8 j)=fs at*
    generalize c8 j=S at*
    refine Z1 (λrest ρ=>∃done i a b,rest=i.map (k7 S)/\ρ=[.v (.lst (j.map vd)),.o ((Y0 S done).map wI),a,b]/\done++i=fs) ?_ ⟨[],fs,_,_,rfl,rfl,rfl⟩ ?_
    .rintro d C ρ ⟨done,i,a,b,l,rfl,p⟩;match i,l,p with
     |f::i,l,p=>
      injection l with e3 e4;subst e3 e4;have x:f∈fs:=by rw[<-p];simp
      have po:=wR (rl f x);have I:(done++[f])++i=fs:=by rw[<-p];simp
      have J:Y0 S (done++[f])=Y0 S done++G.J2 (G.d4 S f):=by simp[Y0]
      have L:=y (done++[f]) i I;rw[J,aAC]at L;refine⟨[.v (.lst (j.map vd)),.o ((Y0 S<|done++[f]).map wI),.v (mJ f.1 f.2),.v (.lst ((G.d4 S f).map vd))],?_,done++[f],i,_,_,rfl,rfl,I⟩;have cl:(G.J2<|G.d4 S f).length<=sizeLine:=by lia
      have cm:∀A:Ev->R D,(∀e:G.V×G.V,A [.v (u4 e)]=.ok (wI e))->u5 (λd ρ=>R.ok (aCP ρ 0<|Sl.v d)) (λ_=>R.ok true) A [.no] ((G.J2<|G.d4 S f).map u4)=.ok ((G.J2<|G.d4 S f).map wI):=λA B=>L4 u4 wI _ λe _=>⟨_,rfl,B e⟩;simp[K8,k7,bS,K4,eS,po,cl,f9];rw[cm _ λe=>?_]
      .simp[UE,J,L]
      .have m1:oZ [u4 e]=_:=RN e.1 e.2;have m2:pT [u4 e]=_:=QW e.1 e.2;simp[m1,m2,cB,wI];decide
    .rintro ρ ⟨done,i,a,b,l,rfl,p⟩;have:i=[]:=by simpa using l.symm
     subst this;rw[aBR]at p;subst p;simp[z]
   .exact absurd h (by simp)
  .exact absurd h (by simp)
end
section
variable [Tabs]
variable{P:cu} {w:cz} {K:lb} {mg:cE} {base:de}
def L3 (o:mg "len"=none)(g:fD K mg "_law_cell" cN):x5 P w K mg base 1 "_law_cell" 2 bF:=by
 refine' n6 (k:=0) (F:=_) g uZ (λp q r s=>?b) λi d t h=>?_
 case b=>
  refine' (c5 (x9 (k9 FP (b8 1)<|PD.pb<|GV U5<|b8 0) (d7<|j1<|i8 (b8 0)<|d5 1) n4)
   (d7<|j1<|c7 p5 (PD.pb<|c7 p5 (PD.pb<|c7 l8 (PD.pb<|c7 l8 B1<|b8 1)<|b8 1)<|PD.pb<|c7 l8 B1<|b8 1) B1))
 match i,h with
 |[.lst Y,.int k],h=>
  simp only[bF]at h;split at h
  .rename_i j;obtain⟨l,u⟩:=j;rw[<-h];have a:bits k<=20:=L0 (by lia) (by lia);have m:bits (6*k)<=30:=L0 (by lia) (by lia);by_cases f:k<Y.length
   .have e:Y[k.toNat]?=some Y[k.toNat]:=aAj (by lia);have n:pD Y k=some Y[k.toNat]:=by rw[Y7 l,e]
    simp[j6,f,M7 n,tO,e]
   .have e:Y[k.toNat]?=none:=aBS.mpr (by lia);simp[j6,f,tO,e,f8 (l7.of (show bits 6<=10 by decide) a),f8 (l7.of m a),f8 (l7.of (show bits 5<=10 by decide) a),M.zW]
  .cases h
def fK (g:fD K mg "_law_way" fZ):x5 P w K mg base 1 "_law_way" 2 m6:=by
 refine' n6 (k:=0) (F:=_) g xK (λf i j l=>?b) λe d m h=>?_
 case b=>refine' (d7<|j1<|IW (c7 u6 (PD.pb<|i8 (b8 1) d6)<|PD.pb<|i8 (b8 0) d6) (c7 u6 (PD.pb<|i8 (b8 1) d6)<|PD.pb<|i8 (b8 0) d6)<|c7 u6 (PD.pb<|i8 (b8 1) d6)<|PD.pb<|i8 (b8 0) d6)
 replace h:=F8 h;obtain⟨a,b,c,e,rfl,h⟩:=h;replace h:=F8 h;obtain⟨n,o,p,e,rfl,h⟩:=h;replace h:=D7 h;obtain⟨rfl,h⟩:=h;exact h
def aV (g:fD K mg "_law_cross" aZ):x5 P w K mg base 1 "_law_cross" 2 w9:=by
 refine' n6 (k:=0) (F:=_) g qO (λp q r s=>?b) λe d t h=>?_
 case b=>refine' (d7<|j1<|IW (c7 u6 (PD.pb<|c7 l8 (PD.pb<|i8 (b8 0) d6)<|PD.pb<|i8 (b8 1) d6)<|PD.pb<|c7 l8 (PD.pb<|i8 (b8 0) d6)<|PD.pb<|i8 (b8 1) d6) (c7 u6 (PD.pb<|c7 l8 (PD.pb<|i8 (b8 0) d6)<|PD.pb<|i8 (b8 1) d6)<|PD.pb<|c7 l8 (PD.pb<|i8 (b8 0) d6)<|PD.pb<|i8 (b8 1) d6)<|c7 u6 (PD.pb<|c7 l8 (PD.pb<|i8 (b8 0) d6)<|PD.pb<|i8 (b8 1) d6)<|PD.pb<|c7 l8 (PD.pb<|i8 (b8 0) d6)<|PD.pb<|i8 (b8 1) d6)
 replace h:=F8 h;obtain⟨a,b,c,e,rfl,h⟩:=h;replace h:=F8 h;obtain⟨u,v,x,e,rfl,h⟩:=h;replace h:=D7 h;obtain⟨rfl,h⟩:=h;split at h
 .rename_i o;obtain⟨⟨f,i,j⟩,l,m,n⟩:=o;rw[<-h];simp[j6,f8 (l7.of i n),f8 (l7.of j m),f8 (l7.of j l),f8 (l7.of f n),f8 (l7.of f m),f8 (l7.of i l)]
 .cases h
def F5 (g:fD K mg "_law_product" V0):x5 P w K mg base 1 "_law_product" 2 k5:=by
 refine' n6 (k:=0) (F:=_) g lJ (λp q r s=>?b) λe d u h=>?_
 case b=>refine' (d7<|j1<|c7 p5 (PD.pb<|c7 p5 (PD.pb<|c7 l8 (PD.pb<|i8 (b8 0) d6)<|PD.pb<|i8 (b8 1) d6)<|PD.pb<|c7 l8 (PD.pb<|i8 (b8 0) d6)<|PD.pb<|i8 (b8 1) d6)<|PD.pb<|c7 l8 (PD.pb<|i8 (b8 0) d6)<|PD.pb<|i8 (b8 1) d6)
 replace h:=VT h;obtain⟨a,b,c,t,e,rfl,h⟩:=h;replace h:=F8 h;obtain⟨v,x,y,e,rfl,h⟩:=h;replace h:=D7 h;obtain⟨rfl,h⟩:=h;split at h
 .rename_i f;obtain⟨⟨i,j,l⟩,m,n,o⟩:=f;rw[<-h];simp[j6,VZ,WN,WC,f8 (l7.of i m),f8 (l7.of j n),f8 (l7.of l o)]
 .cases h
def aM (gr:mg "range"=none)(ui:mg "tuple"=none)(g:fD K mg "_law_point" aU):x5 P w K mg base 1 "_law_point" 2 Z5:=by
 refine' n6 (k:=0) (F:=_) g qT (λhr u dc e=>?b) λB d hl h=>?_
 case b=>
  refine' (c5 (x9 (k9 (eT u) (b8 1) B1) (c5 (j2 2 (c7 p5 (PD.pb<|c7 l8 B1<|PD.pb<|c7 fI B1 B1) B1) e)
   (d7<|j1<|IW (c7 u6 (PD.pb<|c7 A4 (b8 0)<|b8 2)<|PD.pb<|c7 fI B1 B1) (c7 u6 (PD.pb<|c7 A4 (PD.pb<|c7 A1 (b8 0)<|b8 2)<|b8 2)<|PD.pb<|c7 fI B1 B1)<|c7 u6 (PD.pb<|c7 A4 (PD.pb<|c7 A1 (b8 0)<|PD.pb<|c7 l8 (b8 2)<|b8 2)<|b8 2)<|PD.pb<|c7 fI B1 B1)) n4)
   (c5 (x9 (k9 (eT u) (b8 1) B1) (c5 (j2 3 (c7 A4 (PD.pb<|c7 p5 (PD.pb<|c7 l8 (b8 0) B1) B1) B1) e)
   (c5 (eF 4 (jN o7) e)
   (c5 (C7 aBa rfl (jU<|B8 B1 J3) (k8 5 e) (c5 (j2 3 (c7 A4 (PD.pb<|c7 p5 (PD.pb<|c7 p5 (PD.pb<|c7 l8 (b8 3)<|b8 3)<|PD.pb<|c7 l8 B1<|b8 5) B1) B1) e)
   (d7<|bK 4<|c7 u6 (PD.pb<|c7 A4 (b8 3) B1)<|PD.pb<|c7 fI B1 B1)))
   (d7<|j1<|eG LC<|B8 (b8 4) J3)))) n4)
   (c5 (j2 2 (i8 (PD.pb<|fV<|i9 d6<|i9 d6<|i9 d6 o7)<|d5 1) e)
   (d7<|j1<|IW (c7 u6 (PD.pb<|c7 A4 (b8 0)<|b8 2)<|PD.pb<|c7 A1 (b8 2) B1) (c7 u6 (PD.pb<|c7 A4 (PD.pb<|c7 A1 (b8 0)<|b8 2)<|b8 2)<|PD.pb<|c7 A1 (b8 2) B1)<|c7 u6 (PD.pb<|c7 A4 (PD.pb<|c7 A1 (b8 0)<|PD.pb<|c7 l8 (b8 2)<|b8 2)<|b8 2)<|PD.pb<|c7 A1 (b8 2) B1))))
 match B,h with
 |[.int t,.int way],h=>
  simp only[Z5]at h;split at h
  .rename_i o;rw[<-h];obtain⟨o,h0,h4⟩:=o;have v:JD (.int 10) (.int 9)=.ok (.int 1000000000):=(wN ⟨by decide,by decide,by decide⟩).trans (by rfl);have j:∀{x w:Int},0<w->W2 (.int x) (.int w)=.ok (.int (x.fmod w)):=λC=>Z3 C;have y:∀{w:Int},0<w->bits w<=80->R8 (.int w) (.int w)=.ok (.int (w*w))/\Q4 (.int t) (.int w)=.ok (.int (t.fdiv w))/\Q4 (.int t) (.int (w*w))=.ok (.int (t.fdiv<|w*w))/\Q4 (.int w) (.int 2)=.ok (.int (w.fdiv 2)):=λ{w} f a=>by have ww:0<w*w:=aBk f f;exact⟨f8 (l7.of a a),aJ ⟨by lia,w5 a⟩,aJ ⟨by lia,w5 (bits_mul a a)⟩,rV (by decide) (by decide)⟩
   by_cases p:way=4
   .subst p;have E:R8 (.int t) (.int 40009)=.ok (.int (t*40009)):=f8 (l7.of o (show bits 40009<=80 by decide));have l:∀x:Int,bits (x.fmod 2147483647)<=80:=λx=>bits_fmod (by decide) (by decide);have H:R8 (.int (WF t)) (.int (WF t))=.ok (.int (WF t*WF t)):=f8 (l7.of (l _)<|l _);have I:∀s k:Int,R8 (.int (mD s k)) (.int (mD s k))=.ok (.int (mD s k*mD s k)):=λs k=>f8 (l7.of (l _)<|l _);have J:(t*40009+6007).fmod 2147483647=WF t:=rfl;have L:∀s:Int,(s*s+11).fmod 2147483647=mD s 0:=λs=>by unfold mD;simp
    have N:∀s:Int,(s*s+5003+11).fmod 2147483647=mD s 1:=λs=>by unfold mD;simp
    have O:∀s:Int,(s*s+10006+11).fmod 2147483647=mD s 2:=λs=>by unfold mD;simp
    have i:∀x:Int,W2 (.int x) (.int 2147483647)=.ok (.int (x.fmod 2147483647)):=λx=>j (by decide);have Q:∀x:Int,W2 (.int x) (.int 2000000011)=.ok (.int (x.fmod 2000000011)):=λx=>j (by decide);have q:R8 (.int 5003) (.int 0)=.ok (.int 0):=(f8 (l7.of (show bits 5003<=80 by decide) (show bits 0<=80 by decide))).trans (by rfl);have T:R8 (.int 5003) (.int 1)=.ok (.int 5003):=(f8 (l7.of (show bits 5003<=80 by decide) (show bits 1<=80 by decide))).trans (by rfl);have U:R8 (.int 5003) (.int 2)=.ok (.int 10006):=(f8 (l7.of (show bits 5003<=80 by decide) (show bits 2<=80 by decide))).trans (by rfl);simp[j6,v,E,i,Q,J,L,N,O,H,I,q,T,U,M2,wU,VS,WG,wz,vd,LM,cB,sizeLine,wF]
   .by_cases z:way=3
    .subst z;have q:R8 (.int 2) (.int 1000000000)=.ok (.int 2000000000):=(f8 (l7.of (show bits 2<=80 by decide) (show bits 1000000000<=80 by decide))).trans (by rfl);obtain⟨m,r,n,A⟩:=y (w:=2000000001) (by decide) (by decide);have i:∀x:Int,W2 (.int x) (.int 2000000001)=.ok (.int (x.fmod 2000000001)):=λx=>j (by decide);simp only[Int.reduceMul]at m n;simp[j6,v,q,m,r,n,i,VS,bW,dw,vd,cB,sizeLine]
    .have Y:R7 (.lst [.int 3,.int 5,.int 9]) (.int way)=.ok (.int (bW way))/\0<bW way/\bits (bW way)<=80:=by rcases(show way=0\/way=1\/way=2 by lia)with rfl|rfl|rfl<;>exact⟨rfl,by decide,by decide⟩
     obtain⟨iw,f,a⟩:=Y;have pt:VS t way=dw t (bW way):=ku p;rw[pt];generalize bW way=w at*
     obtain⟨m,r,n,A⟩:=y f a;have i:∀x:Int,W2 (.int x) (.int w)=.ok (.int (x.fmod w)):=λx=>j f;simp[j6,p,z,iw,m,r,n,A,i,dw,vd,cB,sizeLine,wF]
  .exact absurd h (by simp)
def X7 (L3:x5 P w K mg base 1 "_law_cell" 2 bF)(aM:x5 P w K mg base 1 "_law_point" 2 Z5)(gr:mg "range"=none)(jh:mg "enumerate"=none)(g:fD K mg "_law_points" J0):x5 P w K mg base 2 "_law_points" 2 dR:=by
 refine' n6 (k:=1) (F:=_) g oP (λB hu dc u=>?b) λp d hl h=>?_
 case b=>
  refine' (c5 (j2 2 (c7 p5 B1<|PD.pb<|c7 A4 (PD.pb<|dN L3 B (d5 0) d6)<|PD.pb<|c7 u6 (b8 1) B1) u)
   (c5 (rX 3 ["k"] [] [] u rfl (J6 (sc:=c9 J0) (N:=X6)) (jU<|B8 (b8 2) J3) (RL λ_ _ _ _ _=>(c7 p5 (PD.pb<|c7 l8 (PD.pb<|c7 l8 B1<|b8 0)<|b8 0)<|PD.pb<|c7 l8 B1<|b8 0))<|λ_=>t6)
   (c5 (C7 aBa rfl (OC<|tH (b8 0) (U8 d6)<|U8 d6) (W8 (n:=2) rfl<|p7 (k8 4 u)<|p7 (k8 5 u) Q3)<|d7<|IA 3 (c7 p5 (PD.pb<|i8 (b8 3)<|c7 A4 (b8 4)<|b8 2)<|b8 5)<|c7 A4 (b8 4)<|b8 2)
   (d7<|FA 3<|j1<|P1 ["total"] ["script"] [0] rfl (J6 (sc:=c9 J0) (N:=X6)) (n8<|d5 3) (RL λ_ _ _ _ _=>(dN aM B (d5 0)<|c7 A4 (PD.pb<|dN L3 B (d5 1) d6) B1))<|λ_=>t6))))
 match p,h with
 |[.lst Y,.int e],h=>
  simp only[dR]at h;split at h
  .rename_i hc;rw[<-h];obtain⟨z,hl,L,h1⟩:=hc;obtain⟨c0,b0⟩:=NN z 0 (by decide) (by decide);obtain⟨c1,b1⟩:=NN z 1 (by decide) (by decide);have C:=gB Y L;have O:W2 (.int (cJ Y 0)) (.int (e-3))=.ok (.int ((cJ Y 0).fmod (e-3))):=Z3 (by lia);have Q:fO [.int (4+(cJ Y 0).fmod (e-3))]=.ok ((aBv<|w6 Y e).map λ(k:Nat)=>D.int (k:Int)):=by rw[<-C.2.2];exact uw (by lia)
   have t0:=FB (w6 Y e) (by lia);have cm:u5 (λd ρ=>R.ok (aCP ρ 0<|Sl.v d)) (λx=>R.ok true) (λρ=>(((qI 0 ρ).bind λy=>R8 (D.int 5) y).bind λx=>(qI 0 ρ).bind λy=>R8 x y).bind λx=>((qI 0 ρ).bind λy=>R8 (D.int 3) y).bind λy=>lS x y) [.no] ((aBv<|w6 Y e).map λ(k:Nat)=>D.int (k:Int))=.ok ((wT<|w6 Y e).map D.int):=by
    unfold wT;rw[aBK];refine L4 (λ(k:Nat)=>D.int (k:Int)) _ _ λk E=>⟨[.v (.int k)],rfl,?_⟩;have jm:k<w6 Y e:=by simpa using E
    have A:bits (k:Int)<=80:=L0 (by lia) (by lia);have m1:R8 (.int 5) (.int k)=.ok (.int (5*k)):=f8 (l7.of (show bits 5<=80 by decide) A);have m2:R8 (.int (5*(k:Int))) (.int k)=.ok (.int (5*k*k)):=f8 (l7.of (bits_mul (show bits 5<=80 by decide) A) A);have m3:R8 (.int 3) (.int k)=.ok (.int (3*k)):=f8 (l7.of (show bits 3<=80 by decide) A);simp[m1,m2,m3]
   have en:KJ [.lst ((Y.take 63).drop 2)]=.ok (sF 0<|(Y.take 63).drop 2):=by rw[<-QT];rfl
   have l1:w6 Y e<=sizeLine:=aAp (show w6 Y e<=20 by lia) (by decide);have hlc:((Y.take 63).drop 2).length<=61:=by simp;lia
   have H:M4 1048576 ((Y.take 63).drop 2):=λx I=>z x (aEw<|aDK I);have T:=LW z L h1;have q5:=nM (a:=cJ Y 1) (b:=5) (by decide);have m5:W2 (.int (cJ Y 1)) (.int 5)=.ok (.int ((cJ Y 1).fmod 5)):=Z3 (by decide);have cf:u5 (λd ρ=>R.ok (aCP ρ 0<|Sl.v d)) (λx=>R.ok true) (λρ=>((U1 0 ρ).bind λd=>(((((U1 1 ρ).bind λd=>R.ok [d,D.int 1]).bind bF).bind λx=>W2 x (D.int 5)).bind λd=>R.ok [d]).bind λp=>R.ok (d::p)).bind Z5) [.no,.v (.lst Y)] ((zJ Y e).map D.int)=.ok ((fM Y e).map vd):=by unfold fM;rw[aBK];refine L4 D.int _ _ λt ht=>⟨[.v (.int t),Sl.v (.lst Y)],rfl,?_⟩;have:=GX (t:=t) (way:=(cJ Y 1).fmod 5) (l6 (T.2 t ht) (by decide)) q5.1 (by lia);simp[c1,m5,this]
   have U:((zJ Y e).map D.int).length<=sizeLine:=by rw[aAi,T.1];exact aAp (show w6 Y e<=20 by lia) (by decide)
   have q:0<w6 Y e:=by lia
   simp only[<-C.2.2]at Q O⊢;simp-implicitDefEqProofs [j6,c0,O,Q,cm,l1,f9,cx,en,<-C.2.2];refine Z1 (λp ρ=>∃(k:Nat) (l:List D) (ts:List Int) (a b:Sl),p=sF k l/\ρ=[.v (.lst Y),.v (.int e),.v (.int (w6 Y e:Int)),.o (ts.map D.int),a,b]/\wO (w6 Y e) k l ts=zJ Y e/\ts.length=w6 Y e/\M4 1048576 l) ?_ ⟨0,(Y.take 63).drop 2,wT (w6 Y e),_,_,rfl,rfl,rfl,t0.1,H⟩ ?_
   .rintro d p ρ ⟨k,l,ts,a,b,m,rfl,f,J,r⟩;match l,m,f,r with
    |y::l,m,f,r=>
     obtain⟨i,rfl,hb⟩:=r _ (.head _);injection m with m e2;subst m e2;have E:k%w6 Y e<ts.length:=by rw[J];exact aEe _ q
     have mk:W2 (.int (k:Int)) (.int (w6 Y e:Int))=.ok (.int ((k%w6 Y e:Nat):Int)):=(Z3 (by lia)).trans (by rw[aET _ (by lia)];rfl);have ix:R7 (.lst (ts.map D.int)) (.int ((k%w6 Y e:Nat):Int))=.ok (.int (ts.getD (k%w6 Y e) 0)):=M7 (by rw[Y7 (by lia),aBH,aAF,aAo,aAj E];rfl)
     have s:BU (ts.map D.int).length ((k%w6 Y e:Nat):Int)=some (k%w6 Y e):=by unfold BU;rw[kn (by lia),kn (by rw[aAi];lia),aBH]
     refine⟨[.v (.lst Y),.v (.int e),.v (.int (w6 Y e:Int)),.o ((ts.set (k%w6 Y e)<|ts.getD (k%w6 Y e) 0+i).map D.int),.v (.int (k:Int)),.v (.int i)],?_,k+1,l,_,_,_,rfl,rfl,f,by simpa using J,λx I=>r x (.tail _ I)⟩;clear f;rw[aAi]at s;generalize k%w6 Y e=j at*
     generalize ts.getD j 0=tj at*
     simp[K8,bS,K4,eS,mk,ix,YR,s]
   .rintro ρ ⟨k,l,ts,a,b,m,rfl,f,J,r⟩;match l,m,f with
    |[],_,f=>
     have f:ts=zJ Y e:=f;subst f;have l3:(zJ Y e).length<=sizeLine:=by rw[aAi]at U;exact U
     simp[QO,P8,l3,cf]
  .exact absurd h (by simp)
def bA (fK:x5 P w K mg base 1 "_law_way" 2 m6)(aV:x5 P w K mg base 1 "_law_cross" 2 w9)(F5:x5 P w K mg base 1 "_law_product" 2 k5)(g:fD K mg "_law_solid" M5):x5 P w K mg base 2 "_law_solid" 1 cW:=by
 refine' n6 (k:=1) (F:=_) g qP (λy e dc f=>?b) λl d r h=>?_
 case b=>
  refine' (c5 (oH 1 ["one"] ["points"] [0] f rfl (J6 (sc:=c9 M5) (N:=aY)) (n8<|d5 0) (RL λ_ _ _ _ _=>(dN fK y (i8 (b8 1) d6)<|d5 0))<|λ_=>t6)
   (c5 (C7 aBa rfl (n8<|d5 1) (k8 2 f) (d7 (C7 aBa rfl (n8<|d5 1) (k8 3 f) (c5 (j2 4 (dN aV y (d5 2)<|d5 3) f)
   (d7<|x9 (FS.pt<|FH (k9 (bU e) (b8 4)<|PD.pb<|IW d6 d6 d6)<|xF<|k9 (bU e) (PD.pb<|P1 ["w"] ["crossed"] [4] rfl (J6 (sc:=c9 M5) (N:=aY)) (n8<|d5 1) (hxt λ_ _ _ _ _=>⟨(k9 (bU e) (PD.pb<|dN F5 y (d5 1)<|d5 0) B1),(d5 0)⟩)<|λ_=>t6)<|PD.pb<|fV o7) (d7<|j1<|d5 0) n4)))))
   (c5 (EI (i8 (b8 0) d6)<|W8 (n:=3) rfl<|p7 (k8 5 f)<|p7 (k8 6 f)<|p7 (k8 7 f) Q3)
   (d7<|j1<|c7 p5 (b8 0)<|PD.pb<|fV<|i9 (IW (c7 p5 (b8 5) B1) (d5 6)<|d5 7)<|i9 (IW (d5 5) (c7 p5 (b8 6) B1)<|d5 7)<|i9 (IW (d5 5) (d5 6)<|c7 p5 (b8 7) B1) o7))))
 match l,h with
 |[.lst Y],h=>
  simp only[cW]at h;split at h
  .rename_i j e1;rw[o9 e1];split at h
   .rename_i hz;rw[<-h];obtain⟨ai,A,r⟩:=hz;match j,ai with
    |P::ps,_=>
    have m:=UJ (P:=P) (ps:=ps);have C:=XV (P:=P) (ps:=ps);obtain⟨j,hpts⟩:∃q,P::ps=q:=⟨_,rfl⟩;have E:R7 (.lst (j.map vd)) (.int 0)=.ok (vd P):=M7 (by rw[Y7 (by decide),<-hpts];rfl);rw[hpts]at m C A r⊢;have c1:u5 (λd ρ=>R.ok (aCP ρ 0<|Sl.v d)) (λx=>R.ok true) (λρ=>(((qI 1 ρ).bind λx=>R7 x (D.int 0)).bind λd=>((U1 0 ρ).bind λd=>R.ok [d]).bind λl=>R.ok (d::l)).bind m6) [.no,.v (.lst (j.map vd))] (j.map vd)=.ok ((j.map (· -P)).map vd):=by rw[aBK];refine L4 vd _ _ λq H=>⟨[.v (vd q),Sl.v (.lst (j.map vd))],rfl,?_⟩;show((R7 (.lst (j.map vd))<|.int 0).bind _).bind _=_;rw[E];rfl
    have i:∀w∈j.map (· -P),Sz 301 w:=λw i=>by obtain⟨q,H,rfl⟩:=aAk.mp i;exact(A q H).sub (A P (by rw[<-hpts];exact .head _))
    have I:j.length<=sizeLine:=aAp r (by decide);have J:(j.map (· -P)).length<=sizeLine:=by rw[aAi];exact I
    generalize j.map (· -P)=W at*
    have c2:∀u∈W,∀v∈W,u5 (λd ρ=>R.ok (aCP ρ 0<|Sl.v d)) (λρ=>((((U1 1 ρ).bind λd=>((U1 0 ρ).bind λd=>R.ok [d]).bind λl=>R.ok (d::l)).bind k5).bind λx=>AF x (D.int 0)).bind EY) (U1 0) [.no,.v (vd<|G.cr u v)] (W.map vd)=.ok ((W.filter λw=>decide (G.b9 (G.cr u v) w≠0)).map vd):=λu e v s=>by refine T7 vd _ _ _ λw hW=>⟨[.v (vd w),Sl.v (vd<|G.cr u v)],rfl,?_,λ_=>rfl⟩;show((k5 [vd (G.cr u v),vd w]).bind _).bind _=_;rw[iE ((i u e).cr (i v s)).mono (i w hW).mono,R.aa0,OI];show R.ok _=_;congr 1;rw[aDE];simp
    simp[j6,f9,I,c1,P8];refine VO (x:=.lst (j.map vd)) vd (WY W) (λρ=>∃a b c,ρ=[.v (.lst (j.map vd)),.v (.lst (W.map vd)),a,b,c,.no,.no,.no]) ⟨_,_,_,rfl⟩ ?_ ?_ ?_
    .rintro u e ρ ⟨a,b,c,rfl⟩;simp[P8];refine nB vd (XJ W u) (λρ=>∃b c,ρ=[.v (.lst (j.map vd)),.v (.lst (W.map vd)),.v (vd u),b,c,.no,.no,.no]) ?_ W _ ⟨_,_,rfl⟩ ?_
     .rintro ρ ⟨b,c,rfl⟩;exact⟨_,_,_,rfl⟩
     .rintro v s ρ ⟨b,c,rfl⟩;have B:=cA (i u e).mono (i v s).mono;have O:=c2 u e v s;have c4:((W.filter λw=>decide (G.b9 (G.cr u v) w≠0)).map vd)=((W.filter λw=>decide (G.b9 (G.cr u v) w≠0)).map vd):=rfl;have Q:(!(W.filter λw=>decide (G.b9 (G.cr u v) w≠0)).isEmpty)=true↔∃w∈W,G.b9 (G.cr u v) w≠0:=by rw[Bool.not_eq_true',<-Bool.not_eq_true,List.isEmpty_iff,aEb];simp
      have t:=VH (W.filter λw=>decide (G.b9 (G.cr u v) w≠0));unfold XJ;rw[<-Q];clear Q c4;generalize(W.filter λw=>decide (G.b9 (G.cr u v) w≠0))=L at*
      generalize G.cr u v=X at*
      have o:=ne0 X;by_cases p:X=0
      .refine .inr ⟨λz=>z.1 p,[.v (.lst (j.map vd)),.v (.lst (W.map vd)),.v (vd u),.v (vd v),.v (vd X),.no,.no,.no],?_,_,_,rfl⟩;simp only[p,decide_true,aDd]at o;simp[-jY,B,p,o,EY]
      .simp only[p,decide_false,Bool.not_false]at o;cases T:L.isEmpty with
       |true=>rw[T]at t;refine .inr ⟨λz=>by simp at z,[.v (.lst (j.map vd)),.v (.lst (W.map vd)),.v (vd u),.v (vd v),.v (vd X),.no,.no,.no],?_,_,_,rfl⟩;simp[-jY,B,o,EY,P8,J,O,t,seen]
       |false=>rw[T]at t;refine .inl ⟨⟨p,rfl⟩,?_⟩;simp[-jY,B,o,EY,P8,J,O,t,seen]
    .intro q;rw[m q]
    .rintro q ρ ⟨a,b,c,rfl⟩;rw[C q];have U:(j.map vd).length+3<=sizeLine:=by rw[aAi];exact aAp (Nat.add_le_add_right r 3) (by decide)
     rw[aAi]at U;have s3:3<=sizeLine:=by decide
     simp[E,MX,bS,K4,eS,cB,wF,lS,s3,U]
   .exact absurd h (by simp)
  .exact absurd h (by simp)
def X4 (g:fD K mg "_law_slants" P6):x5 P w K mg base 1 "_law_slants" 1 T6:=by
 refine' n6 (k:=0) (F:=_) g nD (λU I Y o=>?b) λJ d hl h=>?_
 case b=>
  refine' (c5 (j2 1 (fV<|i9 (c7 u6 (PD.pb<|c7 A4 (PD.pb<|c7 A1 (b8 0) B1) B1) B1)<|i9 (c7 u6 (PD.pb<|c7 A4 (PD.pb<|c7 A1 (b8 0) B1) B1) B1)<|i9 (c7 u6 (PD.pb<|c7 A4 (PD.pb<|c7 A1 (b8 0) B1) B1) B1) o7) o)
   (c5 (x9 (k9 (eT I) (PD.pb<|c7 A4 (b8 0) B1) B1) (d7<|oH 1 ["number"] [] [] o rfl (J6 (sc:=c9 P6) (N:=eN)) (n8<|d5 1) (RL λ_ _ _ _ _=>(c7 l8 (b8 0) B1))<|λ_=>t6) n4)
   (c5 (j2 2 (c7 u6 (PD.pb<|c7 A4 (PD.pb<|c7 l8 (PD.pb<|c7 A1 (b8 0) B1) B1)<|PD.pb<|c7 p5 (PD.pb<|c7 l8 B1<|PD.pb<|c7 fI B1 B1) B1)<|PD.pb<|c7 fI B1 B1) o)
   (d7<|j1<|c7 p5 (b8 1)<|PD.pb<|fV<|i9 (d5 2)<|i9 (c7 u6 B1<|PD.pb<|c7 A1 (b8 2) B1)<|i9 (c7 A4 (PD.pb<|c7 A1 (b8 0) B1) B1)<|i9 (c7 A4 (PD.pb<|c7 A1 (b8 0) B1) B1) o7))))
 match J,h with
 |[.int t],h=>
  simp only[T6]at h;split at h
  .rename_i L;rw[<-h];have f:JD (.int 10) (.int 20)=.ok (.int 100000000000000000000):=(wN ⟨by decide,by decide,by decide⟩).trans (by rfl);have i:R8 (.int 2) (.int 100000000000000000000)=.ok (.int 200000000000000000000):=(f8 (l7.of (show bits 2<=80 by decide) (show bits 100000000000000000000<=80 by decide))).trans (by rfl);have j:∀{x w:Int},0<w->W2 (.int x) (.int w)=.ok (.int (x.fmod w)):=λO=>Z3 O;have e:∀{x w:Int},0<w->bits w<=80->Q4 (.int x) (.int w)=.ok (.int (x.fdiv w)):=λw0 Q=>aJ ⟨by lia,w5 Q⟩;have p:Q4 (.int t) (.int 3)=.ok (.int (t.fdiv 3)):=e (by decide) (by decide);have l:Q4 (.int t) (.int 21)=.ok (.int (t.fdiv 21)):=e (by decide) (by decide);have a:Q4 (.int t) (.int 147)=.ok (.int (t.fdiv 147)):=e (by decide) (by decide);have q:Q4 (.int t) (.int 9)=.ok (.int (t.fdiv 9)):=e (by decide) (by decide);have r:Q4 (.int t) (.int 1029)=.ok (.int (t.fdiv 1029)):=e (by decide) (by decide);have s:Q4 (.int (xX t)) (.int 7)=.ok (.int ((xX t).fdiv 7)):=e (by decide) (by decide);have T:bits (t.fdiv 1029)<=3000000:=bits_fdiv L;have u:R8 (.int (t.fdiv 1029)) (.int 271828182845904523536)=.ok (.int (t.fdiv 1029*271828182845904523536)):=f8 (l7.of T (show bits 271828182845904523536<=80 by decide));have v:∀x:Int,W2 (.int x) (.int 7)=.ok (.int (x.fmod 7)):=λx=>j (by decide);have y:∀x:Int,W2 (.int x) (.int 3)=.ok (.int (x.fmod 3)):=λx=>j (by decide);have m:∀x:Int,W2 (.int x) (.int 50)=.ok (.int (x.fmod 50)):=λx=>j (by decide);have z:∀x:Int,W2 (.int x) (.int 2)=.ok (.int (x.fmod 2)):=λx=>j (by decide);have A:∀x:Int,W2 (.int x) (.int 200000000000000000001)=.ok (.int (x.fmod 200000000000000000001)):=λx=>j (by decide);have B:(t.fdiv 1029*271828182845904523536).fmod 200000000000000000001-100000000000000000000=xX t:=rfl;have C:∀k:Int,(t.fdiv k).fmod 7-3=s7 t k:=λk=>rfl;have E:∀k:Int,R8 (.int (s7 t k)) (.int 7654321)=.ok (.int (s7 t k*7654321)):=λk=>by exact f8 (l7.of (bits_sub (n:=80) (bits_fmod (by decide) (by decide)) (by decide)) (show bits 7654321<=80 by decide))
   by_cases H:t.fmod 3=2
   .simp[j6,f,i,p,l,a,q,r,s,u,v,y,m,z,A,B,C,E,H,WA,OQ,sizeLine,wF,lS,f9]
   .simp[j6,f,i,p,l,a,q,r,s,u,v,y,m,z,A,B,C,E,H,WA,OQ,sizeLine,wF,lS,f9]
  .exact absurd h (by simp)
def U4 (g:fD K mg "_law_slanted" V1):x5 P w K mg base 1 "_law_slanted" 2 J9:=by
 refine' n6 (k:=0) (F:=_) g lR (λhr O dc j=>?b) λQ d hl h=>?_
 case b=>
  refine' (c5 (EI (d5 0)<|W8 (n:=3) rfl<|p7 (k8 2 j)<|p7 (k8 3 j)<|p7 (k8 4 j) Q3)
   (c5 (j2 2 (c7 p5 (b8 2)<|PD.pb<|c7 l8 (PD.pb<|i8 (b8 1) d6)<|b8 3) j)
   (c5 (j2 3 (c7 p5 (b8 3)<|PD.pb<|c7 l8 (PD.pb<|i8 (b8 1) d6)<|b8 4) j)
   (c5 (j2 4 (c7 p5 (b8 4)<|PD.pb<|c7 l8 (PD.pb<|i8 (b8 1) d6)<|b8 2) j)
   (c5 (x9 (k9 (eT O) (PD.pb<|i8 (b8 1) d6) B1) (d7<|KO 2 3 rfl j<|i9 (d5 3)<|i9 (d5 2) o7) n4)
   (d7<|j1<|IW (c7 p5 (b8 2)<|PD.pb<|i8 (b8 1) d6) (c7 p5 (b8 3)<|PD.pb<|i8 (b8 1) d6)<|c7 p5 (b8 4)<|PD.pb<|i8 (b8 1) d6))))))
 match Q,h with
 |[p,.lst Y],h=>
  simp only[J9]at h;split at h
  .rename_i P l T U;rw[tJ T,qC U];split at h
   .rename_i o;rw[<-h];obtain⟨⟨q,m⟩,hP⟩:=o;match l,q,m with
    |[a,b,c,f,i,e,s],_,m=>
     obtain⟨x,y,z⟩:=P;obtain⟨hx,r,o⟩:=hP;have t:bits a<=100:=m a (by simp);have il:bits b<=100:=m b (by simp);have hc:bits c<=100:=m c (by simp);have u:R8 (.int a) (.int y)=.ok (.int (a*y)):=f8 (l7.of t r);have v:R8 (.int b) (.int z)=.ok (.int (b*z)):=f8 (l7.of il o);have A:R8 (.int c) (.int (x+a*y))=.ok (.int (c*(x+a*y))):=f8 (l7.of hc<|bits_add (w5 (n:=600) hx)<|bits_mul t r);have B:R7 (.lst [.int a,.int b,.int c,.int f,.int i,.int e,.int s]) (.int 0)=.ok (.int a):=M7 rfl;have C:R7 (.lst [.int a,.int b,.int c,.int f,.int i,.int e,.int s]) (.int 1)=.ok (.int b):=M7 rfl;have E:R7 (.lst [.int a,.int b,.int c,.int f,.int i,.int e,.int s]) (.int 2)=.ok (.int c):=M7 rfl;have H:R7 (.lst [.int a,.int b,.int c,.int f,.int i,.int e,.int s]) (.int 3)=.ok (.int f):=M7 rfl;have I:R7 (.lst [.int a,.int b,.int c,.int f,.int i,.int e,.int s]) (.int 4)=.ok (.int i):=M7 rfl;have J:R7 (.lst [.int a,.int b,.int c,.int f,.int i,.int e,.int s]) (.int 5)=.ok (.int e):=M7 rfl;have L:R7 (.lst [.int a,.int b,.int c,.int f,.int i,.int e,.int s]) (.int 6)=.ok (.int s):=M7 rfl;by_cases N:s=1
     .subst N;simp[j6,vd,OQ,u,v,A,B,C,E,H,I,J,L,yV,G.Sl.put,cB,sizeLine,MX,bS,K4,eS]
     .simp[j6,vd,OQ,u,v,A,B,C,E,H,I,J,L,yV,G.Sl.put,cB,sizeLine,MX,bS,K4,eS,N]
   .exact absurd h (by simp)
  .exact absurd h (by simp)
def cQ (bA:x5 P w K mg base 2 "_law_solid" 1 cW)(X7:x5 P w K mg base 2 "_law_points" 2 dR)(L3:x5 P w K mg base 1 "_law_cell" 2 bF)(U4:x5 P w K mg base 1 "_law_slanted" 2 J9)(X4:x5 P w K mg base 1 "_law_slants" 1 T6)(g:fD K mg "_law_land" W5):x5 P w K mg base 3 "_law_land" 2 mK:=by
 refine' n6 (k:=2) (F:=_) g wD (λe E dc j=>?b) λf d l h=>?_
 case b=>
  refine' (c5 (j2 2 (yZ bA e<|dN X7 e (d5 0)<|d5 1) j)
   (c5 (j2 3 (c7 A1 (PD.pb<|dN L3 e (d5 0) d6) B1) j)
   (c5 (x9 (k9 (eT E) (PD.pb<|c7 A4 (b8 3) B1) B1) (d7<|j1<|d5 2) n4)
   (d7<|j1<|P1 ["point"] ["cell"] [3] rfl (J6 (sc:=c9 W5) (N:=kZ)) (n8<|d5 2) (RL λ_ _ _ _ _=>(dN U4 e (d5 0)<|yZ X4 e<|d5 1))<|λ_=>t6))))
 match f,h with
 |[.lst Y,.int a],h=>
  simp only[mK]at h;split at h
  .rename_i H;rw[<-h];obtain⟨i,l,m,n⟩:=H;obtain⟨o,I⟩:=NN i 1 (by decide) (by decide);obtain⟨r,s,p3⟩:=OV i m n;have ne:fM Y a≠[]:=λz=>by rw[z]at s;simp at s
   have t:=AJ i l m n;have u:=IL ne (λp J=>(r p J).mono) (by lia);have y:Q4 (.int (cJ Y 1)) (.int 5)=.ok (.int ((cJ Y 1).fdiv 5)):=rV (by decide) (by decide);have A:W2 (.int ((cJ Y 1).fdiv 5)) (.int 3)=.ok (.int (((cJ Y 1).fdiv 5).fmod 3)):=Z3 (by decide);have L:=AO (c:=(cJ Y 1).fdiv 5) (bits_fdiv<|w5 I);have O:=NB ((cJ Y 1).fdiv 5);obtain⟨Q,q2⟩:=PK r;have T:(eI<|fM Y a).length<=sizeLine:=aAp (show(eI<|fM Y a).length<=40 by lia) (by decide);unfold kN;generalize(cJ Y 1).fdiv 5=C at*
   generalize eI (fM Y a)=S at*
   by_cases B:C.fmod 3=0
   .simp-implicitDefEqProofs [j6,o,t,u,y,A,B]
   .have U:u5 (λd ρ=>R.ok (aCP ρ 0<|Sl.v d)) (λx=>R.ok true) (λρ=>((U1 0 ρ).bind λd=>((((U1 1 ρ).bind λd=>R.ok [d]).bind T6).bind λd=>R.ok [d]).bind λf=>R.ok (d::f)).bind J9) [.no,.v (.int C)] (S.map vd)=.ok ((S.map (yV<|WA C).put).map vd):=by rw[aBK];refine L4 vd _ _ λq hq=>⟨[.v (vd q),Sl.v (.int C)],rfl,?_⟩;have:=xT (P:=q) O ((Q q hq).mono);simp only[eJ,kU,R.aa0,L,this];rfl
    simp-implicitDefEqProofs [j6,o,t,u,y,A,B,P8,T,f9,U]
  .exact absurd h (by simp)
section
seal PySem.eval
def o_law {f:cp}{fd:ek}(cQ:x5 P w K mg base 3 "_law_land" 2 mK)(iY:x5 P w K mg base 10 "body_of" 1 aE)(J8:x5 P w K mg base 9 "faces_of" 1 K0)(fU:x5 P w K mg base 10 "edges_of" 1 gF)(F5:x5 P w K mg base 1 "_law_product" 2 k5)(jf:mg "list"=none)(ic:mg "len"=none)(gr:mg "range"=none)(F0:Fun K "law" "law" aH f fd):FnOk P w K mg base wG 11 f fd ["script"] (gq K 1 mF):=by
 refine' fnD (k:=10) (F:=_) F0 KE (λL A outer s H E hr=>?b) λds d hl h=>?_
 case b=>
  have Q:=hr.units;have dc:=hr.ae7;have z:=KE.nd;refine' (c5 (j2 1 (dN cQ hr (d5 0) d6) z)
   (c5 (j2 2 (yZ iY hr<|eG wH<|B8 (b8 1) J3) z)
   (c5 (j2 3 (yZ J8 hr<|eG wH<|B8 (b8 1) J3) z)
   (c5 (j2 4 (yZ fU hr<|eG wH<|B8 (b8 2) J3) z)
   (c5 (x9 (k9 (bU Q) (PD.pb<|c7 p5 (PD.pb<|GV U5<|b8 2)<|PD.pb<|GV U5<|b8 3)<|PD.pb<|c7 p5 (PD.pb<|GV U5<|b8 4) B1) (d7<|j1 pK) n4)
   (c5 (xG 5 z)
   (c5 (C7 aBa rfl (n8<|d5 3) (W8 (n:=2) rfl<|p7 (k8 6 z)<|p7 (k8 7 z) Q3) (c5 (C7 aBa rfl (jU<|B8 (PD.pb<|GV U5<|b8 7) J3) (k8 8 z) (c5 (j2 9 (AH (i8 (b8 7)<|c7 u6 (b8 8) B1)<|i8 (b8 7)<|d5 8) z)
   (d7<|pJ 5 (c7 p5 (PD.pb<|RX 5 (d5 9) d6 dc) B1) (d5 9) dc)))
   (d7<|x9 (k9 (bU Q) (PD.pb<|P1 ["one"] ["plane"] [6] rfl (J6 (sc:=c9 aH) (N:=yX)) (n8<|d5 2) (hxt λ_ _ _ _ _=>⟨(k9 yW (PD.pb<|dN F5 hr (d5 1)<|d5 0)<|PD.pb<|i8 (b8 1) d6),(d5 0)⟩)<|λ_=>t6)<|PD.pb<|fV o7) (d7<|j1 pK) n4)))
   (c5 (x9 (FS.pt<|pV (k9 (bU Q) (PD.pb<|UZ 5)<|PD.pb<|c7 l8 B1<|PD.pb<|GV U5<|b8 4)<|lV<|k9 (bU Q) (PD.pb<|yL ["way"] ["ways"] [5] rfl (J6 (sc:=c9 aH) (N:=yX)) (KW 5) (hxt λ_ _ _ _ _=>⟨(k9 (bU Q) (PD.pb<|XE 1 0 (d5 0) dc) B1),(d5 0)⟩)<|λ_=>t6)<|PD.pb<|fV o7) (d7<|j1 pK) n4)
   (c5 (C7 aBa rfl (n8<|d5 4) (W8 (n:=2) rfl<|p7 (k8 10 z)<|p7 (k8 11 z) Q3)<|d7<|x9 (FS.pt<|pV (iN 5 (AH (d5 10)<|d5 11) dc)<|pV (iN 5 (AH (d5 11)<|d5 10) dc)<|lV<|RU<|k9 (YH Q) (b8 10)<|b8 11) (d7<|j1 pK) n4)
   (c5 (C7 aBa rfl (n8<|d5 2) (k8 12 z) (c5 (j2 13 (GV U5<|PD.pb<|P1 ["pair"] ["corner"] [12] rfl (J6 (sc:=c9 aH) (N:=yX)) (n8<|d5 4) (hxt λ_ _ _ _ _=>⟨(k9 (ZO Q) (b8 1)<|b8 0),(d5 0)⟩)<|λ_=>t6) z)
   (c5 (j2 14 (GV U5 (PD.pb (P1 ["plane", "ring"] ["corner"] [12] rfl (J6 (sc:=c9 aH) (N:=yX)) (n8<|d5 3) (by rintro pins fp X2 ⟨s0,H1,C,rfl⟩;exact⟨(W8 (n:=2) rfl (p7 (k8 0 (show(["plane", "ring", "corner"]:List Str).Nodup by decide+kernel)) (p7 (k8 1 (show(["plane", "ring", "corner"]:List Str).Nodup by decide+kernel)) Q3))),(DR<|k9 (jz Q) (b8 2)<|b8 1),(d5 1)⟩)<|λ_=>NZ))) z)
   (d7<|x9 (FS.pt<|pV (k9 FP (b8 13) B1)<|lV<|k9 (bU Q) (b8 13)<|b8 14) (d7<|j1 pK) n4))))
   (d7<|j1 pK)))))))))))
 replace h:=pF h;obtain⟨Y,ds,rfl,h⟩:=h;replace h:=D7 h;obtain⟨rfl,h⟩:=h;replace h:=bj h;obtain⟨⟨hl,hi⟩,rfl⟩:=h
 .·skip
   have LL:=MO hi hl (most:=10) (by decide) (by decide);obtain⟨a1,a2,a3⟩:=RK hi (most:=10) (by decide) (by decide);generalize kN Y 10=j at*
   have h1:T9 900 j:=⟨λp hp=>(a2 p hp).mono,by lia⟩;have h3:(c8 j).length<=23:=aAp (BB _) (by lia);have BO:=RI h1 a1 h3;have FO:=mT h1 a1 h3;obtain⟨b1,b2,b3,b4,b5,b6⟩:=rS h1 a1 h3;have EO:=KN b2 b1 (by rw[b3];exact b4);obtain⟨es,ee,el,eu,nW,lW,cn⟩:=UP h1 a1 h3;rw[ee]at EO;have AB:=SM h1 a1 h3;obtain⟨lf,rl⟩:=oz h1 a1 h3;clear h1 h3 a1 a2 a3 b1 b2 b3 b5 b6 ee;generalize A2 j=c at*
   generalize j0 (c8 j)=fs at*
   generalize c8 j=S at*
   have lC:=BH vd c;have lF:=BH (k7 S) fs;have lE:=BH u4 es;have tC:=iQ (c.map vd);have tF:=iQ (fs.map<|k7 S);have tE:=iQ (es.map u4);have ec:AF (.int ((c.length:Int)+fs.length)) (.int ((es.length:Int)+2))=.ok (.bl false):=by rw[show(c.length:Int)+fs.length=(es.length:Int)+2 by lia];exact lY (by simp[A7])
   simp only[j6,aAv,aGa,aBr,aEH,aAt,aBL,Nat.reduceAdd,Nat.reduceSub,List.replicate_succ,List.replicate_zero];refine V2 (ρ:=[.v (.lst Y),.v (.lst (j.map vd)),.no,.no,.no,.no,.no,.no,.no,.no,.no,.no,.no,.no,.no]) (bQ LL rfl) ?_;refine V2 (ρ:=[.v (.lst Y),.v (.lst (j.map vd)),.v (.lst (c.map vd)),.no,.no,.no,.no,.no,.no,.no,.no,.no,.no,.no,.no]) (bQ BO rfl) ?_;refine V2 (ρ:=[.v (.lst Y),.v (.lst (j.map vd)),.v (.lst (c.map vd)),.v (.lst (fs.map<|k7 S)),.no,.no,.no,.no,.no,.no,.no,.no,.no,.no,.no]) (bQ FO rfl) ?_;refine V2 (ρ:=[.v (.lst Y),.v (.lst (j.map vd)),.v (.lst (c.map vd)),.v (.lst (fs.map<|k7 S)),.v (.lst (es.map u4)),.no,.no,.no,.no,.no,.no,.no,.no,.no,.no]) (bQ EO rfl) ?_;have n0:AF (.lst []) (.lst [])=.ok (.bl false):=lY (by simp[A7,w8]);clear LL BO FO EO;generalize D.lst Y=m;generalize D.lst (j.map vd)=o;generalize D.lst (c.map vd)=q at*
   generalize D.lst (fs.map<|k7 S)=r at*
   generalize D.lst (es.map u4)=t at*
   refine V2 (ρ:=[.v m,.v o,.v q,.v r,.v t,.no,.no,.no,.no,.no,.no,.no,.no,.no,.no]) ?_ ?_
   .exact yQ (bQ (bQ (bQ lC<|bQ lF rfl)<|bQ (bQ lE rfl) ec) rfl)
   refine V2 (ρ:=[.v m,.v o,.v q,.v r,.v t,.d [],.no,.no,.no,.no,.no,.no,.no,.no,.no]) rfl ?_;refine vM (x:=fs.map (k7 S)) tF ?_;refine Z1 (λrest ρ=>∃done T B I l g,rest=T.map (k7 S)/\ρ=[.v m,.v o,.v q,.v r,.v t,.d (D9<|K3 S done),B,I,l,g,.no,.no,.no,.no,.no]/\done++T=fs) ?_ ⟨[],fs,_,_,_,_,rfl,rfl,rfl⟩ ?_
   .rintro d ds ρ ⟨done,T,B,I,l,g,e1,rfl,O⟩;match T,e1,O with
    |f::T,e1,O=>
     injection e1 with e3 e4;subst e3 e4;have hF:f∈fs:=by rw[<-O];simp
     have e5:(done++[f])++T=fs:=by rw[<-O];simp
     have er:K3 S (done++[f])=K3 S done++R6 (G.d4 S f):=by simp[K3]
     rw[<-O]at nW;have rf:=rl f hF;have cl:=AB f hF;have i3:R7 (mJ f.1 f.2) (.int 3)=.ok (.int f.2):=EJ rfl;have fr:=λ(i:Nat) (h:i<(G.d4 S f).length)=>SU nW h;have sx:=λ(i:Nat) (h:i<(G.d4 S f).length)=>UC h;have tk:(R6<|G.d4 S f).take (G.d4 S f).length=R6 (G.d4 S f):=aDp (by simp[R6]);have rg:(R.ok [.int (((G.d4 S f).map vd).length:Int)]:R (List D)).bind fO=.ok (mU 0 (G.d4 S f).length):=by rw[R.aa0,aAi];exact xq (by lia)
     refine WS (ρ':=[.v m,.v o,.v q,.v r,.v t,.d (D9<|K3 S done),.v (mJ f.1 f.2),.v (.lst ((G.d4 S f).map vd)),l,g,.no,.no,.no,.no,.no]) rfl ?_;generalize G.d4 S f=ring at*
     generalize mJ f.1 f.2=pl at*
     refine ZY (λρ=>∃l g,ρ=[.v m,.v o,.v q,.v r,.v t,.d (D9<|K3 S<|done++[f]),.v pl,.v (.lst (ring.map vd)),l,g,.no,.no,.no,.no,.no]) (ZJ (x:=mU 0 ring.length) ?_ (ZP (λi ρ=>∃l g,ρ=[.v m,.v o,.v q,.v r,.v t,.d (D9<|K3 S done++(R6 ring).take i),.v pl,.v (.lst (ring.map vd)),l,g,.no,.no,.no,.no,.no]) ?_ ?_ ?_)) ?_
     .exact rg
     .rintro i _ hi ρ ⟨l,g,rfl⟩;have hi:i<ring.length:=by lia
      obtain⟨f1,f2,f3⟩:=fr i hi;obtain⟨s1,s2⟩:=sx i hi;refine JV (ρ':=[.v m,.v o,.v q,.v r,.v t,.d (D9<|K3 S done++(R6 ring).take i),.v pl,.v (.lst (ring.map vd)),.v (.int (i:Int)),g,.no,.no,.no,.no,.no]) rfl ⟨[.v m,.v o,.v q,.v r,.v t,.d (D9<|K3 S done++(R6 ring).take (i+1)),.v pl,.v (.lst (ring.map vd)),.v (.int (i:Int)),.v (u4<|U9 ring i),.no,.no,.no,.no,.no],?_,_,_,rfl⟩;rw[f2];show B5 _ _=_;have tp:cB [vd (U9 ring i).1,vd (U9 ring i).2]=.ok (u4<|U9 ring i):=rfl;generalize U9 ring i=e at*
      exact JU (ρ:=[.v m,.v o,.v q,.v r,.v t,.d (D9<|K3 S done++(R6 ring).take i),.v pl,.v (.lst (ring.map vd)),.v (.int (i:Int)),.v (u4 e),.no,.no,.no,.no,.no]) (bQ (bQ (pk s1 s2) tp) rfl) (bQ (x:=D.int 1) (bQ (wj rfl f1) rfl) (bQ (x:=u4 e) rfl (tq (ρ:=[.v m,.v o,.v q,.v r,.v t,.d (D9<|K3 S done++(R6 ring).take i),.v pl,.v (.lst (ring.map vd)),.v (.int (i:Int)),.v (u4 e),.no,.no,.no,.no,.no]) rfl f1 (by rw[O]at f3;lia))))
     .exact⟨_,_,by rw[List.take_zero,aBR]⟩
     .rintro ρ ⟨l,g,rfl⟩;exact⟨l,g,by rw[aEm,tk,er]⟩
     .rintro ρ ⟨l,g,rfl⟩;refine⟨[.v m,.v o,.v q,.v r,.v t,.d (D9<|K3 S<|done++[f]),.v pl,.v (.lst (ring.map vd)),l,g,.no,.no,.no,.no,.no],?_,done++[f],T,_,_,_,_,rfl,rfl,e5⟩;exact yQ (bQ (bQ (bQ tC (zZ vd c (by lia) λv hv=>⟨[.v (vd v),.v pl],rfl,bQ (bQ (cl v hv).1 (bQ i3 ((pH _ _).trans (by rw[decide_eq_false (Int.not_lt.mpr (cl v hv).2)])))) rfl⟩)) n0) rfl)
   .rintro ρ ⟨done,T,B,I,l,g,e1,rfl,O⟩;have:T=[]:=by simpa using e1.symm
    subst this;rw[aBR]at O;rw[O];clear e1 O;generalize K3 S fs=w at*
    have lw:w.length<=30000:=by lia
    have m2:=xz lW (by lia);have ni:=λ(n:Nat)=>lY (d:=.int (n:Int)) (by simp[A7]);have n1:AF (.int 1) (.int 1)=.ok (.bl false):=lY (by simp[A7]);refine V2 (ρ:=[.v m,.v o,.v q,.v r,.v t,.d (D9 w),B,I,l,g,.no,.no,.no,.no,.no]) ?_ ?_
    .refine yQ (FY (bQ (bQ (a0e rfl lw)<|bQ (bQ rfl<|bQ lE m2)<|ni _) rfl)<|bQ (bQ (bQ (ZR rfl)<|zZ u4 w lw λe he=>⟨[.v (u4 e),.d (D9 w)],rfl,bQ (bQ (uk (a:=.v (u4 e)) he) n1) rfl⟩) n0) rfl)
    refine vM (x:=es.map u4) tE ?_;refine yI (λρ=>∃u y,ρ=[.v m,.v o,.v q,.v r,.v t,.d (D9 w),B,I,l,g,u,y,.no,.no,.no]) ?_ ⟨_,_,rfl⟩ ?_
    .rintro d hd ρ ⟨u,y,rfl⟩;obtain⟨e,he,rfl⟩:=aAk.mp hd;obtain⟨t1,t2,t3⟩:=el e he;exact WS (ρ':=[.v m,.v o,.v q,.v r,.v t,.d (D9 w),B,I,l,g,.v (vd e.1),.v (vd e.2),.no,.no,.no]) rfl ⟨_,yQ (FY (FW (ρ:=[.v m,.v o,.v q,.v r,.v t,.d (D9 w),B,I,l,g,.v (vd e.1),.v (vd e.2),.no,.no,.no]) rfl t2) (FY (FW (ρ:=[.v m,.v o,.v q,.v r,.v t,.d (D9 w),B,I,l,g,.v (vd e.1),.v (vd e.2),.no,.no,.no]) (e:=(e.2,e.1)) rfl t3) (XD (bQ ((a2q e.1 e.2).trans (by rw[t1])) rfl)))),_,_,rfl⟩
    rintro ρ ⟨u,y,rfl⟩;refine vM (x:=c.map vd) tC ?_;refine yI (λρ=>∃a12 U J,ρ=[.v m,.v o,.v q,.v r,.v t,.d (D9 w),B,I,l,g,u,y,a12,U,J]) ?_ ⟨_,_,_,rfl⟩ ?_
    .rintro d hd ρ ⟨a12,U,J,rfl⟩;obtain⟨v,hv,rfl⟩:=aAk.mp hd;obtain⟨c3,ce⟩:=cn v hv;refine JV (ρ':=[.v m,.v o,.v q,.v r,.v t,.d (D9 w),B,I,l,g,u,y,.v (vd v),U,J]) rfl ⟨[.v m,.v o,.v q,.v r,.v t,.d (D9 w),B,I,l,g,u,y,.v (vd v),.v (.int (G.cnt (λf=>v∈G.d4 S f) fs:Int)),.v (.int (G.cnt (λf=>v∈G.d4 S f) fs:Int))],?_,_,_,_,rfl⟩;refine JU (ρ:=[.v m,.v o,.v q,.v r,.v t,.d (D9 w),B,I,l,g,u,y,.v (vd v),.v (.int (G.cnt (λf=>v∈G.d4 S f) fs:Int)),J]) ?_ ?_
     .rw[<-ce];exact bQ (oj tE (zR u4 (λe=>v=e.1\/v=e.2) u4 es (by lia) λe he=>⟨[.v (u4 e),.v (vd v)],rfl,bQ (lq v e) rfl,rfl⟩)) rfl
     refine JU (ρ:=[.v m,.v o,.v q,.v r,.v t,.d (D9 w),B,I,l,g,u,y,.v (vd v),.v (.int (G.cnt (λf=>v∈G.d4 S f) fs:Int)),.v (.int (G.cnt (λf=>v∈G.d4 S f) fs:Int))]) ?_ ?_
     .exact bQ (oj tF (zR (k7 S) (λf=>v∈G.d4 S f) (λf=>.lst ((G.d4 S f).map vd)) fs (by lia) λf hf=>⟨[.v (mJ f.1 f.2),.v (.lst ((G.d4 S f).map vd)),.v (vd v)],rfl,bQ (a1q v _) rfl,rfl⟩)) rfl
     have nc:=ni (G.cnt (λf=>v∈G.d4 S f) fs);generalize G.cnt (λf=>v∈G.d4 S f) fs=n at*
     exact yQ (FY (bQ ((XG _ _).trans (by rw[decide_eq_false (show¬(n:Int)<3 by lia)])) rfl)<|bQ nc rfl)
    rintro ρ ⟨a12,U,J,rfl⟩;rfl
end
end
end K23
section
namespace K23
open PySem L2 DL M
def truth (ns:List Int)(a:ns.length<=63)(b:∀x∈ns,aBf x<=1048576):mF [.lst (ns.map D.int)]=.ok (.bl true):=by unfold mF;exact kn ⟨by simpa using a,VI b⟩
section
variable [Tabs]
def all_mk {l:PySem.W.OpenLaw}{w:cz}{K:lb}{h:de}{mg:cE}{fa f31 Pt:cp}(X:K.In h)(G:h.Ns cv mg)(hfa:mg "law"=some (.ref fa))
  (g0:Got K "way_between" Y4)
  (g1:Got K "cross_of" fF)
  (g2:Got K "product_of" bM)
  (g3:Got K "common_divisor" N7)
  (g4:Got K "plane_through" R4)
  (g5:Got K "side_of" iW)
  (g6:Got K "first_real_way" O7)
  (g7:Got K "dimension_of" B7)
  (g8:Got K "refuse_flat" Y5)
  (g9:Got K "points_on" W7)
  (g10:Got K "plane_about" X5)
  (g11:Got K "first_pair" bE)
  (g12:Got K "turn_of" jC)
  (g13:Got K "left_chain" bI)
  (g14:Got K "ring_of" jL)
  (g15:Got K "pairs_round" Y3)
  (g16:Got K "faces_from" aW)
  (g17:SS K "faces_of" J5 Pt)
  (g18:Got K "corners_in" bC)
  (g19:Got K "body_of" jI)
  (g20:Got K "edges_of" bB)
  (g21:Got K "_law_cell" cN)
  (g22:Got K "_law_way" fZ)
  (g23:Got K "_law_cross" aZ)
  (g24:Got K "_law_product" V0)
  (g25:Got K "_law_point" aU)
  (g26:Got K "_law_points" J0)
  (g27:Got K "_law_solid" M5)
  (g28:Got K "_law_slants" P6)
  (g29:Got K "_law_slanted" V1)
  (g30:Got K "_law_land" W5)
  {od31 an31:Option cp} {sl31:Array (Option ae)} {oc31 kV31 dc31 pm31 cd31 ct31:ae}
  (a31:PySem.W.nsIn K cv "law"=some (some (.ref f31))) (l31:K.lookup f31=some ⟨oc31,od31,.func (PySem.W.fnOf "law" "law" (E8 aH) (t5 aH) (c9 aH) .none kV31 dc31 pm31 an31 cd31 ct31),sl31⟩) (e31:PySem.W.codeIn K cd31 "law"=true) (k31:PySem.W.keepIn K (.ref f31)=true)
  (z_abs:PySem.W.nsIn K cv "abs"=some none)
  (z_len:PySem.W.nsIn K cv "len"=some none)
  (z_any:PySem.W.nsIn K cv "any"=some none)
  (z_min:PySem.W.nsIn K cv "min"=some none)
  (z_list:PySem.W.nsIn K cv "list"=some none)
  (y:PySem.W.nsIn K cv "reversed"=some none)
  (z_zip:PySem.W.nsIn K cv "zip"=some none)
  (Y:PySem.W.nsIn K cv "sorted"=some none)
  (z_set:PySem.W.nsIn K cv "set"=some none)
  (z_max:PySem.W.nsIn K cv "max"=some none)
  (z_range:PySem.W.nsIn K cv "range"=some none)
  (z_tuple:PySem.W.nsIn K cv "tuple"=some none)
  (t:PySem.W.nsIn K cv "enumerate"=some none)
  {ma:cp} {H:Option cp} {z A B:Tok} {I:Nat} {J:Array (Option ae)}
  (L:PySem.W.nsIn K cv "NO_WAY"=some (some (.ref ma))) (N:K.lookup ma=some ⟨.type "tuple",H,.seq #[.int 0 z,.int 0 A,.int 0 B] I,J⟩)
  (nt:(Pt,tbK)∈Tabs.tbs)
  (truth:∀ns:List Int,ns.length<=63->(∀x∈ns,aBf x<=1048576)->mF [.lst (ns.map D.int)]=.ok (.bl true)):
  ∃fd:ek,(∀(s:be) (v:ae),BindsTo s fd ⟨[v],[]⟩ [("script",v)])/\∀base:de,K.In base->base.Ns cv mg->iF mg base->FnOk l.prog w K mg base wG 11 fa fd ["script"] (uF K):=by
 have e:=hfa.symm.trans (PySem.W.mg_of X G a31);cases e;have b_abs:=PySem.W.mg_none_of X G z_abs;have ic:=PySem.W.mg_none_of X G z_len;have b_any:=PySem.W.mg_none_of X G z_any;have uh:=PySem.W.mg_none_of X G z_min;have jf:=PySem.W.mg_none_of X G z_list;have ki:=PySem.W.mg_none_of X G y;have b_zip:=PySem.W.mg_none_of X G z_zip;have bh:=PySem.W.mg_none_of X G Y;have lu:=PySem.W.mg_none_of X G z_set;have b_max:=PySem.W.mg_none_of X G z_max;have gr:=PySem.W.mg_none_of X G z_range;have ui:=PySem.W.mg_none_of X G z_tuple;have jh:=PySem.W.mg_none_of X G t;have cb:LN K mg "NO_WAY" [0,0,0]:=ZX (PySem.W.mg_of X G L) N;refine⟨PySem.W.fnOf "law" "law" (E8 aH) (t5 aH) (c9 aH) .none kV31 dc31 pm31 an31 cd31 ct31,λs v=>.of_eq rfl,λbase _ _ hB=>?_⟩;have bg:x5 l.prog w K mg base 1 "way_between" 2 m6:=o6 (g0.def X G);have fm:x5 l.prog w K mg base 1 "cross_of" 2 w9:=D1 (g1.def X G);have br:x5 l.prog w K mg base 1 "product_of" 2 k5:=y6 (g2.def X G);have a:x5 l.prog w K mg base 1 "common_divisor" 1 G2:=O8 b_abs (g3.def X G);have d:=R5 fm bg a br (g4.def X G);have O:x5 l.prog w K mg base 1 "side_of" 2 Z4:=iK (g5.def X G);have b:x5 l.prog w K mg base 1 "first_real_way" 1 z7:=G3 cb (g6.def X G);have gh:=F3 bg b fm br ic b_any (g7.def X G);have g:=X9 gh (g8.def X G);have ji:=F1 O (g9.def X G);have ie:=G8 bg br fm d cb (g10.def X G);have k:=aQ ji ie gh uh (g11.def X G);have Q:=jV br fm bg (g12.def X G);have m:=S7 Q ic (g13.def X G);have T:=jA m jf ki (g14.def X G);have ig:x5 l.prog w K mg base 1 "pairs_round" 1 v5:=I9 jf b_zip (g15.def X G);have n:=aP ie T ig ic bh (g16.def X G);have ir:=J8 ji g k n bh lu hB nt (g17.def X G);have o:x5 l.prog w K mg base 8 "corners_in" 1 F9:=aK bh lu (g18.def X G);have U:=iY o ir (g19.def X G);have C:=fU ir ig uh b_max bh lu (g20.def X G);have jl:x5 l.prog w K mg base 1 "_law_cell" 2 bF:=L3 ic (g21.def X G);have E:x5 l.prog w K mg base 1 "_law_way" 2 m6:=fK (g22.def X G);have p:x5 l.prog w K mg base 1 "_law_cross" 2 w9:=aV (g23.def X G);have gi:x5 l.prog w K mg base 1 "_law_product" 2 k5:=F5 (g24.def X G);have q:x5 l.prog w K mg base 1 "_law_point" 2 Z5:=aM gr ui (g25.def X G);have i:=X7 jl q gr jh (g26.def X G);have r:=bA E p gi (g27.def X G);have j:x5 l.prog w K mg base 1 "_law_slants" 1 T6:=X4 (g28.def X G);have f:x5 l.prog w K mg base 1 "_law_slanted" 2 J9:=U4 (g29.def X G);have u:=cQ r i jl f j (g30.def X G);exact RV (o_law u U ir C gi jf ic gr<|LK (st:=aH) l31 e31 k31) truth
end
end K23
namespace PySem.W.Fast
def tw8319636670372966108:=0
def tw12209976399936359498:=0
def tw6620065658144617104:=0
def tw7250010455098058639:=0
def tw1586169232627974117:=0
def tw901795846385677987:=0
def tw4398700950378640813:=0
def tw15388169357982338949:=0
def tw727105984259898524:=0
def tw11479814303400347108:=0
def tw14012120573543095972:=0
def tw12463696057805966160:=0
def tw1475372822211071799:=0
def tw18391699915480727514:=0
def tw14867067339502468011:=0
def tw4677246579172652101:=0
def tw476548300056839809:=0
def tw7116744285422589354:=0
def tw6140471044543873137:=0
def tw14441126481307427380:=0
def tw14370081842752322414:=0
def tw17169270470211099182:=0
def tw4236150898713836019:=0
def tw219266817517416063:=0
def tw9267060394146767510:=0
def tw13827009983508600825:=0
def tw16483789560239642562:=0
def tw12791173080720038463:=0
def tw8896424157443871397:=0
def tw9797216564770910335:=0
def tw1507159830906205229:=0
def tw14752318325885532657:=0
def tw15654749004032473987:=0
def tw16146865875905075560:=0
def tw13699612833895235443:=0
def tw186611162126423661:=0
def tw238696614388194201:=0
def tw14840540482630856429:=0
def tw8731019601600446158:=0
def tw2164983701377818995:=0
def tw13377254495911377760:=0
def tw7601256460173248661:=0
def tw7607259949955252303:=0
def tw5860751402650726087:=0
def tw8386652092503919001:=0
def tw14292166044922468713:=0
def tw4056817636943653557:=0
def tw2854426833554234022:=0
def tw6165619921106538947:=0
def tw16466004434893012064:=0
def tw16791503482135015365:=0
def tw804246033880284533:=0
def tw12092333571908473059:=0
def tw11446747168555788001:=0
def tw3694624251580296386:=0
def tw7728405211419070044:=0
def tw13954163980021352554:=0
def tw12512814731835555123:=0
def tw4900406363272093125:=0
def tw15438378864936940517:=0
def tw15082055671990516249:=0
def tw11483943466877791551:=0
def tw12372667334875758592:=0
def tw10168471529695826542:=0
def tw8254433189752883431:=0
def tw8295048890742456786:=0
def tw3857016081999443796:=0
def tw13377572583491729588:=0
def tw17567008804231764948:=0
def tw7155413502324860379:=0
def tw6844520407266349158:=0
def tw18102743586971967156:=0
def tw8958773012687246710:=0
def tw16259723794483593342:=0
def tw3895817101057193978:=0
def tw11547964989950325236:=0
def tw12102634696333045118:=0
def tw16659276635933240025:=0
def tw7530501053332502495:=0
def tw12160296401469798237:=0
def tw2055676756271917500:=0
def tw5062668200854389882:=0
def tw10641625970890283853:=0
def tw5435138063290768390:=0
def tw16605483827956154420:=0
def tw11205746898715180883:=0
def tw14238924046472397116:=0
def tw6089408013784471374:=0
def tw14815989152884771411:=0
def tw4641473663972718702:=0
def tw4934214230983613477:=0
def tw107491396180864886:=0
def tw7946319603033292978:=0
def tw3070962780957892048:=0
def tw812905225079888201:=0
def tw9464117118858223678:=0
def tw14191106931674638193:=0
def tw11436469339703087235:=0
def tw16761430660439487327:=0
def tw17976057843123575724:=0
def tw17593263890941401886:=0
def tw6370087259437285447:=0
def tw14634718133360973694:=0
def tw4168641810739433025:=0
def tw6716930268148854487:=0
def tw2691651938672244019:=0
def tw13602341126757655836:=0
def tw13638526443636362998:=0
def tw3042589658820206383:=0
def tw13710159853743986841:=0
def tw13051344087935739499:=0
def tw8243647393465335381:=0
def tw455909371674667718:=0
def tw6005025436917241471:=0
def tw17743144657861593997:=0
def tw6269544668535148429:=0
def tw8542461722071025026:=0
def tw8890738948908392921:=0
def tw11357114662108115458:=0
def tw3638931361446104438:=0
def tw10342924069095344352:=0
def tw12944610782725331056:=0
def tw16547805275530096881:=0
def tw7061403936711946899:=0
def tw5572401834122859959:=0
def tw6734559539783451104:=0
def tw828904814957239677:=0
def tw10903540212660651706:=0
def tw1794682033616060188:=0
def tw4503254111082152273:=0
def tw14208914385187790522:=0
def tw15830629890067614483:=0
def tw2166108399435665753:=0
def tw2434871847097101982:=0
def tw1327506376299285868:=0
def tw1677246825784838:=0
def tw10137126881905099129:=0
def tw10454682218937349225:=0
def tw10493897392202678213:=0
def tw13873359497560503851:=0
def tw14801580293372516476:=0
def tw15587096775350068538:=0
def tw15667011396264001116:=0
def tw17708969710992047130:=0
def tw17741988330072012169:=0
def tw17989165696227764536:=0
def tw2750003783901307038:=0
def tw3556162460431230166:=0
def tw3697552566219278933:=0
def tw3909183862660237292:=0
def tw4169444405763335283:=0
def tw4508587529735642975:=0
def tw4762571287608189239:=0
def tw5060358198324599384:=0
def tw5272904423418802375:=0
def tw5651815449672752872:=0
def tw5686428270384119785:=0
def tw5849482167910633343:=0
def tw6266044347121522983:=0
def tw6501559092748881229:=0
def tw7331299947100377862:=0
def tw9879036357394548582:=0
def tw2939355110273721519:=0
def tw12468601218781871424:=0
def tw17994831025847413279:=0
def tw14964876931869334090:=0
def tw8893444386774067456:=0
def tw13342521263921788938:=0
def tw13404034476529350777:=0
def tw10650170472542456464:=0
def tw11782254486976103003:=0
def tw1795930640083328877:=0
def tw18005974769641711873:=0
def tw314275710447851734:=0
def tw9318306533061211909:=0
def tw8732192151199588434:=0
def tw5556626368800991038:=0
def tw8900576306888924823:=0
def tw10011328423667229011:=0
def tw14285185141763527472:=0
def tw6032619851256937418:=0
def tw10462993165739820977:=0
def tw11125493345200287866:=0
def tw16018992482318921799:=0
def tw5473754277115017224:=0
def tw11613682722754918504:=0
def tw7092939196820921607:=0
def tw1577263170088101524:=0
end PySem.W.Fast
open PySem PySem.W PyProof.Rows
set_option maxRecDepth 100000 in
theorem PySem.Challenge.cw_stakebodies_k23_whole_rings_edges_faces_holds : PySem.Challenge.rw_stakebodies_k23_whole_rings_edges_faces.Holds := by
 w_on;o_law;k_head;(case hw=>w_witness2)
 k_fill
 letI tabs9:DL.Tabs:=⟨[(169,K23.tbK)]⟩
 refine DL.RJ (l:=PySem.Challenge.rw_stakebodies_k23_whole_rings_edges_faces) (k:=11) rfl rfl ⟨rfl,by decide,by decide⟩ (λw h Y=>⟨PySem.W.km_in_of Y,PySem.W.km_tabs_of Y⟩) (DL.SB (c:=173) (by k_mem) (λw=>by kernel_rfl)) (aAG.mpr ⟨aAJ,aDl⟩) (λw=>by kernel_rfl) ?F
 case F=>
  intro w mg fa h KX G hmg;refine' K23.all_mk KX G hmg ?_ ?_ ?_ ?_ ?_ ?_ ?_ ?_ ?_ ?_ ?_ ?_ ?_ ?_ ?_ ?_ ?_ ?_ ?_ ?_ ?_ ?_ ?_ ?_ ?_ ?_ ?_ ?_ ?_ ?_ ?_ ?a31 ?l31 ?e31 ?k31 ?z_abs ?z_len ?z_any ?z_min ?z_list ?z_reversed ?z_zip ?z_sorted ?z_set ?z_max ?z_range ?z_tuple ?z_enumerate ?ca_NO_WAY ?cl_NO_WAY (aAN.mpr rfl) K23.truth
  all_goals first|(refine' DL.ax ?a ?l ?c ?k;(case a=>k_is);(case l=>k_is);(case c=>k_is);(case k=>k_is))|(refine' DL.QL ?a ?l ?c ?k rfl ?n;(case a=>k_is);(case l=>k_is);(case c=>k_is);(case k=>k_is);(case n=>kernel_rfl))|k_is|skip
end
