import PyProof.Rows.All
import Wide.All
import OpenK.AllK
import Wide.FinOn
import Lean
import PyProof.EqAt
import PyProof.EqKinds
import PyProof.TupleCall
import PyProof.NeKinds
import KE.RegKIsAll
import PyProof.ExcClass3
import PySem.SetTable
import PySem.Value
import PyProof.Rows.SortShellK
import OpenK.KOwn
import KE.KNestM
import PyProof.Rows.StrWeight2
import KE.KRevSl
import PyProof.CollectIter
import PyProof.SetKind
import PyProof.Walks
import PyProof.ForAny
import PyProof.FactsAll.set_1
import PyProof.FactsAll.set_2
import PyProof.ZipIter
import KE.KRevIter
import PyProof.ListNew
import PyProof.ConsumeS
import KE.KIsAll
import PyProof.DictWalks
import KE.KDictList
import PyProof.WalksMore
import PySem.Challenge.RW_stakebodies_k26_whole_where_in_great_bod
set_option Elab.async false
set_option linter.all false
set_option backward.eqns.nonrecursive false
set_option maxRecDepth 100000
set_option maxHeartbeats 4000000
theorem h9{c:Prop}{h:Decidable c}(k:c){α:Sort _}{t e:α}:ite c t e=t:=if_pos k
theorem ib{c:Prop}{h:Decidable c}(k:¬c){α:Sort _}{t e:α}:ite c t e=e:=if_neg k
theorem i5{α:Sort _}{β:Sort _}{a b:α}(f:α->β)(h:a=b):f a=f b:=congrArg f h
abbrev i6:=PySem.W.Frag
abbrev jh:PySem.Str:="__debug__"
abbrev ji:PySem.Str:="__classdict__"
open PySem renaming Value → ae, wpAny → ag, starEach → ar, Shared → a9, Addr → bb, model → bc, Program → be, mainGlobals → bg, Around → cf, World → cp, Heap → cq, Expr → cu, bootBuiltins → cv, argBest → cy, backTo → cz, Stmt → df, cLine → dg, eval → dm, FuncData → dn, assignEach → dq, compareOp → dA, cellsFrom → dC, binaryOp → d3, NameKind → d9, rawInt → eh, swapsWith → ek, foldedSetIterable → et, SetTable → eQ, pyNext → eR, codeAmong → eY, holding → fg, codeAny → fh, updateSeq → fo, IsPair → gh, swapsWithSole → gk, swappedStores → gm, attributeBase → gn, assign → gv, richCompare → gy, sliceBounds → gW, behindInMarks → hF, Scope → hH, pickOrder → hV, wpAny_bind → aAa, wpAny_pure → aAb, wpAny_holding → aAR, wpAny_Call_Name_kw → aAW, wpAny_newObj_type → aBt, codeAny_builtin → aBu, wpAny_seqItems → aBx, plainId_quiet → aBB, wpAny_call_entry → aBC, wpAny_specialOf → aBD, wpAny_updateSeq → aBF, wpAny_truthy_bool → aBO, wpAny_setField_rec → aCe, wpAny_forIn_list → aCh, wpAny_setState_of → aCk, builtinLookup_eq_fast → aCq, wpAny_mono → aCs, wpAny_callSpecial?_slot → aCy, wpAny_field → aCS, wpAny_letGo → aCT, wpAny_tryCatch → aCU, wpAny_passesOwn → aCX, wpAny_nextOf_list_item → aDo, wpAny_callSpecialIfBoundUnlessNone?_slot → aDu, wpAny_loadPart' → aDy, typeLookup_type → aDC, wpAny_rule → aDD, wpAny_pyIter_list → aDE, wpAny_isInstance → aDP, codeAny_mono → aDU, wpAny_typeOf → aDV, wpAny_execs_cons → aEs, wpAny_attempt → aEz, wpAny_standAt → aEA, wpAny_execs_nil → aEH, pushCells_keeps → aEI, wpAny_setEntries_of → aEK, slot_dict_contains → aFe, isSubtype_type → aFh, wpAny_Assign_Name → aFn, wpAny_pyIter_slot → aFt, sizeLine_eq → aFx, noFill_tuple_add → aFD, beq_builtin_none → aFF, wpAny_askSetting → aFG, concat_meets → aFV, wpAny_newTuple → aGg, wpAny_of_eq → aGp
open PySem.Heap renaming get?_push_of_some → aAc, lt_size → aAf, get?_push_size → aAp, get?_update_other → aAx, get?_update_self → aBa, size_push → aBw, get?_none_of_le → aEy
open List renaming mem_cons → aAd, mem_cons_of_mem → aAe, getElem?_eq_getElem → aAg, mem_map → aAi, length_map → aAj, getD_eq_getElem?_getD → aAl, size_toArray → aAn, map_cons → aAr, length_cons → aAt, mem_of_getElem? → aAu, pairwise_cons → aAz, getElem?_append_right → aAA, length_append → aAB, getElem?_eq_some_iff → aAC, not_mem_nil → aAD, nodup_cons → aAE, mem_append_right → aAG, getElem?_map → aAI, mem_filter → aAK, mem_cons_self → aAN, set_cons_succ → aAO, set_cons_zero → aAP, reverse_cons → aAQ, mem_append → aAU, mem_singleton → aAV, getElem?_append_left → aAZ, mem_flatMap → aBc, cons_append → aBh, lookup_cons → aBi, filter_sublist → aBj, getLast?_cons_cons → aBn, length_nil → aBo, getElem_of_mem → aBp, mem_map_of_mem → aBq, dropLast_concat → aBr, mem_append_left → aBs, range → aBy, getElem?_replicate → aBA, all_eq_true → aBE, getElem?_zip_eq_some → aBH, getElem?_set_self → aBJ, zip_cons_cons → aBK, map_map → aBL, lookup_cons_self → aBM, pairwise_map → aBN, getElem?_eq_none_iff → aBR, length_take → aBT, getElem_mem → aBU, getElem?_toArray → aBY, sum_cons → aCa, mem_filterMap → aCb, forall_mem_cons → aCg, nodup_iff_pairwise_ne → aCi, pairwise_iff_getElem → aCl, append_nil → aCo, length_replicate → aCp, map_append → aCr, mem_reverse → aCv, getElem?_set_ne → aCw, getElem?_cons_zero → aCx, getElem?_cons_succ → aCz, mem_range → aCB, nodup_append → aCD, filterMap_cons → aCF, length_reverse → aCH, exists_cons_of_ne_nil → aCL, perm_ext_iff_of_nodup → aCM, nodup_nil → aCP, replicate → aCQ, mem_of_getLast? → aCW, forIn_cons → aDa, set → aDh, getElem_map → aDj, length_pos_of_mem → aDl, take_of_length_le → aDn, filterMap_map → aDq, map → aDt, mem_iff_getElem? → aDw, nil_append → aDB, mem_of_mem_drop → aDH, drop_eq_getElem_cons → aDL, length_drop → aDO, length_pos_iff → aDR, replicate_succ → aDS, replicate_zero → aDT, pairwise_singleton → aDX, of_mem_zip → aDY, filter_eq_nil_iff → aEc, flatMap_cons → aEd, ext_getElem? → aEf, forIn_nil → aEh, pairwise_reverse → aEi, length_filter_le → aEj, map_nil → aEo, dropLast_eq_take → aEp, getElem?_eq_none → aEq, any_eq_true → aEr, zipIdx_cons → aEu, eq_nil_of_length_eq_zero → aEv, mem_of_mem_take → aEx, dropLast_concat_getLast → aEB, map_congr_left → aED, foldl_cons → aEG, zipIdx_nil → aEJ, head?_reverse → aET, getLast?_cons → aEU, zip_nil_right → aFc, exists_mem_of_ne_nil → aFg, length_erase_of_mem → aFk, zip_nil_left → aFr, append_assoc → aFs, filter_cons_of_pos → aFv, filter_cons_of_neg → aFw, eraseIdx_cons_succ → aFy, map_reverse → aFE, range_succ_eq_map → aFK, getElem_cons_succ → aFM, drop_eq_nil_of_le → aFO, length_singleton → aFP, take_append_drop → aFQ, length_set → aFW, mem_erase_of_ne → aFZ, length_dropLast → aGc, drop_zero → aGi, length → aGk, all_cons → aGt
open Nat renaming le_refl → aAh, ne_of_lt → aAm, le_trans → aAs, lt_of_lt_of_le → aAw, zero_le → aAX, lt_irrefl → aBf, lt_succ_of_lt → aBg, le_of_succ_le → aCE, ne_of_gt → aDd, lt_succ_self → aDi, lt_or_eq_of_le → aDr, lt_of_le_of_lt → aDs, le_of_lt → aDx, mod_lt → aEe, le_of_eq → aEn, le_of_not_lt → aEt, le_antisymm → aEE, zero_add → aEX, mul_le_mul → aFi, le_of_lt_succ → aFm, reduceAdd → aFA, reduceSub → aFB, gcd_dvd_left → aFC, le_add_right → aFH, not_lt_zero → aFS, min_eq_left → aFT, succ_mul → aGG, lt_trans → aGJ, succ_pos → aGK
open False renaming elim → aAk
open Int renaming mul_eq_zero → aAo, mul_nonpos_of_nonneg_of_nonpos → aAv, mul_neg_of_pos_of_neg → aAy, mul_le_mul_of_nonneg_left → aAH, le_of_lt → aAM, mul_le_mul_of_nonneg_right → aAS, mul_nonneg → aBl, mul_pos → aBm, mul_pos_of_neg_of_neg → aBG, mul_zero → aBP, le_refl → aBV, toNat_natCast → aBZ, lt_or_le → aDc, lt_or_gt_of_ne → aDp, neg_mul_neg → aDv, fdiv_eq_ediv_of_nonneg → aDG, eq_of_mul_eq_mul_left → aDI, mul_nonneg_of_nonpos_of_nonpos → aDW, mul_ediv_cancel' → aEw, toNat → aEL, mul_lt_mul_of_pos_left → aEO, le_of_mul_le_mul_right → aEP, fmod_eq_emod_of_nonneg → aES, natAbs_eq_zero → aEV, ofNat_dvd_left → aEW, le_of_mul_le_mul_left → aFf, neg_nonneg_of_nonpos → aFj, mul_ediv_cancel_left → aFu, mul_assoc → aGq, gcd → aGD, mul_comm → aGF, zero_mul → aGH, add_zero → aGI
open Bool renaming false_eq_true → aAq, and_eq_true → aAJ, false_ne_true → aBb, not_true → aDe, eq_iff_iff → aDA, and_false → aGh
open Array renaming getElem?_toList → aAF, getElem?_eq_getElem → aAL, length_toList → aBd, getElem?_eq_some_iff → aCj, forIn_toList → aCu, getElem?_eq_none → aCK, replicate → aEF, perm_iff_toList_perm → aEQ, getD → aFl, toList → aFU, getElem_toList → aGf, toList_append → aGo
open PySem.Builtin.Tuple renaming tupleHashOf → aAT, tupleExact → aCY, tupleItemsOf → aDF, tupleCompareSizes → aEg
open PySem.Around renaming under_plainId → aAY, frames_deeper → aGa
open PySem.Builtin.Int renaming intBits → aBe
open PyProof.Rows renaming callWith_type1 → aBk, wpS_bind → aBz, callWith_builtin1 → aBQ, wpS_pure → aCm, slot_tuple_getitem → aCC, wpS_forRange → aEk, listItems_at → aEm, envOfC → aEN, pairsOf_size → aEY, assignInOrder_cons → aEZ, KK_mirror_equal → aFR, mirror_perm → aGl, wpS_reverse → aGm
open PySem.PassesOwn renaming never → aBv
open PySem.Obj renaming mapSeq → aBI, putSet → aEC
open PySem.Builtin.SmallTypes renaming nextOf → aBS, ownedTupleIsFree → aBX, ownedTupleHandOut → aDN
open Ne renaming symm → aBW
open Or renaming inr → aCc, inl → aCV
open PySem.NameKind renaming cell → aCd
open PySem.Builtin.List renaming listExtendWith → aCf, listLengthHint → aCG, listItems → aCJ, listTooLong → aCZ, listSameRef → aDb, listTouch → aFN
open ForInStep renaming yield → aCn
open PySem.Value renaming type → aCt, bool → aDk, ref → aDJ, notImplemented → aGb, builtin → aGu, int → aGO
open PySem.Builtin.Range renaming rangeSize → aCA, small → aGn
open PySem.Builtin.Builtins renaming bindParams → aCI
open PySem.F renaming plain_min_loop → aCN, plain_max_loop → aCO, plain_extend_loop → aDg, slot_zip_next → aEb, entry_min_loop → aFI, entry_max_loop → aFJ
open PySem.Builtin.Slice renaming slicePlaces → aCR, sliceAdjust → aDK, sliceApplied → aER
open Classical renaming propDecidable → aDf
open Option renaming map_eq_some_iff → aDm, isSome_iff_exists → aFp
open PySem.Str renaming ofString → aDz
open PySem.SetTable renaming below → aDM, bits → aDZ, fits → aGv, insertAt → aGE, tooFull → aGM
open PySem.Moved renaming trans → aDQ
open PySem.SeqAt.EqAt renaming same → aEa, int_int → aFb, of_refs → aFd, int_tuple → aGd, tuple_int → aGe, int_str → aGr, str_int → aGs
open List.cons renaming injEq → aEM
open PySem.Calls renaming spliced_cons → aFa, spliced_nil → aFo, callWith_builtin → aFL
open PySem.AutoSeq1 renaming sub_tuple_tuple → aFq
open PySem.Builtin.Frozenset renaming slot0 → aFz
open Prod renaming ext → aFX
open List.Pairwise renaming filter → aFY, nil → aGx
open List.Perm renaming refl → aGj
open Function renaming comp → aGw
open Sum renaming inl → aGy, inr → aGz
open Option.some renaming injEq → aGA
open True renaming intro → aGB
open PySem.Heap.SameBut renaming refl → aGC
open PySem.pickOrder renaming go → aGL
open Array.Perm renaming refl → aGN
abbrev A4:=PySem.Value->PySem.Shared->Prop
abbrev N4:=List (PySem.Addr×PySem.Obj)
abbrev cH:=PySem.Str->Option PySem.Value
abbrev wO:=Bool->PySem.Shared->Prop
noncomputable section
namespace G
structure V where
 x:Int
 y:Int
 z:Int
deriving DecidableEq
instance:Add V:=⟨λu v=>⟨u.x+v.x,u.y+v.y,u.z+v.z⟩⟩
instance:Sub V:=⟨λu v=>⟨u.x-v.x,u.y-v.y,u.z-v.z⟩⟩
instance:Neg V:=⟨λu=>⟨-u.x,-u.y,-u.z⟩⟩
instance:HMul Int V V:=⟨λk u=>⟨k*u.x,k*u.y,k*u.z⟩⟩
instance:OfNat V 0:=⟨⟨0,0,0⟩⟩
@[simp]def LQ (u v:V):(u+v).x=u.x+v.x:=rfl
@[simp]def QC (u v:V):(u+v).y=u.y+v.y:=rfl
@[simp]def OP (u v:V):(u+v).z=u.z+v.z:=rfl
@[simp]def FW (u v:V):(u-v).x=u.x-v.x:=rfl
@[simp]def EZ (u v:V):(u-v).y=u.y-v.y:=rfl
@[simp]def EF (u v:V):(u-v).z=u.z-v.z:=rfl
@[simp]def xk (u:V):(-u).x=-u.x:=rfl
@[simp]def kz (u:V):(-u).y=-u.y:=rfl
@[simp]def vq (u:V):(-u).z=-u.z:=rfl
@[simp]def qM (k:Int)(u:V):(k*u).x=k*u.x:=rfl
@[simp]def nF (k:Int)(u:V):(k*u).y=k*u.y:=rfl
@[simp]def oH (k:Int)(u:V):(k*u).z=k*u.z:=rfl
@[simp]def cU:(0:V).x=0:=rfl
@[simp]def dE:(0:V).y=0:=rfl
@[simp]def cW:(0:V).z=0:=rfl
def ext {u v:V}(a:u.x=v.x)(b:u.y=v.y)(d:u.z=v.z):u=v:=by cases u;cases v;simp_all
def pG {u v:V}:u=v↔u.x=v.x/\u.y=v.y/\u.z=v.z:=⟨λh=>by subst h;exact⟨rfl,rfl,rfl⟩,λ⟨a,b,c⟩=>ext a b c⟩
def b9 (u v:V):Int:=u.x*v.x+u.y*v.y+u.z*v.z
def cr (u v:V):V:=⟨u.y*v.z-u.z*v.y,u.z*v.x-u.x*v.z,u.x*v.y-u.y*v.x⟩
def f8 (a u v:V):Int:=b9 a (cr u v)
@[simp]def TD (u v:V):(cr u v).x=u.y*v.z-u.z*v.y:=rfl
@[simp]def VJ (u v:V):(cr u v).y=u.z*v.x-u.x*v.z:=rfl
@[simp]def SL (u v:V):(cr u v).z=u.x*v.y-u.y*v.x:=rfl
def CW (a u v w:V):f8 a u v*w+f8 a v w*u+f8 a w u*v=f8 u v w*a:=by apply ext<;>simp[f8,b9]<;>grind
def MU (f a u v w:V):f8 a u v*b9 f w+f8 a v w*b9 f u+f8 a w u*b9 f v=f8 u v w*b9 f a:=by simp[f8,b9];grind
def k7 (a u v:V):f8 a v u=-f8 a u v:=by simp[f8,b9];grind
def C1 (a u:V):f8 a u u=0:=by simp[f8,b9];grind
def aK (a u v w:V):f8 a (u+v) w=f8 a u w+f8 a v w:=by simp[f8,b9];grind
def aM (a u v w:V):f8 a u (v+w)=f8 a u v+f8 a u w:=by simp[f8,b9];grind
def NP (a u v w:V):f8 a u (v-w)=f8 a u v-f8 a u w:=by simp[f8,b9];grind
def zR (a:V)(k:Int)(u v:V):f8 a u (k*v)=k*f8 a u v:=by simp[f8,b9];grind
def dD (u v:V):b9 u v=b9 v u:=by simp[b9];grind
def x4 (f u v:V):b9 f (u+v)=b9 f u+b9 f v:=by simp[b9];grind
def d6 (f u v:V):b9 f (u-v)=b9 f u-b9 f v:=by simp[b9];grind
def f9 (f:V)(k:Int)(v:V):b9 f (k*v)=k*b9 f v:=by simp[b9];grind
def K1 (f:V)(k:Int)(v:V):b9 (k*f) v=k*b9 f v:=by simp[b9];grind
def C0 (f:V):b9 f 0=0:=by simp[b9]
def U1 (a u v:V):b9 (cr a u) v=f8 a u v:=by simp[f8,b9];grind
def u5 {u:V}(h:u≠0):0<b9 u u:=by
 have f:u.x≠0\/u.y≠0\/u.z≠0:=by
  by_cases a:u.x=0
  .by_cases b:u.y=0
   .by_cases c:u.z=0
    .exact absurd (ext a b c) h
    .exact .inr (.inr c)
   .exact .inr (.inl b)
  .exact .inl a
 have e:∀t:Int,0<=t*t:=λt=>by
  rcases Int.le_total 0 t with q|q
  .exact aBl q q
  .have:=aBl (aFj q) (aFj q);rwa [aDv]at this
 have d:∀t:Int,t≠0->0<t*t:=λt g=>by
  have:=e t;have:t*t≠0:=λz=>by rcases aAo.mp z with q|q<;>exact g q
  omega
 have a:=e u.x;have b:=e u.y;have c:=e u.z;unfold b9;rcases f with q|q|q
 .have:=d _ q;omega
 .have:=d _ q;omega
 .have:=d _ q;omega
def x9 (h:n≠0)(a:b9 n u=0)(b:b9 n v=0)(d:b9 n w=0):f8 u v w=0:=by
 have e:f8 u v w*b9 n n=0:=by have:=MU n n u v w;rw[a,b,d]at this;simp at this;omega
 rcases aAo.mp e with q|q
 .exact q
 .have:=u5 h;omega
def v6 (v:V):(0:Int)*v=0:=ext (by simp) (by simp) (by simp)
def oQ (v:V):v+0=v:=ext (by simp) (by simp) (by simp)
def fV (v:V):0+v=v:=ext (by simp) (by simp) (by simp)
structure Cone (Pos:V->Prop):Prop where
 add:∀{u v},Pos u->Pos v->Pos (u+v)
 mul:∀{k:Int} {u},0<k->Pos u->Pos (k*u)
 irr:¬Pos 0
section
variable{Pos:V->Prop} (C:Cone Pos)
include C
theorem Cone.comb {p q:Int}{u w:V}(a:0<p)(e:0<=q)(b:Pos w)(d:Pos u):Pos (p*w+q*u):=by
 by_cases h:q=0
 .subst h;rw[v6,oQ];exact C.mul a b
 .exact C.add (C.mul a b) (C.mul (by lia) d)
theorem Cone.sgn {k:Int}{v:V}(b:Pos v)(h:Pos (k*v)):0<k:=by
 by_cases d:0<k
 .exact d
 .exfalso;by_cases f:k=0
  .subst f;rw[v6]at h;exact C.irr h
  .have a:=C.add h (C.mul (k:=-k) (by lia) b);have e:k*v+-k*v=0:=ext (by simp;grind) (by simp;grind) (by simp;grind);rw[e]at a;exact C.irr a
theorem Cone.tr {a u v w:V}(b:Pos u)(d:Pos v)(f:Pos w)(g:f8 u v w=0)(i:0<f8 a u v)(j:0<=f8 a v w):0<f8 a u w:=by
 refine C.sgn d (k:=f8 a u w) ?_;have e:f8 a u w*v=f8 a u v*w+f8 a v w*u:=by have h:=CW a u v w;rw[g,v6,k7 a u w]at h;have l:=i5 V.x h;have m:=i5 V.y h;have n:=i5 V.z h;simp at l m n;exact ext (by simp;grind) (by simp;grind) (by simp;grind)
 rw[e];exact C.comb i j f b
theorem Cone.tr' {a u v w:V}(b:Pos u)(d:Pos v)(f:Pos w)(g:f8 u v w=0)(i:0<=f8 a u v)(j:0<f8 a v w):0<f8 a u w:=by
 refine C.sgn d (k:=f8 a u w) ?_;have e:f8 a u w*v=f8 a v w*u+f8 a u v*w:=by have h:=CW a u v w;rw[g,v6,k7 a u w]at h;have l:=i5 V.x h;have m:=i5 V.y h;have n:=i5 V.z h;simp at l m n;exact ext (by simp;grind) (by simp;grind) (by simp;grind)
 rw[e];exact C.comb j i b f
end
structure ConeM (a:V)(Pos:V->Prop):Prop extends Cone Pos where
 inv:∀{u} (k:Int),Pos u->Pos (u+k*a)
def ConeM.tr {a:V}{Pos:V->Prop}(C:ConeM a Pos){u v w:V}(b:Pos u)(d:Pos v)(f:Pos w)(g:0<f8 a u v)(i:0<=f8 a v w):0<f8 a u w:=by
 refine C.sgn d (k:=f8 a u w) ?_;have e:f8 a u w*v=(f8 a u v*w+f8 a v w*u)+(-f8 u v w)*a:=by have h:=CW a u v w;rw[k7 a u w]at h;have j:=i5 V.x h;have l:=i5 V.y h;have m:=i5 V.z h;simp at j l m;exact ext (by simp;grind) (by simp;grind) (by simp;grind)
 rw[e];exact C.inv _ (C.comb g i f b)
def d8 (w:V):Prop:=0<w.x\/(w.x=0/\(0<w.y\/(w.y=0/\0<w.z)))
instance(w:V):Decidable (d8 w):=inferInstanceAs (Decidable<|_\/_)
def y8:Cone d8 where
 add:=λ{u v} e f=>by unfold d8 at*;simp;lia
 mul:=λ{k u} a h=>by
  unfold d8 at*
  simp;rcases h with h|⟨h,b|⟨b,d⟩⟩
  .exact .inl (aBm a h)
  .exact .inr ⟨by rw[h];simp,.inl (aBm a b)⟩
  .exact .inr ⟨by rw[h];simp,.inr ⟨by rw[b];simp,aBm a d⟩⟩
 irr:=by unfold d8;simp
def L8 (w:V):Prop:=d8 (-w)
def BB:-(0:V)=0:=rfl
def aR:Cone L8 where
 add:=λ{u v} a b=>by have e:-(u+v)=-u+-v:=ext (by simp;lia) (by simp;lia) (by simp;lia);unfold L8 at*;rw[e];exact y8.add a b
 mul:=λ{k u} d h=>by have e:-(k*u)=k*(-u):=ext (by simp;grind) (by simp;grind) (by simp;grind);unfold L8 at*;rw[e];exact y8.mul d h
 irr:=by unfold L8;rw[BB];exact y8.irr
def SX (w:V):d8 w\/w=0\/L8 w:=by
 unfold L8 d8;rw[pG];simp
 lia
def u7 (v:V):v-v=0:=ext (by simp) (by simp) (by simp)
def eT (a u:V):f8 a u 0=0:=by simp[f8,b9]
def J5 (a u v:V):f8 a u (-v)=-f8 a u v:=by simp[f8,b9];grind
def aJ (a u v:V):f8 a (-u) v=-f8 a u v:=by simp[f8,b9];grind
structure Row (n:V)(Pos:V->Prop)(T:V->Prop):Prop where
 cone:Cone Pos
 nz:n≠0
 pl:∀X Y,T X->T Y->b9 n (X-Y)=0
 tot:∀X Y,T X->T Y->X=Y\/Pos (X-Y)\/Pos (Y-X)
def Lft (n:V)(Pos:V->Prop)(a b X:V):Prop:=0<=f8 n (b-a) (X-a)/\(f8 n (b-a) (X-a)=0->(X=a\/Pos (X-a))/\(X=b\/Pos (b-X)))
def turn (n P Q R:V):Int:=f8 n (Q-P) (R-Q)
def X1 (n P:V):List V->List V
 |b::a::r=>if turn n a b P<=0 then X1 n P (a::r)else b::a::r
 |r=>r
def w8 (n:V)(ps:List V):List V:=ps.foldl (λc P=>P::X1 n P c) []
def D4:List V->List (V×V)
 |b::a::r=>(a,b)::D4 (a::r)
 |_=>[]
def sJ (n:V):List V->Prop
 |b::a::d::r=>0<f8 n (a-d) (b-a)/\sJ n (a::d::r)
 |_=>True
def sJ.tail (h:sJ n (b::r)):sJ n r:=by
 match r,h with
 |[],_=>trivial
 |[_],_=>trivial
 |_::_::_,h=>exact h.2
def O6 (h:e∈D4 r):e∈D4 (b::r):=by
 match r,h with
 |a::r,h=>exact aAe _ h
section
variable{n:V} {Pos:V->Prop} {T:V->Prop} (F:Row n Pos T)
include F
structure ChOk (n:V)(Pos:V->Prop)(done:V->Prop)(c:List V):Prop where
 mem:∀X∈c,done X
 ed:∀e∈D4 c,Pos (e.2-e.1)/\∀X,done X->Lft n Pos e.1 e.2 X
 bend:sJ n c
 last:∀X,done X->∀z,c.getLast?=some z->X=z\/Pos (X-z)
theorem Row.ad0 {done:V->Prop}(f:∀X,done X->T X)(m:Pos x)(o:b9 n x=0):∀(c:List V),(∀X∈c,done X)->(∀e∈D4 c,Pos (e.2-e.1))->sJ n c->(∀b a r,c=b::a::r->0<f8 n (b-a) x)->∀e∈D4 c,0<f8 n (e.2-e.1) x
 |[],_,_,_,_,e,d=>by cases d
 |[_],_,_,_,_,e,d=>by cases d
 |[b,a],_,_,_,h,e,d=>by simp[D4]at d;subst d;exact h b a [] rfl
 |b::a::p::r,g,j,s,h,e,d=>by
  have i:=h b a _ rfl;rcases aAd.mp d with q|q
  .subst q;exact i
  .refine Row.ad0 f m o (a::p::r) (λX t=>g X (aAe _ t)) (λe d=>j e (O6 d)) s.tail ?_ e q;intro w y z k;injection k with k l;injection l with l A;subst k l;have u:=j (p,a) (O6 (by simp[D4]));have v:=j (a,b) (by simp[D4]);exact F.cone.tr u v m (x9 F.nz (F.pl _ _ (f _ (g _ (by simp))) (f _ (g _ (by simp)))) (F.pl _ _ (f _ (g _ (by simp))) (f _ (g _ (by simp)))) o) s.1 (aAM i)
theorem Row.weak (d:Pos u)(a:Pos v)(f:Pos w)(k:b9 n u=0)(l:b9 n v=0)(m:b9 n w=0)(o:0<=f8 n u v)(p:0<=f8 n v w):0<=f8 n u w:=by
 have b:=x9 F.nz k l m;by_cases q:0<f8 n u v
 .exact aAM (F.cone.tr d a f b q p)
 .by_cases r:0<f8 n v w
  .exact aAM (F.cone.tr' d a f b o r)
  .have s:f8 n u v=0:=by lia
   have t:f8 n v w=0:=by lia
   have h:=CW n u v w;rw[s,t,b,v6,v6,v6,fV,fV]at h;by_cases z:f8 n w u=0
   .rw[k7];lia
   .exfalso;have e:v=0:=by have g:=i5 V.x h;have i:=i5 V.y h;have j:=i5 V.z h;simp at g i j;exact ext ((aAo.mp g).resolve_left z) ((aAo.mp i).resolve_left z) ((aAo.mp j).resolve_left z)
    rw[e]at a;exact F.cone.irr a
theorem Row.ad2 {done:V->Prop}(hd:∀X,done X->T X)(v:T P)(m:∀X,done X->Pos (P-X)):∀(c:List V),ChOk n Pos done c->c≠[]->
  (∀X q,c.head?=some q->done X->(X=q\/Pos (X-q))->0<=f8 n (P-q) (X-q))->
  ∃q r,X1 n P c=q::r/\ChOk n Pos done (q::r)/\(∀X,done X->(X=q\/Pos (X-q))->0<=f8 n (P-q) (X-q))/\∀a w,r=a::w->0<turn n a q P
 |[],_,h,_=>absurd rfl h
 |[b],ok,_,o=>⟨b,[],rfl,ok,λX d h=>o X b rfl d h,λa w e=>by cases e⟩
 |b::a::r,ok,_,o=>by
  by_cases A:turn n a b P<=0
  .have e:X1 n P (b::a::r)=X1 n P (a::r):=by rw[X1,h9 A]
   rw[e];have i:=ok.mem b (by simp);have s:=ok.mem a (by simp);have O:=ok.ed (a,b) (by simp[D4]);refine Row.ad2 hd v m (a::r) ⟨λX d=>ok.mem X (aAe _ d),λe he=>ok.ed e (O6 he),ok.bend.tail,λX d z t=>ok.last X d z (by rw[aBn];exact t)⟩ (by simp) ?_;intro X q hq d B;have C:a=q:=Option.some.inj hq;subst C;have hu:Pos (b-a):=O.1;have hp:Pos (P-b):=m b i;have Q:Pos (P-a):=m a s;have U:b9 n (b-a)=0:=F.pl _ _ (hd _ i) (hd _ s);have pp:b9 n (P-b)=0:=F.pl _ _ v (hd _ i);have E:b9 n (P-a)=0:=F.pl _ _ v (hd _ s);unfold turn at A;have H:0<=f8 n (P-b) (b-a):=by rw[k7];lia
   rcases F.tot X b (hd X d) (hd b i)with z|z|z
   .
    subst z;have f:P-a=(P-X)+(X-a):=ext (by simp;lia) (by simp;lia) (by simp;lia);rw[f,aK,C1];lia
   .
    have I:=o X b rfl d (.inr z);have px:b9 n (X-b)=0:=F.pl _ _ (hd _ d) (hd _ i);have j:Pos (P-X):=m X d;have J:f8 n (P-a) (X-a)*(P-b)=f8 n (P-b) (X-b)*(P-a)+f8 n (P-b) (b-a)*(P-X):=by
     have k:=CW n (b-a) (X-b) (P-b);rw[x9 F.nz U px pp,v6]at k;have f:P-a=(b-a)+(P-b):=ext (by simp;lia) (by simp;lia) (by simp;lia);have e2:X-a=(b-a)+(X-b):=ext (by simp;lia) (by simp;lia) (by simp;lia);have e3:P-X=(P-b)-(X-b):=ext (by simp;lia) (by simp;lia) (by simp;lia);rw[f,e2,e3];generalize b-a=u at*
     generalize X-b=x at*
     generalize P-b=p at*
     rw[aK,aM,aM,C1];have I:=i5 V.x k;have Y:=i5 V.y k;have t:=i5 V.z k;rw[k7 n p x]at k I Y t;simp at I Y t;have s1:=k7 n p x;have s2:=k7 n p u;have s3:=k7 n u x;apply ext<;>simp<;>grind
    by_cases zz:0<=f8 n (P-a) (X-a)
    .exact zz
    .exfalso;have L:Pos ((-f8 n (P-a) (X-a))*(P-b)):=F.cone.mul (by lia) hp;have N:Pos (-f8 n (P-a) (X-a)*(P-b)+(f8 n (P-b) (X-b)*(P-a)+f8 n (P-b) (b-a)*(P-X))):=by
      by_cases y1:f8 n (P-b) (X-b)=0
      .rw[y1,v6,fV];by_cases y2:f8 n (P-b) (b-a)=0
       .rw[y2,v6,oQ];exact L
       .exact F.cone.add L (F.cone.mul (by lia) j)
      .exact F.cone.add L (F.cone.comb (by lia) H Q j)
     rw[<-J]at N;have e0:-f8 n (P-a) (X-a)*(P-b)+f8 n (P-a) (X-a)*(P-b)=0:=by apply ext<;>simp<;>grind
     rw[e0]at N;exact F.cone.irr N
   .
    rcases B with g|g
    .subst g;rw[u7,eT];exact aBV _
    .have hl:=(O.2 X d).1;have l:0<=f8 n (P-a) (b-a):=by have f:P-a=(P-b)+(b-a):=ext (by simp;lia) (by simp;lia) (by simp;lia);rw[f,aK,C1];lia
     exact F.weak Q hu g E U (F.pl _ _ (hd _ d)<|hd _ s) l hl
  .have e:X1 n P (b::a::r)=b::a::r:=by rw[X1,ib A]
   refine⟨b,a::r,e,ok,λX d h=>o X b rfl d h,λa' w e'=>?_⟩;injection e' with f _;subst f
   lia
theorem Row.push {done:V->Prop}(hd:∀X,done X->T X)(C:T P)(s:∀X,done X->Pos (P-X))(ok:ChOk n Pos done c)(I:c≠[])(J:∀X q,c.head?=some q->done X->X=q\/Pos (q-X)):
  ChOk n Pos (λX=>done X\/X=P) (P::X1 n P c):=by
 obtain⟨q,r,e,f,u,j⟩:=F.ad2 hd C s c ok I (λX q u d h=>by
  rcases h with h|h
  .subst h;rw[u7,eT];exact aBV _
  .exfalso;rcases J X q u d with z|z
   .subst z;rw[u7]at h;exact F.cone.irr h
   .have:=F.cone.add h z;have v:X-q+(q-X)=0:=ext (by simp;lia) (by simp;lia) (by simp;lia);rw[v]at this;exact F.cone.irr this)
 rw[e];have l:=f.mem q (by simp);have i:Pos (P-q):=s q l;have m:b9 n (P-q)=0:=F.pl _ _ C (hd _ l);refine⟨λX d=>?_,λg w=>?_,?_,λX d z t=>?_⟩
 .rcases aAd.mp d with h|h
  .exact .inr h
  .exact .inl (f.mem X h)
 .rcases aAd.mp w with h|h
  .subst h;refine⟨i,λX d=>?_⟩;rcases d with d|d
   .rcases F.tot X q (hd _ d) (hd _ l)with z|z|z
    .subst z;exact⟨by rw[u7,eT];exact aBV _,λ_=>⟨.inl rfl,.inr i⟩⟩
    .exact⟨u X d (.inr z),λ_=>⟨.inr z,.inr (s X d)⟩⟩
    .
     have:0<f8 n (P-q) (X-q):=by
      match r,j,f with
      |[],_,f=>
       rcases f.last X d q rfl with y|y
       .subst y;rw[u7]at z;exact absurd z F.cone.irr
       .exfalso;have:=F.cone.add y z;have v:X-q+(q-X)=0:=ext (by simp;lia) (by simp;lia) (by simp;lia);rw[v]at this;exact F.cone.irr this
      |a::o,j,f=>
       have x:=j a o rfl;unfold turn at x;have L:=f.mem a (by simp);have E:=f.ed (a,q) (by simp[D4]);have H:=(E.2 X d).1;have p:X-a=(q-a)-(q-X):=ext (by simp;lia) (by simp;lia) (by simp;lia);dsimp only at H;rw[p,NP,C1]at H;have N:0<=f8 n (q-X) (q-a):=by rw[k7];lia
       have:=F.cone.tr' (a:=n) z E.1 i (x9 F.nz (F.pl _ _ (hd _ l)<|hd _ d) (F.pl _ _ (hd _ l)<|hd _ L) m) N x;have A:X-q=-(q-X):=ext (by simp;lia) (by simp;lia) (by simp;lia);rw[A,J5,k7];lia
     exact⟨aAM this,λz=>by dsimp only at z;lia⟩
   .subst d;exact⟨by rw[C1];exact aBV _,λ_=>⟨.inr i,.inl rfl⟩⟩
  .
   have k:=f.ed g h;refine⟨k.1,λX d=>?_⟩;rcases d with d|d
   .exact k.2 X d
   .subst d;have x:=F.ad0 hd i m (q::r) f.mem (λe w=>(f.ed e w).1) f.bend (λb a o O=>by injection O with p A;subst p;exact j a o A) g h
    have Q:=(k.2 q l).1;have:0<f8 n (g.2-g.1) (X-g.1):=by have p:X-g.1=(q-g.1)+(X-q):=ext (by simp;lia) (by simp;lia) (by simp;lia);rw[p,aM];lia
    exact⟨aAM this,λz=>by lia⟩
 .match r,j,f with
  |[],_,_=>trivial
  |a::o,j,f=>exact⟨j a o rfl,f.bend⟩
 .rcases d with d|d
  .exact f.last X d z (by rw[aBn]at t;exact t)
  .subst d;have B:(q::r).getLast?=some z:=by rw[aBn]at t;exact t
   exact .inr (s z<|f.mem z<|aCW B)
end
section
variable{n:V} {Pos:V->Prop} {T:V->Prop} (F:Row n Pos T)
include F
theorem ChOk.congr {done a:V->Prop}(ok:ChOk n Pos done c)(h:∀X,done X↔a X):ChOk n Pos a c:=
 ⟨λX b=>(h X).mp (ok.mem X b),λe d=>⟨(ok.ed e d).1,λX b=>(ok.ed e d).2 X ((h X).mpr b)⟩,ok.bend,λX b=>ok.last X ((h X).mpr b)⟩
theorem Row.fold:∀(rest:List V) (done:V->Prop) (c:List V),ChOk n Pos done c->c≠[]->(∀X q,c.head?=some q->done X->X=q\/Pos (q-X))->(∀X,done X->T X)->(∀X∈rest,T X)->
  (∀X Y,done X->Y∈rest->Pos (Y-X))->rest.Pairwise (λa b=>Pos (b-a))->
  ChOk n Pos (λX=>done X\/X∈rest) (rest.foldl (λc P=>P::X1 n P c) c)/\rest.foldl (λc P=>P::X1 n P c) c≠[]/\(∀X q,(rest.foldl (λc P=>P::X1 n P c) c).head?=some q->(done X\/X∈rest)->X=q\/Pos (q-X))
 |[],done,c,ok,h,i,j,k,g,m=>⟨ChOk.congr F ok λX=>by simp,h,λX q f d=>by
   rcases d with d|d
   .exact i X q f d
   .cases d⟩
 |P::rest,done,c,ok,h,i,j,k,g,m=>by
  have o:=k P (by simp);have s:=F.push j o (λX d=>g X P d (by simp)) ok h i;have p:=aAz.mp m;obtain⟨t,u,v⟩:=Row.fold rest (λX=>done X\/X=P) (P::X1 n P c) s (by simp) (λX q f d=>by
    have l:P=q:=Option.some.inj f;subst l;rcases d with d|d
    .exact .inr (g X P d (by simp))
    .exact .inl d) (λX d=>by
    rcases d with d|d
    .exact j X d
    .subst d;exact o) (λX d=>k X (aAe _ d)) (λX Y d r=>by
    rcases d with d|d
    .exact g X Y d (aAe _ r)
    .subst d;exact p.1 Y r) p.2
  have e:∀X,((done X\/X=P)\/X∈rest)↔(done X\/X∈P::rest):=λX=>by simp[or_assoc]
  exact⟨ChOk.congr F t e,u,λX q f d=>v X q f ((e X).mpr d)⟩
theorem Row.ac6 (k:ps≠[])(h:∀X∈ps,T X)(l:ps.Pairwise (λa b=>Pos (b-a))):
  ChOk n Pos (λX=>X∈ps) (w8 n ps)/\w8 n ps≠[]/\(∀X q,(w8 n ps).head?=some q->X∈ps->X=q\/Pos (q-X)):=by
 match ps,k with
 |p::rest,_=>
  have i:=aAz.mp l;have ok:ChOk n Pos (λX=>X=p) [p]:=⟨λX d=>by simpa using d,λe m=>by simp[D4]at m,trivial,λX d z j=>by simp at j;subst j;exact .inl d⟩
  obtain⟨o,r,s⟩:=F.fold rest (λX=>X=p) [p] ok (by simp) (λX q f d=>by have g:p=q:=Option.some.inj f;subst g;exact .inl d) (λX d=>by subst d;exact h _ (by simp)) (λX d=>h X (aAe _ d)) (λX Y d t=>by subst d;exact i.1 Y t) i.2
  have e:∀X,(X=p\/X∈rest)↔X∈p::rest:=λX=>by simp
  refine⟨ChOk.congr F o e,r,λX q f d=>s X q f ((e X).mpr d)⟩
end
def j9 (n:V)(a:List V):List V:=(w8 n a).reverse.dropLast++(w8 n a.reverse).reverse.dropLast
def t6:List V->List (V×V)
 |a::b::r=>(a,b)::t6 (b::r)
 |_=>[]
theorem lB:∀(l:List V) (a b:V),t6 (l++[a]++[b])=t6 (l++[a])++[(a,b)]
 |[],a,b=>rfl
 |[x],a,b=>rfl
 |x::y::l,a,b=>by have:=lB (y::l) a b;simp only[aBh,t6]at this⊢;rw[this]
theorem fW:∀c:List V,t6 c.reverse=(D4 c).reverse
 |[]=>rfl
 |[_]=>rfl
 |b::a::r=>by
  have d:=fW (a::r);rw[aAQ,aAQ]at*
  rw[lB,d,D4,aAQ]
theorem lP:∀(l:List V) (a:V) (m:List V),t6 (l++a::m)=t6 (l++[a])++t6 (a::m)
 |[],a,m=>by cases m<;>rfl
 |[x],a,m=>rfl
 |x::y::l,a,m=>by have:=lP (y::l) a m;simp only[aBh,t6]at this⊢;rw[this]
def J3 (l:List V):List (V×V):=l.zip (l.tail++l.take 1)
theorem oE:∀(l:List V) (z:V),l.zip (l.tail++[z])=t6 (l++[z])
 |[],z=>rfl
 |[a],z=>rfl
 |a::b::r,z=>by have:=oE (b::r) z;simp only[List.tail_cons,aBh,t6,aBK]at this⊢;rw[this]
def W7:J3 (a::l)=t6 (a::l++[a]):=oE (a::l) a
def NS (i:w8 n a=M::c)(j:w8 n a.reverse=m::d)(g:(M::c).getLast?=some m)(k:(m::d).getLast?=some M)(l:c≠[]):
  J3 (j9 n a)=(D4 (w8 n a)).reverse++(D4 (w8 n a.reverse)).reverse:=by
 rw[<-fW,<-fW];unfold j9;rw[i,j,aAQ,aAQ,aBr,aBr];have b:∃e,c.reverse=m::e:=by
  have:c.getLast?=some m:=by
   match c,l with
   |x::c,_=>rw[aBn]at g;exact g
  rw[<-aET]at this;match o:c.reverse,this with
  |x::r,this=>exact⟨r,by rw[show x=m from Option.some.inj this]⟩
 obtain⟨e,b⟩:=b;have f:∃h,d.reverse++[m]=M::h:=by
  have:(m::d).reverse.head?=some M:=by rw[aET];exact k
  rw[aAQ]at this;match o:d.reverse++[m],this with
  |x::r,this=>exact⟨r,by rw[show x=M from Option.some.inj this]⟩
 obtain⟨h,f⟩:=f;have p:c.reverse++d.reverse=m::(e++d.reverse):=by rw[b];rfl
 rw[p,W7];have q:m::(e++d.reverse)++[m]=c.reverse++(d.reverse++[m]):=by rw[b];simp
 rw[q,f,lP]
def p9 (a b:V):-(a-b)=b-a:=ext (by simp;lia) (by simp;lia) (by simp;lia)
def p7:L8 (a-b)↔d8 (b-a):=by unfold L8;rw[p9]
def G7 (h:d8 (a-a)):False:=by rw[u7]at h;exact y8.irr h
def n8 (h:d8 (a-b))(h':d8 (b-a)):False:=by have:=y8.add h h';have d:a-b+(b-a)=0:=ext (by simp;lia) (by simp;lia) (by simp;lia);rw[d]at this;exact y8.irr this
def C7 (a b:V):a=b\/d8 (a-b)\/d8 (b-a):=by
 rcases SX (a-b)with h|h|h
 .exact .inr (.inl h)
 .refine .inl (ext ?_ ?_ ?_)
  .have:=i5 V.x h;simp at this;lia
  .have:=i5 V.y h;simp at this;lia
  .have:=i5 V.z h;simp at this;lia
 .exact .inr (.inr (p7.mp h))
def Btw (P Q X:V):Prop:=(d8 (Q-P)->(X=P\/d8 (X-P))/\(X=Q\/d8 (Q-X)))/\(d8 (P-Q)->(X=P\/d8 (P-X))/\(X=Q\/d8 (X-Q)))
structure EdgeOf (n:V)(T:V->Prop)(P Q:V):Prop where
 p:T P
 q:T Q
 ne:P≠Q
 left:∀X,T X->0<=f8 n (Q-P) (X-P)
 btw:∀X,T X->f8 n (Q-P) (X-P)=0->Btw P Q X
section
variable{n:V} {T:V->Prop}
def EdgeOf.next (h:EdgeOf n T P Q)(h':EdgeOf n T P R):Q=R:=by
 have l:=h.left R h'.q;have i:=h'.left Q h.q;rw[k7]at i;have j:f8 n (Q-P) (R-P)=0:=by lia
 have k:f8 n (R-P) (Q-P)=0:=by rw[k7];lia
 have f:=h.btw R h'.q j;have g:=h'.btw Q h.q k;rcases C7 Q P with e|e|e
 .exact absurd e.symm h.ne
 .have b:=f.1 e;have d:d8 (R-P):=b.1.resolve_left (aBW h'.ne);rcases b.2 with q|q
  .exact q.symm
  .rcases(g.1 d).2 with a|a
   .exact a
   .exact(n8 q a).elim
 .have b:=f.2 e;have d:d8 (P-R):=b.1.resolve_left (aBW h'.ne);rcases b.2 with q|q
  .exact q.symm
  .rcases(g.2 d).2 with a|a
   .exact a
   .exact(n8 q a).elim
def qN (n P Q X:V):f8 n (Q-P) (X-P)=f8 n (Q-P) (X-Q):=by have e:X-P=(X-Q)+(Q-P):=ext (by simp;lia) (by simp;lia) (by simp;lia);rw[e,aM,C1];lia
def EdgeOf.prev (h:EdgeOf n T P R)(h':EdgeOf n T Q R):P=Q:=by
 have k:=h.left Q h'.p;have l:=h'.left P h.p;have m:f8 n (R-Q) (P-Q)=-f8 n (R-P) (Q-P):=by simp[f8,b9];grind
 have i:f8 n (R-P) (Q-P)=0:=by lia
 have j:f8 n (R-Q) (P-Q)=0:=by lia
 have f:=h.btw Q h'.p i;have g:=h'.btw P h.p j;rcases C7 R P with e|e|e
 .exact absurd e.symm h.ne
 .have b:=f.1 e;have d:d8 (R-Q):=b.2.resolve_left h'.ne;rcases b.1 with q|q
  .exact q.symm
  .rcases(g.1 d).1 with a|a
   .exact a
   .exact(n8 q a).elim
 .have b:=f.2 e;have d:d8 (Q-R):=b.2.resolve_left h'.ne;rcases b.1 with q|q
  .exact q.symm
  .rcases(g.2 d).1 with a|a
   .exact a
   .exact(n8 q a).elim
end
theorem oZ {Pos:V->Prop}(X:V):∀(c:List V),(∀Y∈c,X=Y\/Pos (X-Y)\/Pos (Y-X))->(∀q,c.head?=some q->X=q\/Pos (q-X))->(∀z,c.getLast?=some z->X=z\/Pos (X-z))->c≠[]->
  (∀u,Pos u->Pos (-u)->False)->X∈c\/∃a b,(a,b)∈D4 c/\Pos (X-a)/\Pos (b-X)
 |[],_,_,_,h,_=>absurd rfl h
 |[q],_,d,f,_,g=>by
  rcases d q rfl with e|e
  .exact .inl (by simp[e])
  .rcases f q rfl with i|i
   .exact .inl (by simp[i])
   .exact(g _ e (by rw[p9];exact i)).elim
 |b::a::r,j,d,f,_,g=>by
  rcases d b rfl with e|e
  .exact .inl (by simp[e])
  .rcases j a (by simp)with y|y|y
   .exact .inl (by simp[y])
   .exact .inr ⟨a,b,by simp[D4],y,e⟩
   .rcases oZ X (a::r) (λY k=>j Y (aAe _ k)) (λq l=>by have:a=q:=Option.some.inj l;subst this;exact .inr y) (λz m=>f z (by rw[aBn];exact m)) (by simp) g with h|⟨n,o,h,p⟩
    .exact .inl (aAe _ h)
    .exact .inr ⟨n,o,O6 h,p⟩
def Row.ad4 {Pos:V->Prop}{T:V->Prop}(F:Row n Pos T)(g:T a)(h:T b)(d:T P)(i:T Q)(j:Pos (P-a))(k:Pos (b-P))(l:Pos (Q-P))(m:0<=f8 n (b-a) (P-a))(f:0<f8 n (Q-P) (a-P))(o:0<=f8 n (Q-P) (b-P)):False:=by
 have p:f8 n (Q-P) (a-P)=f8 n (P-a) (Q-P):=by have e:a-P=-(P-a):=(p9 _ _).symm;rw[e,J5,k7];lia
 rw[p]at f;have:=F.cone.tr j l k (x9 F.nz (F.pl _ _ d g) (F.pl _ _ i d)<|F.pl _ _ h d) f o;have q:b-a=(b-P)+(P-a):=ext (by simp;lia) (by simp;lia) (by simp;lia);rw[q,aK,C1,k7]at m
 lia
structure Sheet (n:V)(ts:List V):Prop where
 nz:n≠0
 pl:∀X∈ts,∀Y∈ts,b9 n (X-Y)=0
 ord:ts.Pairwise (λa b=>d8 (b-a))
 two:∃X∈ts,∃Y∈ts,X≠Y
section
variable{n:V} {ts:List V} (S:Sheet n ts)
include S
theorem Sheet.row:Row n d8 (λX=>X∈ts):=⟨y8,S.nz,λX Y a b=>S.pl X a Y b,λX Y _ _=>C7 X Y⟩
theorem Sheet.ae6:Row n L8 (λX=>X∈ts):=⟨aR,S.nz,λX Y a b=>S.pl X a Y b,λX Y _ _=>by
 rcases C7 X Y with h|h|h
 .exact .inl h
 .exact .inr (.inr (p7.mpr h))
 .exact .inr (.inl (p7.mpr h))⟩
theorem Sheet.ne:ts≠[]:=by obtain⟨X,a,_⟩:=S.two;intro e;rw[e]at a;cases a
theorem Sheet.ab1:ChOk n d8 (λX=>X∈ts) (w8 n ts)/\w8 n ts≠[]/\(∀X q,(w8 n ts).head?=some q->X∈ts->X=q\/d8 (q-X)):=
 S.row.ac6 S.ne (λ_ h=>h) S.ord
theorem Sheet.ab2:ChOk n L8 (λX=>X∈ts) (w8 n ts.reverse)/\w8 n ts.reverse≠[]/\(∀X q,(w8 n ts.reverse).head?=some q->X∈ts->X=q\/L8 (q-X)):=by
 have h:=S.ae6.ac6 (ps:=ts.reverse) (by simpa using S.ne) (λX h=>by simpa using h) (by rw[aEi];exact S.ord.imp λh=>p7.mpr h)
 obtain⟨a,b,d⟩:=h;exact⟨ChOk.congr S.ae6 a λX=>by simp,b,λX q e f=>d X q e (by simpa using f)⟩
theorem Sheet.ae1 (h:(a,b)∈D4 (w8 n ts))(i:a∈ts)(j:b∈ts):EdgeOf n (λX=>X∈ts) a b/\d8 (b-a):=by obtain⟨d,f⟩:=S.ab1.1.ed _ h;dsimp only at d f;refine⟨⟨i,j,λe=>by subst e;exact G7 d,λX g=>(f X g).1,λX g z=>⟨λ_=>(f X g).2 z,λy=>(n8 d y).elim⟩⟩,d⟩
theorem Sheet.ae3 (h:(a,b)∈D4 (w8 n ts.reverse))(j:a∈ts)(k:b∈ts):EdgeOf n (λX=>X∈ts) a b/\d8 (a-b):=by obtain⟨i,f⟩:=S.ab2.1.ed _ h;dsimp only at i f;have d:=p7.mp i;refine⟨⟨j,k,λe=>by subst e;exact G7 d,λX g=>(f X g).1,λX g z=>⟨λy=>(n8 d y).elim,λ_=>?_⟩⟩,d⟩;obtain⟨l,m⟩:=(f X g).2 z;exact⟨l.imp id p7.mp,m.imp id p7.mp⟩
theorem K9 (h:(a,b)∈D4 c):a∈c/\b∈c:=by
 induction c with
 |nil=>cases h
 |cons x c d=>
  match c,h,d with
  |[],h,_=>cases h
  |y::r,h,d=>
   rcases aAd.mp h with e|e
   .cases e;simp
   .have:=d e;exact⟨aAe _ this.1,aAe _ this.2⟩
theorem Sheet.ends:∃m M c d,m∈ts/\M∈ts/\d8 (M-m)/\(∀X∈ts,X=m\/d8 (X-m))/\(∀X∈ts,X=M\/d8 (M-X))/\w8 n ts=M::c/\w8 n ts.reverse=m::d/\(M::c).getLast?=some m/\(m::d).getLast?=some M/\c≠[]/\d≠[]:=by
 obtain⟨l,u,v⟩:=S.ab1;obtain⟨o,w,x⟩:=S.ab2;obtain⟨M,c,b⟩:=aCL u;obtain⟨m,d,f⟩:=aCL w;have p:M∈ts:=l.mem M (by rw[b];simp);have s:m∈ts:=o.mem m (by rw[f];simp);have q:∀X∈ts,X=M\/d8 (M-X):=λX g=>v X M (by rw[b];rfl) g;have h:∀X∈ts,X=m\/d8 (X-m):=λX g=>(x X m (by rw[f];rfl) g).imp id p7.mp;obtain⟨z,i⟩:∃z,(M::c).getLast?=some z:=by simp[aEU]
 obtain⟨y,j⟩:∃z,(m::d).getLast?=some z:=by simp[aEU]
 have A:z=m:=by
  have B:z∈ts:=l.mem z (by rw[b];exact aCW i);rcases l.last m s z (by rw[b];exact i)with e|e
  .exact e.symm
  .rcases h z B with a|a
   .exact a
   .exact(n8 e a).elim
 have C:y=M:=by
  have E:y∈ts:=o.mem y (by rw[f];exact aCW j);rcases o.last M p y (by rw[f];exact j)with e|e
  .exact e.symm
  .rcases q y E with a|a
   .exact a
   .exact(n8 (p7.mp e) a).elim
 subst A C;have r:d8 (y-z):=by
  obtain⟨X,g,Y,H,ne⟩:=S.two;rcases h y p with e|e
  .exfalso;subst e;have k:∀W∈ts,W=y:=λW t=>by
    rcases h W t with e|e
    .exact e
    .rcases q W t with a|a
     .exact a
     .exact(n8 e a).elim
   exact ne ((k X g).trans (k Y H).symm)
  .exact e
 refine⟨z,y,c,d,s,p,r,h,q,b,f,i,j,λe=>?_,λe=>?_⟩
 .subst e;have:y=z:=by simpa using i
  subst this;exact G7 r
 .subst e;have:z=y:=by simpa using j
  subst this;exact G7 r
theorem Sheet.pair (h:(P,Q)∈J3 (j9 n ts)):EdgeOf n (λX=>X∈ts) P Q:=by
 obtain⟨m,M,c,d,i,j,k,l,o,a,b,e,f,g,p⟩:=S.ends;rw[NS a b e f g,aAU,aCv,aCv]at h;rcases h with h|h
 .have:=K9 S h;exact(S.ae1 h (S.ab1.1.mem _ this.1)<|S.ab1.1.mem _ this.2).1
 .have:=K9 S h;exact(S.ae3 h (S.ab2.1.mem _ this.1)<|S.ab2.1.mem _ this.2).1
theorem P6 (h:P∈l):∃Q,(P,Q)∈J3 l:=by
 obtain⟨i,b,e⟩:=aBp h;have d:l.length=(l.tail++l.take 1).length:=by
  match l,b with
  |a::l,_=>simp
 refine⟨(l.tail++l.take 1)[i]'(by lia),?_⟩;unfold J3;refine List.mem_of_getElem (i:=i) (h:=by rw[List.length_zip];lia) ?_;rw[List.getElem_zip,e]
theorem Sheet.ab0 (h:EdgeOf n (λX=>X∈ts) P Q):P∈j9 n ts:=by
 obtain⟨m,M,c,d,T,U,mM,C,E,A,B,h3,h4,hc,hd⟩:=S.ends;obtain⟨o,H,I⟩:=S.ab1;obtain⟨i,J,L⟩:=S.ab2;unfold j9;rw[aAU,A,B,aAQ,aAQ,aBr,aBr,aCv,aCv];rcases C7 Q P with e|e|e
 .exact absurd e.symm h.ne
 .
  left;rcases oZ (Pos:=d8) P (w8 n ts) (λY _=>C7 P Y) (λq s=>I P q s h.p) (λz t=>o.last P h.p z t) H (λu a b=>by have:=y8.add a b;have v:u+-u=0:=ext (by simp;lia) (by simp;lia) (by simp;lia);rw[v]at this;exact y8.irr this)with r|⟨a,b,r,g,w⟩
  .rw[A]at r;rcases aAd.mp r with q|q
   .subst q;rcases E Q h.q with y|y
    .exact absurd y.symm h.ne
    .exact(n8 e y).elim
   .exact q
  .exfalso;have j:=K9 S r;have f:=o.mem _ j.1;have k:=o.mem _ j.2;have N:=h.left a f;have x:f8 n (Q-P) (a-P)≠0:=λz=>by
    rcases((h.btw a f z).1 e).1 with y|y
    .subst y;exact G7 g
    .exact n8 g y
   exact S.row.ad4 f k h.p h.q g w e ((o.ed _ r).2 P h.p).1 (by lia) (h.left b k)
 .right;rcases oZ (Pos:=L8) P (w8 n ts.reverse) (λY _=>S.ae6.tot P Y h.p (by rename_i O;exact i.mem Y O)) (λq s=>L P q s h.p) (λz t=>i.last P h.p z t) J (λu a b=>by have:=aR.add a b;have v:u+-u=0:=ext (by simp;lia) (by simp;lia) (by simp;lia);rw[v]at this;exact aR.irr this)with r|⟨a,b,r,g,w⟩
  .rw[B]at r;rcases aAd.mp r with q|q
   .subst q;rcases C Q h.q with y|y
    .exact absurd y.symm h.ne
    .exact(n8 e y).elim
   .exact q
  .exfalso;have j:=K9 S r;have f:=i.mem _ j.1;have k:=i.mem _ j.2;have N:=h.left a f;have l:=p7.mp g;have x:f8 n (Q-P) (a-P)≠0:=λz=>by
    rcases((h.btw a f z).2 e).1 with y|y
    .subst y;exact G7 l
    .exact n8 l y
   exact S.ae6.ad4 f k h.p h.q g w (p7.mpr e) ((i.ed _ r).2 P h.p).1 (by lia) (h.left b k)
theorem Sheet.aa1:(P,Q)∈J3 (j9 n ts)↔EdgeOf n (λX=>X∈ts) P Q:=by
 refine⟨S.pair,λh=>?_⟩;obtain⟨R,a⟩:=P6 S (S.ab0 h);have:=(S.pair a).next h
 subst this;exact a
end
theorem N3 {Pos:V->Prop}(C:Cone Pos):∀(c:List V),(∀e∈D4 c,Pos (e.2-e.1))->c.Pairwise (λb a=>Pos (b-a))
 |[],_=>aGx
 |[x],_=>aDX _ _
 |b::a::r,h=>by
  have d:=N3 C (a::r) (λe g=>h e (O6 g));have f:=h (a,b) (by simp[D4]);refine aAz.mpr ⟨λy i=>?_,d⟩;rcases aAd.mp i with e|e
  .subst e;exact f
  .have:=(aAz.mp d).1 y e;have s:=C.add f this;have j:b-a+(a-y)=b-y:=ext (by simp;lia) (by simp;lia) (by simp;lia);dsimp only at s
   rwa [j]at s
theorem jT:∀{h:V} {c:List V} {X:V},X∈c->∃b,(X,b)∈D4 (h::c)
 |h,[],X,d=>by cases d
 |h,a::r,X,d=>by
  rcases aAd.mp d with e|e
  .subst e;exact⟨h,by simp[D4]⟩
  .obtain⟨b,f⟩:=jT (h:=a) e;exact⟨b,O6 f⟩
section
variable{n:V} {ts:List V} (S:Sheet n ts)
include S
theorem Sheet.aa3 (h:X∈j9 n ts):X∈ts:=by obtain⟨Q,a⟩:=P6 S h;exact(S.pair a).p
theorem Sheet.aa4:(j9 n ts).Nodup:=by
 obtain⟨m,M,c,d,E,H,I,J,L,f,g,N,O,Q,T⟩:=S.ends;obtain⟨i,U,Y⟩:=S.ab1;obtain⟨j,n2,t2⟩:=S.ab2;unfold j9;rw[f,g,aAQ,aAQ,aBr,aBr];have p:=N3 y8 (w8 n ts) λe k=>(i.ed e k).1;have q:=N3 aR (w8 n ts.reverse) λe k=>(j.ed e k).1;rw[f]at p;rw[g]at q;have v:=(aAz.mp p).2;have w:=(aAz.mp q).2;rw[aCD];refine⟨?_,?_,?_⟩
 .rw[aCi,aEi];exact v.imp λ{a b} h e=>by subst e;exact G7 h
 .rw[aCi,aEi];exact w.imp λ{a b} h e=>by subst e;exact G7 (p7.mp h)
 .intro x r y s e;subst e;rw[aCv]at r s;obtain⟨b,l⟩:=jT (h:=M) r;obtain⟨b',o⟩:=jT (h:=m) s;rw[<-f]at l;rw[<-g]at o;have t:=K9 S l;have u:=K9 S o;obtain⟨z,A⟩:=S.ae1 l (i.mem _ t.1) (i.mem _ t.2);obtain⟨B,C⟩:=S.ae3 o (j.mem _ u.1) (j.mem _ u.2);have:=z.next B;subst this;exact n8 A C
theorem Sheet.aa9:∃m r,j9 n ts=m::r/\m∈ts/\∀X∈ts,X=m\/d8 (X-m):=by
 obtain⟨m,M,c,d,f,k,l,g,o,h,i,e,p,j,q⟩:=S.ends;have a:∃b,c.reverse=m::b:=by
  have:c.getLast?=some m:=by
   match c,j with
   |x::c,_=>rw[aBn]at e;exact e
  rw[<-aET]at this;match s:c.reverse,this with
  |x::r,this=>exact⟨r,by rw[show x=m from Option.some.inj this]⟩
 obtain⟨b,a⟩:=a;refine⟨m,b++d.reverse,?_,f,g⟩;unfold j9;rw[h,i,aAQ,aAQ,aBr,aBr,a];rfl
theorem nV (h:Q∈l):∃P,(P,Q)∈J3 l:=by
 match l,h with
 |a::r,h=>
  have b:Q∈r++[a]:=by simpa[or_comm]using h
  obtain⟨i,d,e⟩:=aBp b;have f:i<(a::r).length:=by simpa using d
  refine⟨(a::r)[i],?_⟩;show _∈(a::r).zip (r++[a]);refine List.mem_of_getElem (i:=i) (h:=by rw[List.length_zip];simp;omega) ?_;rw[List.getElem_zip,e]
theorem X6 (h:(P,Q)∈J3 l):P∈l/\Q∈l:=by
 have b:=aDY h;refine⟨b.1,?_⟩;match l,b.2 with
 |a::r,z=>simpa[or_comm]using z
theorem Sheet.strict (h:EdgeOf n (λX=>X∈ts) P Q)(A:X∈j9 n ts)(t:X≠P)(u:X≠Q):0<f8 n (Q-P) (X-P):=by
 have d:=S.aa3 A;have H:=h.left X d;by_cases z:f8 n (Q-P) (X-P)=0
 .exfalso;have b:=h.btw X d z;obtain⟨Y,C⟩:=P6 S A;have g:=S.pair C;have v:=g.left P h.p;have m:=g.left Q h.q;rcases C7 Q P with e|e|e
  .exact h.ne e.symm
  .have o:=b.1 e;have f:=o.1.resolve_left t;have i:=o.2.resolve_left u;have E:f8 n (X-P) (Q-X)=0:=by have a:Q-P=(Q-X)+(X-P):=ext (by simp;lia) (by simp;lia) (by simp;lia);rw[a,aK,C1,k7]at z;lia
   have r:0<=f8 n (X-P) (Y-X):=by have a:P-X=-(X-P):=(p9 _ _).symm;rw[a,J5]at v;rw[k7];lia
   rcases C7 Y X with y|y|y
   .exact g.ne y.symm
   .have I:=S.row.weak f y i (S.pl _ d _ h.p) (S.pl _ g.q _ d) (S.pl _ h.q _ d) r m;by_cases j:0<f8 n (X-P) (Y-X)
    .have:=y8.tr f y i (x9 S.nz (S.pl _ d _ h.p) (S.pl _ g.q _ d)<|S.pl _ h.q _ d) j m
     lia
    .have l:f8 n (Y-X) (P-X)=0:=by have a:P-X=-(X-P):=(p9 _ _).symm;rw[a,J5,k7];lia
     rcases((g.btw P h.p l).1 y).1 with k|k
     .exact t k.symm
     .exact n8 k f
   .have s:d8 (X-Y):=y;have B:0<=f8 n (X-Y) (X-P):=by have a:Y-X=-(X-Y):=(p9 _ _).symm;rw[a,J5,k7]at r;lia
    have w:0<=f8 n (Q-X) (X-Y):=by have a:Y-X=-(X-Y):=(p9 _ _).symm;rw[a,aJ,k7]at m;lia
    by_cases j:0<f8 n (Q-X) (X-Y)
    .have:=y8.tr i s f (x9 S.nz (S.pl _ h.q _ d) (S.pl _ d _ g.q)<|S.pl _ d _ h.p) j B;rw[k7]at this;lia
    .have l:f8 n (Y-X) (Q-X)=0:=by have a:Y-X=-(X-Y):=(p9 _ _).symm;rw[a,aJ,k7];lia
     rcases((g.btw Q h.q l).2 s).1 with k|k
     .exact u k.symm
     .exact n8 k i
  .have o:=b.2 e;have f:=o.1.resolve_left t;have i:=o.2.resolve_left u;have E:f8 n (P-X) (X-Q)=0:=by have a:Q-P=-((P-X)+(X-Q)):=ext (by simp;lia) (by simp;lia) (by simp;lia);have x:X-P=-(P-X):=(p9 _ _).symm;rw[a,x,aJ,J5,aK,C1,k7]at z;lia
   rcases C7 Y X with y|y|y
   .exact g.ne y.symm
   .
    have w:0<=f8 n (X-Q) (Y-X):=by have a:Q-X=-(X-Q):=(p9 _ _).symm;rw[a,J5,k7]at m;lia
    by_cases j:0<f8 n (X-Q) (Y-X)
    .have:=y8.tr i y f (x9 S.nz (S.pl _ d _ h.q) (S.pl _ g.q _ d)<|S.pl _ h.p _ d) j v;rw[k7]at this;lia
    .have l:f8 n (Y-X) (Q-X)=0:=by have a:Q-X=-(X-Q):=(p9 _ _).symm;rw[a,J5,k7];lia
     rcases((g.btw Q h.q l).1 y).1 with k|k
     .exact u k.symm
     .exact n8 k i
   .have s:d8 (X-Y):=y;have B:0<=f8 n (P-X) (X-Y):=by have a:Y-X=-(X-Y):=(p9 _ _).symm;rw[a,aJ,k7]at v;lia
    have w:0<=f8 n (X-Y) (X-Q):=by have a:Y-X=-(X-Y):=(p9 _ _).symm;have x:Q-X=-(X-Q):=(p9 _ _).symm;rw[a,x,aJ,J5]at m;lia
    by_cases j:0<f8 n (P-X) (X-Y)
    .have:=y8.tr f s i (x9 S.nz (S.pl _ h.p _ d) (S.pl _ d _ g.q)<|S.pl _ d _ h.q) j w
     lia
    .have l:f8 n (Y-X) (P-X)=0:=by have a:Y-X=-(X-Y):=(p9 _ _).symm;rw[a,aJ,k7];lia
     rcases((g.btw P h.p l).2 s).1 with k|k
     .exact t k.symm
     .exact n8 k f
 .lia
end
def gR {a:V}(h:a≠0):a.x≠0\/a.y≠0\/a.z≠0:=by
 by_cases p:a.x=0
 .by_cases q:a.y=0
  .by_cases r:a.z=0
   .exact absurd (ext p q r) h
   .exact .inr (.inr r)
  .exact .inr (.inl q)
 .exact .inl p
def v5 {a w:V}(d:a≠0)(h:cr a w=0):∃k m:Int,0<k/\k*w=m*a:=by
 have f:=i5 V.x h;have g:=i5 V.y h;have i:=i5 V.z h;simp at f g i;have b:∀k m:Int,k≠0->k*w=m*a->∃k m:Int,0<k/\k*w=m*a:=λk m o e=>by
  by_cases p:0<k
  .exact⟨k,m,p,e⟩
  .refine⟨-k,-m,by lia,?_⟩;have j:=i5 V.x e;have l:=i5 V.y e;have n:=i5 V.z e;simp at j l n;apply ext<;>simp<;>grind
 rcases gR d with p|p|p
 .exact b a.x w.x p (by apply ext<;>simp<;>grind)
 .exact b a.y w.y p (by apply ext<;>simp<;>grind)
 .exact b a.z w.z p (by apply ext<;>simp<;>grind)
def ConeM.ad1 {Pos:V->Prop}(C:ConeM a Pos)(d:a≠0)(f:Pos w):cr a w≠0:=λh=>by
 obtain⟨k,m,g,e⟩:=v5 d h;have b:=C.inv (-m) (C.mul g f);rw[e]at b;have i:m*a+-m*a=0:=by apply ext<;>simp<;>grind
 rw[i]at b;exact C.irr b
def D9 (a A:V):List V->V->V->V×V
 |[],d,b=>(d,b)
 |P::e,d,b=>if d=0\/0<b9 d (P-A)then D9 a A e (cr a (P-A)) P else D9 a A e d b
def SN (a A:V)(Pos:V->Prop)(seen:V->Prop)(d b:V):Prop:=
 (d=0/\∀P,seen P->cr a (P-A)=0)\/(seen b/\Pos (b-A)/\d=cr a (b-A)/\∀P,seen P->f8 a (b-A) (P-A)<=0)
def gT (h:cr a w=0)(u:V):f8 a u w=0:=by
 have e:f8 a u w=-b9 (cr a w) u:=by simp[f8,b9];grind
 rw[e,h];simp[b9]
theorem uB {Pos:V->Prop}(C:ConeM a Pos)(o:a≠0):∀(J:List V) (seen:V->Prop) (f d:V),SN a A Pos seen f d->(∀P,seen P->Pos (P-A)\/cr a (P-A)=0)->(∀P∈J,Pos (P-A)\/cr a (P-A)=0)->
  SN a A Pos (λP=>seen P\/P∈J) (D9 a A J f d).1 (D9 a A J f d).2
 |[],seen,f,d,h,_,_=>by
  show SN a A Pos _ f d;rcases h with⟨i,g⟩|⟨i,g,j,k⟩
  .exact .inl ⟨i,λP b=>g P (by simpa using b)⟩
  .exact .inr ⟨.inl i,g,j,λP b=>k P (by simpa using b)⟩
 |Q::J,seen,f,d,h,p,s=>by
  have l:=s Q (by simp);have m:SN a A Pos (λP=>seen P\/P=Q) (if f=0\/0<b9 f (Q-A)then(cr a<|Q-A)else f) (if f=0\/0<b9 f (Q-A)then Q else d):=by
   rcases h with⟨i,g⟩|⟨i,g,j,k⟩
   .rw[h9 (.inl i),h9 (.inl i)];by_cases z:cr a (Q-A)=0
    .exact .inl ⟨z,λP b=>by
      rcases b with b|b
      .exact g P b
      .subst b;exact z⟩
    .refine .inr ⟨.inr rfl,l.resolve_right z,rfl,λP b=>?_⟩;rcases b with b|b
     .rw[gT (g P b)];exact aBV _
     .subst b;rw[C1];exact aBV _
   .have t:f≠0:=by rw[j];exact C.ad1 o g
    have n:b9 f (Q-A)=f8 a (d-A) (Q-A):=by rw[j,U1]
    by_cases z:0<b9 f (Q-A)
    .rw[h9 (.inr z),h9 (.inr z)];have u:Pos (Q-A):=by
      rcases l with q|q
      .exact q
      .rw[n,gT q]at z;lia
     refine .inr ⟨.inr rfl,u,rfl,λP b=>?_⟩;rcases b with b|b
     .by_cases v:f8 a (Q-A) (P-A)<=0
      .exact v
      .exfalso;have w:Pos (P-A):=by
        rcases p P b with q|q
        .exact q
        .rw[gT q]at v;lia
       have:=C.tr g u w (by rw[<-n];exact z) (by lia);have:=k P b
       lia
     .subst b;rw[C1];exact aBV _
    .rw[ib (by rintro(q|q);exact t q;exact z q),ib (by rintro(q|q);exact t q;exact z q)];refine .inr ⟨.inl i,g,j,λP b=>?_⟩;rcases b with b|b
     .exact k P b
     .subst b;rw[<-n];lia
  have r:=uB C o J (λP=>seen P\/P=Q) _ _ m (λP b=>by
   rcases b with b|b
   .exact p P b
   .subst b;exact l) (λP b=>s P (aAe _ b))
  have e:D9 a A (Q::J) f d=D9 a A J (if f=0\/0<b9 f (Q-A)then(cr a<|Q-A)else f) (if f=0\/0<b9 f (Q-A)then Q else d):=by rw[D9];split<;>rfl
  rw[e];have x:(λP=>(seen P\/P=Q)\/P∈J)=(λP=>seen P\/P∈Q::J):=by funext P;simp[or_assoc]
  rw[<-x];exact r
def MH {Pos:V->Prop}(C:ConeM a Pos)(e:a≠0)(g:∀P∈J,Pos (P-A)\/cr a (P-A)=0)(i:∃P∈J,Pos (P-A)):
  (D9 a A J 0 A).2∈J/\Pos ((D9 a A J 0 A).2-A)/\∀P∈J,f8 a ((D9 a A J 0 A).2-A) (P-A)<=0:=by
 have h:=uB C e J (λ_=>False) 0 A (.inl ⟨rfl,λ_ h=>h.elim⟩) (λ_ h=>h.elim) g;rcases h with⟨f,b⟩|⟨f,b,l,j⟩
 .obtain⟨P,d,k⟩:=i;exact absurd (b P<|.inr d) (C.ad1 e k)
 .exact⟨by simpa using f,b,λP d=>j P (.inr d)⟩
def x8 (v:V):Nat:=Nat.gcd (Nat.gcd v.x.natAbs v.y.natAbs) v.z.natAbs
def jB (v:V)(g:Int):V:=⟨v.x/g,v.y/g,v.z/g⟩
def cV (n:V):Prop:=x8 n=1
def pQ (k:Int)(v:V):x8 (k*v)=k.natAbs*x8 v:=by unfold x8;simp[Int.natAbs_mul,Nat.gcd_mul_left]
def JH (h:x8 v=0):v=0:=by unfold x8 at h;have a:=Nat.gcd_eq_zero_iff.mp h;have b:=Nat.gcd_eq_zero_iff.mp a.1;exact ext (aEV.mp b.1) (aEV.mp b.2) (aEV.mp a.2)
def OS (v:V):(x8 v:Int)∣v.x/\(x8 v:Int)∣v.y/\(x8 v:Int)∣v.z:=by
 unfold x8;refine⟨?_,?_,?_⟩
 .exact aEW.mpr (Nat.dvd_trans (aFC _ _)<|aFC _ _)
 .exact aEW.mpr (Nat.dvd_trans (aFC _ _)<|Nat.gcd_dvd_right _ _)
 .exact aEW.mpr (Nat.gcd_dvd_right _ _)
def iZ (h:c≠0):0<(x8 c:Int)/\c=(x8 c:Int)*jB c (x8 c)/\cV (jB c (x8 c)):=by
 have i:x8 c≠0:=λz=>h (JH z);have a:0<(x8 c:Int):=by lia
 obtain⟨b,d,f⟩:=OS c;have e:c=(x8 c:Int)*jB c (x8 c):=by
  apply ext
  .show _=_*(c.x/_);rw[aEw b]
  .show _=_*(c.y/_);rw[aEw d]
  .show _=_*(c.z/_);rw[aEw f]
 refine⟨a,e,?_⟩;have:=i5 x8 e;rw[pQ]at this;simp only[Int.natAbs_natCast]at this;unfold cV;have g:x8 c*1=x8 c*x8 (jB c<|x8 c):=by lia
 exact(Nat.eq_of_mul_eq_mul_left (by lia) g).symm
def cV.ne (h:cV n):n≠0:=λe=>by subst e;unfold cV at h;exact absurd h (by decide)
def vC {n m:V}{k l:Int}(g:cV n)(h:cV m)(i:0<k)(j:0<l)(e:k*n=l*m):n=m:=by
 have:=i5 x8 e;rw[pQ,pQ,g,h]at this;have a:k=l:=by lia
 subst a;have b:=i5 V.x e;have d:=i5 V.y e;have f:=i5 V.z e;simp at b d f;exact ext (aDI (by lia) b) (aDI (by lia) d) (aDI (by lia) f)
def j6 (P Q R:V):V×Int:=let n:=jB (cr (Q-P)<|R-P) (x8<|cr (Q-P)<|R-P);(n,b9 n P)
structure IsFace (J:List V)(n:V)(d:Int):Prop where
 prim:cV n
 sup:∀X∈J,b9 n X<=d
 three:∃A∈J,∃B∈J,∃C∈J,b9 n A=d/\b9 n B=d/\b9 n C=d/\cr (B-A) (C-A)≠0
def B0 (a:b9 n u=0)(b:b9 n v=0):cr n (cr u v)=0:=by simp[b9]at a b;apply ext<;>simp<;>grind
def gH (f:c≠0)(b:cr n c=0)(d:cr m c=0):cr n m=0:=by
 have h:cr c n=0:=by have:=i5 V.x b;have:=i5 V.y b;have:=i5 V.z b;simp at*;apply ext<;>simp<;>grind
 have i:cr c m=0:=by have:=i5 V.x d;have:=i5 V.y d;have:=i5 V.z d;simp at*;apply ext<;>simp<;>grind
 obtain⟨k,p,r,j⟩:=v5 f h;obtain⟨l,q,s,o⟩:=v5 f i;have e:(k*l)*cr n m=0:=by
  have:(k*l)*cr n m=cr (k*n) (l*m):=by apply ext<;>simp<;>grind
  rw[this,j,o];apply ext<;>simp<;>grind
 have a:k*l≠0:=λz=>by rcases aAo.mp z with q|q<;>lia
 have b:=i5 V.x e;have d:=i5 V.y e;have g:=i5 V.z e;simp only[qM,nF,oH,cU,dE,cW]at b d g;exact ext ((aAo.mp b).resolve_left a) ((aAo.mp d).resolve_left a) ((aAo.mp g).resolve_left a)
def iG {J:List V}{n m:V}{d e:Int}(g:cV n)(a:cV m)(E:∀X∈J,b9 n X<=d)(h:∀X∈J,b9 m X<=e){A B C Z:V}(H:b9 n A=d)(I:b9 n B=d)(L:b9 n C=d)(i:b9 m A=e)(j:b9 m B=e)(o:b9 m C=e)
  (r:cr (B-A) (C-A)≠0) (s:Z∈J) (hz:b9 n Z<d):n=m/\d=e:=by
 have t:cr n (cr (B-A)<|C-A)=0:=B0 (by rw[d6];lia) (by rw[d6];lia);have u:cr m (cr (B-A)<|C-A)=0:=B0 (by rw[d6];lia) (by rw[d6];lia);have p:=gH r u t;obtain⟨k,l,b,f⟩:=v5 a.ne p;have w:0<l:=by
  have q:=i5 (λv=>b9 v (Z-A)) f;rw[K1,K1]at q;have x:b9 n (Z-A)<0:=by rw[d6];lia
  have N:b9 m (Z-A)<=0:=by rw[d6];have:=h Z s;lia
  have O:k*b9 n (Z-A)<0:=aAy b x;by_cases z:0<l
  .exact z
  .exfalso;have:0<=l*b9 m (Z-A):=by
    have:=aBl (show 0<=-l by lia) (show 0<=-b9 m (Z-A)by lia)
    rwa [aDv]at this
   lia
 have y:=vC g a b w f;subst y;exact⟨rfl,by lia⟩
def b7 (A B:V)(J:List V):V×Int:=j6 A B (D9 (B-A) A J 0 A).2
def o6 (n:V)(d:Int)(J:List V):List V:=J.filter λX=>decide (b9 n X=d)
def c5:X∈o6 n d J↔X∈J/\b9 n X=d:=by simp[o6]
def oD (h:cr (Q-P) (R-P)≠0):∃g:Int,0<g/\cr (Q-P) (R-P)=g*(j6 P Q R).1/\cV (j6 P Q R).1/\(j6 P Q R).2=b9 (j6 P Q R).1 P:=by obtain⟨a,b,d⟩:=iZ h;exact⟨_,a,b,d,rfl⟩
def X0 {Pos:V->Prop}(C:ConeM (B-A) Pos)(d:B-A≠0)(n:∀P∈J,Pos (P-A)\/cr (B-A) (P-A)=0)(o:∃P∈J,Pos (P-A)):
  ∃(a:V) (g:Int),a∈J/\Pos (a-A)/\0<g/\cr (B-A) (a-A)=g*(b7 A B J).1/\cV (b7 A B J).1/\(b7 A B J).2=b9 (b7 A B J).1 A/\
   (∀P∈J,b9 (b7 A B J).1 P<=(b7 A B J).2)/\b9 (b7 A B J).1 B=(b7 A B J).2/\b9 (b7 A B J).1 a=(b7 A B J).2/\
   (∀P∈J,b9 (b7 A B J).1 P=(b7 A B J).2->f8 (B-A) (a-A) (P-A)=0):=by
 obtain⟨p,f,q⟩:=MH C d n o;have r:=C.ad1 d f;obtain⟨g,i,j,s,k⟩:=oD r;have b:∀w:V,g*b9 (b7 A B J).1 w=f8 (B-A) ((D9 (B-A) A J 0 A).2-A) w:=λw=>by have:b9 (cr (B-A)<|(D9 (B-A) A J 0 A).2-A) w=f8 (B-A) ((D9 (B-A) A J 0 A).2-A) w:=U1 _ _ _;rw[<-this,j,K1];rfl
 have u:(b7 A B J).2=b9 (b7 A B J).1 A:=k;have l:∀w:V,f8 (B-A) ((D9 (B-A) A J 0 A).2-A) w=0->b9 (b7 A B J).1 w=0:=λw t=>by have:=b w;rw[t]at this;exact(aAo.mp this).resolve_left (by lia)
 refine⟨_,g,p,f,i,j,s,k,λP m=>?_,?_,?_,λP m e=>?_⟩
 .have h:=q P m;rw[<-b]at h;have:b9 (b7 A B J).1 (P-A)<=0:=by
   by_cases z:b9 (b7 A B J).1 (P-A)<=0
   .exact z
   .have:=aBm i (show 0<b9 (b7 A B J).1 (P-A)by lia)
    lia
  rw[d6]at this
  lia
 .have:=l (B-A) (by simp[f8,b9];grind);rw[d6]at this;lia
 .have:=l ((D9 (B-A) A J 0 A).2-A) (C1 _ _);rw[d6]at this;lia
 .rw[<-b,d6];have:b9 (b7 A B J).1 P-b9 (b7 A B J).1 A=0:=by lia
  rw[this];simp
def yA {Pos:V->Prop}(C:ConeM a Pos)(d:a≠0)(e:Pos o)(f:Pos w)(h:f8 a o w=0):0<b9 (cr a o) (cr a w):=by
 by_cases z:0<b9 (cr a o) (cr a w)
 .exact z
 .exfalso;have g:=C.ad1 d e;have i:=u5 g;have j:Pos (b9 (cr a o) (cr a o)*w+(-b9 (cr a o) (cr a w))*o):=C.comb i (by lia) f e;refine C.ad1 d j ?_;have b:cr (cr a o) (cr a w)=f8 a o w*a:=by simp[f8,b9];apply ext<;>simp<;>grind
  rw[h,v6]at b;have k:cr a (b9 (cr a o) (cr a o)*w+(-b9 (cr a o) (cr a w))*o)=b9 (cr a o) (cr a o)*cr a w+(-b9 (cr a o) (cr a w))*cr a o:=by apply ext<;>simp<;>grind
  rw[k];have l:∀p q:V,b9 p p*q+(-b9 p q)*p=cr p (cr q p):=λp q=>by simp[b9];apply ext<;>simp<;>grind
  rw[l];have m:cr (cr a w) (cr a o)=0:=by have n:=i5 V.x b;have r:=i5 V.y b;have s:=i5 V.z b;simp only[TD,VJ,SL,cU,dE,cW]at n r s;apply ext<;>simp only[TD,VJ,SL,cU,dE,cW]<;>grind
  rw[m];apply ext<;>simp
def Btw.symm (h:Btw P Q X):Btw Q P X:=⟨λa=>⟨(h.2 a).2,(h.2 a).1⟩,λa=>⟨(h.1 a).2,(h.1 a).1⟩⟩
def sH (i:n≠0)(d:b9 n (a-b)=0):ConeM (a-b) (λw=>b9 n w<0\/(b9 n w=0/\0<f8 n (b-a) w))where
 add:=λ{u v} j l=>by
  rw[x4,aM]
  lia
 mul:=λ{k u} f h=>by
  rw[f9,zR];rcases h with h|⟨h,g⟩
  .exact .inl (aAy f h)
  .exact .inr ⟨by rw[h];simp,aBm f g⟩
 irr:=by rw[C0,eT];lia
 inv:=λ{u} k h=>by
  have e:f8 n (b-a) (a-b)=0:=by have:a-b=-(b-a):=(p9 _ _).symm;rw[this,J5,C1];rfl
  rw[x4,aM,f9,zR,d,e];simpa using h
def V1 (a:n≠0)(g:b9 n u=0)(i:b9 n w=0)(h:f8 n u w=0):cr u w=0:=by
 have j:cr n (cr u w)=0:=B0 g i;obtain⟨k,m,p,e⟩:=v5 a j;have q:=i5 (b9 n) e;rw[f9,f9]at q;have:b9 n (cr u w)=0:=h;rw[this]at q;have l:m=0:=by
  have:=u5 a;have o:m*b9 n n=0:=by lia
  rcases aAo.mp o with z|z
  .exact z
  .lia
 rw[l,v6]at e;have b:=i5 V.x e;have d:=i5 V.y e;have f:=i5 V.z e;simp only[qM,nF,oH,cU,dE,cW]at b d f;exact ext ((aAo.mp b).resolve_left (by lia)) ((aAo.mp d).resolve_left (by lia)) ((aAo.mp f).resolve_left (by lia))
def zC (h:cr u w=0):cr (-u) w=0:=by have a:=i5 V.x h;have b:=i5 V.y h;have d:=i5 V.z h;simp only[TD,VJ,SL,cU,dE,cW]at a b d;apply ext<;>simp<;>grind
def uA (B:n≠0)(T:∀X∈J,b9 n X<=d)(hz:∃Z∈J,b9 n Z<d)(h:EdgeOf n (λX=>X∈o6 n d J) a b):
  IsFace J (b7 b a J).1 (b7 b a J).2/\EdgeOf (b7 b a J).1 (λX=>X∈o6 (b7 b a J).1 (b7 b a J).2 J) b a:=by
 obtain⟨E,da⟩:=c5.mp h.p;obtain⟨pb,db⟩:=c5.mp h.q;have j:b9 n (a-b)=0:=by rw[d6];lia
 have s:b9 n (b-a)=0:=by rw[d6];lia
 have C:=sH (n:=n) B j;have o:a-b≠0:=λe=>h.ne (by have U:=i5 V.x e;have Y:=i5 V.y e;have q3:=i5 V.z e;simp at U Y q3;exact ext (by lia) (by lia) (by lia))
 have t:∀P∈J,(b9 n (P-b)<0\/(b9 n (P-b)=0/\0<f8 n (b-a) (P-b)))\/cr (a-b) (P-b)=0:=λP H=>by
  have h1:=T P H;by_cases z:b9 n P<d
  .exact .inl (.inl (by rw[d6];lia))
  .have e:b9 n P=d:=by lia
   have tP:P∈o6 n d J:=c5.mpr ⟨H,e⟩;have l:=h.left P tP;rw[qN]at l;have I:b9 n (P-b)=0:=by rw[d6];lia
   by_cases y:0<f8 n (b-a) (P-b)
   .exact .inl (.inr ⟨I,y⟩)
   .have y0:f8 n (b-a) (P-b)=0:=by lia
    have:=zC (V1 B s I y0);rw[p9]at this;exact .inr this
 obtain⟨Z,hZ,hz⟩:=hz;obtain⟨f,g,o1,u,g0,L,gp,N,v,O,sO,Q⟩:=X0 C o t ⟨Z,hZ,.inl (by rw[d6];lia)⟩;refine⟨⟨gp,v,b,pb,a,E,f,o1,N.symm,O,sO,C.ad1 o u⟩,⟨c5.mpr ⟨pb,N.symm⟩,c5.mpr ⟨E,O⟩,λe=>h.ne e.symm,λX w=>?_,λX w e=>?_⟩⟩
 .obtain⟨i,A⟩:=c5.mp w;have z:=Q X i A;have r:g*f8 (b7 b a J).1 (a-b) (X-b)=b9 (cr (a-b)<|f-b) (cr (a-b)<|X-b):=by rw[L];unfold f8;rw[K1]
  have:0<=b9 (cr (a-b)<|f-b) (cr (a-b)<|X-b):=by
   rcases t X i with q|q
   .exact aAM (yA C o u q z)
   .rw[q,C0];exact aBV _
  rw[<-r]at this;by_cases zz:0<=f8 (b7 b a J).1 (a-b) (X-b)
  .exact zz
  .have:=aAy g0 (show f8 (b7 b a J).1 (a-b) (X-b)<0 by lia)
   lia
 .obtain⟨i,A⟩:=c5.mp w;have z:=Q X i A;have r:g*f8 (b7 b a J).1 (a-b) (X-b)=b9 (cr (a-b)<|f-b) (cr (a-b)<|X-b):=by rw[L];unfold f8;rw[K1]
  rw[e]at r;rcases t X i with q|q
  .have:=yA C o u q z;rw[<-r]at this;simp at this
  .
   have dX:b9 n X=d:=by obtain⟨k,m,hk,e⟩:=v5 o q;have q:=i5 (b9 n) e;rw[f9,f9,j]at q;have:b9 n (X-b)=0:=(aAo.mp (show k*b9 n (X-b)=0 by lia)).resolve_left (by lia);rw[d6]at this;lia
   refine(h.btw X (c5.mpr ⟨i,dX⟩) ?_).symm;rw[qN];have:cr (b-a) (X-b)=0:=by
    have:=zC q
    rwa [p9]at this
   unfold f8;rw[this,C0]
def A0:List V->Option V
 |[]=>none
 |w::a=>if w≠0 then some w else A0 a
def u4 (h:A0 ws=some w):w∈ws/\w≠0:=by
 induction ws with
 |nil=>cases h
 |cons v ws a=>
  unfold A0 at h;split at h
  .rename_i b;cases h;exact⟨by simp,b⟩
  .have:=a h;exact⟨aAe _ this.1,this.2⟩
def M4 (h:A0 ws=none):∀w∈ws,w=0:=by
 induction ws with
 |nil=>intro w a;cases a
 |cons v ws b=>
  unfold A0 at h;split at h
  .cases h
  .rename_i d;intro w a;rcases aAd.mp a with e|e
   .subst e;exact Decidable.not_not.mp d
   .exact b h w e
def U0:List V->Nat
 |[]=>0
 |p::d=>
  let a:=(p::d).map (· -p)
  match A0 a with
  |none=>0
  |some b=>match A0 (a.map<|cr b)with
   |none=>1
   |some e=>if a.any (λw=>decide (b9 e w≠0))then 3 else 2
def j2 (J:List V):Prop:=∃A∈J,∃B∈J,∃C∈J,∃D∈J,f8 (B-A) (C-A) (D-A)≠0
def HD (h:U0 J=3):j2 J:=by
 match J,h with
 |p::v,h=>
  unfold U0 at h;dsimp only at h;split at h
  .cases h
  .rename_i b f;split at h
   .cases h
   .rename_i g i;split at h
    .rename_i e;obtain⟨j,w⟩:=u4 f;obtain⟨d,x⟩:=u4 i;obtain⟨y,d,k⟩:=aAi.mp d;rw[aEr]at e;obtain⟨l,m,n⟩:=e;obtain⟨B,o,q⟩:=aAi.mp j;obtain⟨C,r,s⟩:=aAi.mp d;obtain⟨D,t,u⟩:=aAi.mp m;refine⟨p,by simp,B,o,C,r,D,t,?_⟩;rw[q,s,u];have a:b9 g l≠0:=by simpa using n
     rw[<-k,U1]at a;exact a
    .cases h
def PK (h:U0 J≠3):¬j2 J:=by
 rintro⟨A,j,B,k,C,l,D,m,t⟩;match J,h,j,k,l,m with
 |p::f,h,j,k,l,m=>
  unfold U0 at h;dsimp only at h;have o:∀X∈p::f,X-p∈(p::f).map (· -p):=λX b=>aAi.mpr ⟨X,b,rfl⟩;have d:∀n:V,n≠0->(∀X∈p::f,b9 n (X-p)=0)->False:=λn v r=>by
   have q:∀X∈p::f,b9 n (X-A)=0:=λX b=>by have g:=r X b;have i:=r A j;rw[d6]at*;lia
   exact t (x9 v (q B k) (q C l)<|q D m)
  split at h
  .rename_i g;have z:=M4 g;refine d ⟨1,0,0⟩ (λe=>by have:=i5 V.x e;simp at this) λX b=>?_;rw[z _ (o X b)];exact C0 _
  .rename_i a g;obtain⟨L,w⟩:=u4 g;split at h
   .rename_i i;have z:=M4 i;have y:∀X∈p::f,cr a (X-p)=0:=λX b=>z _ (aAi.mpr ⟨_,o X b,rfl⟩);obtain⟨u,E,N⟩:∃u:V,cr a u≠0/\True:=by
     rcases gR w with q|q|q
     .exact⟨⟨0,1,0⟩,λe=>q (by have:=i5 V.z e;simpa using this),trivial⟩
     .exact⟨⟨1,0,0⟩,λe=>q (by have:=i5 V.z e;simpa using this),trivial⟩
     .exact⟨⟨0,1,0⟩,λe=>q (by have:=i5 V.x e;simpa using this),trivial⟩
    refine d (cr a u) E λX b=>?_;rw[U1,gT (y X b)]
   .rename_i s i;obtain⟨O,H⟩:=u4 i;split at h
    .exact h rfl
    .rename_i I;refine d s H λX b=>?_;by_cases z:b9 s (X-p)=0
     .exact z
     .exact absurd (aEr.mpr ⟨X-p,o X b,by simpa using z⟩) I
def NG (h:U0 J<2):∀X∈J,∀Y∈J,∀Z∈J,cr (Y-X) (Z-X)=0:=by
 match J,h with
 |[],_=>intro X b;cases b
 |p::d,h=>
  unfold U0 at h;dsimp only at h;have l:∀X∈p::d,X-p∈(p::d).map (· -p):=λX b=>aAi.mpr ⟨X,b,rfl⟩;intro X b Y m Z o;split at h
  .rename_i i;have z:=M4 i;have e:∀W∈p::d,W=p:=λW j=>by have:=z _ (l W j);have f:=i5 V.x this;have g:=i5 V.y this;have q:=i5 V.z this;simp at f g q;exact ext (by lia) (by lia) (by lia)
   rw[e X b,e Y m,u7];apply ext<;>simp
  .rename_i a i;obtain⟨E,r⟩:=u4 i;split at h
   .rename_i s;have z:=M4 s;have n:∀X∈p::d,cr a (X-p)=0:=λX b=>z _ (aAi.mpr ⟨_,l X b,rfl⟩);have k:∀U∈p::d,∀W∈p::d,cr (U-W) a=0:=λU t W j=>by have f:=n U t;have g:=n W j;have u:=i5 V.x f;have v:=i5 V.y f;have w:=i5 V.z f;have A:=i5 V.x g;have B:=i5 V.y g;have C:=i5 V.z g;simp at u v w A B C;apply ext<;>simp<;>grind
    exact gH r (k Y m X b) (k Z o X b)
   .split at h<;>lia
def HM (h:2<=U0 J):∃X∈J,∃Y∈J,∃Z∈J,cr (Y-X) (Z-X)≠0:=by
 match J,h with
 |[],h=>exact absurd h (by simp[U0])
 |p::n,h=>
  unfold U0 at h;dsimp only at h;split at h
  .lia
  .rename_i a d;obtain⟨e,o⟩:=u4 d;split at h
   .lia
   .rename_i q f;obtain⟨b,g⟩:=u4 f;obtain⟨r,b,i⟩:=aAi.mp b;obtain⟨B,j,k⟩:=aAi.mp e;obtain⟨C,l,m⟩:=aAi.mp b;exact⟨p,by simp,B,j,C,l,by rw[k,m,i];exact g⟩
def j2.off (h:j2 J)(f:n≠0):∃Z∈J,b9 n Z≠d:=by
 obtain⟨A,g,B,i,C,j,D,k,l⟩:=h;by_cases a:b9 n A=d
 .by_cases b:b9 n B=d
  .by_cases c:b9 n C=d
   .by_cases e:b9 n D=d
    .exact absurd (x9 f (by rw[d6];lia) (by rw[d6];lia) (by rw[d6];lia)) l
    .exact⟨D,k,e⟩
   .exact⟨C,j,c⟩
  .exact⟨B,i,b⟩
 .exact⟨A,g,a⟩
def j2.below (h:j2 J)(b:n≠0)(f:∀X∈J,b9 n X<=d):∃Z∈J,b9 n Z<d:=by obtain⟨Z,a,e⟩:=h.off (d:=d) b;exact⟨Z,a,by have:=f Z a;lia⟩
def kk:V:=⟨0,0,1⟩
def f6 (m:V)(J:List V):V×V:=
 let u:=b7 m (m+kk) J
 let a:=o6 u.1 u.2 J
 if U0 a=2 then(m,m+kk)else(a.getD 0 0,a.getD 1 0)
def GL:ConeM kk (λw=>0<w.x\/(w.x=0/\0<w.y))where
 add:=λ{u v} d e=>by simp;lia
 mul:=λ{k u} a h=>by
  simp;rcases h with h|⟨h,b⟩
  .exact .inl (aBm a h)
  .exact .inr ⟨by rw[h];simp,aBm a b⟩
 irr:=by simp
 inv:=λ{u} k h=>by simpa[kk]using h
def BK (h:b9 n a=0):ConeM a (λw=>b9 n w<0)where
 add:=λ{u v} e f=>by rw[x4];lia
 mul:=λ{k u} b h=>by rw[f9];exact aAy b h
 irr:=by rw[C0];lia
 inv:=λ{u} k d=>by rw[x4,f9,h];simpa using d
def L6 (m k:V):m+k-m=k:=ext (by simp;lia) (by simp;lia) (by simp;lia)
def W6 (Q:j2 J)(ho:J.Pairwise (λa b=>d8 (b-a)))(hm:m∈J)(hl:∀X∈J,X=m\/d8 (X-m)):
  IsFace J (b7 (f6 m J).1 (f6 m J).2 J).1 (b7 (f6 m J).1 (f6 m J).2 J).2:=by
 have C:ConeM (m+kk-m) (λw=>0<w.x\/(w.x=0/\0<w.y)):=by rw[L6];exact GL
 have af:m+kk-m≠0:=by rw[L6];intro e;have:=i5 V.z e;simp[kk]at this
 have T:∀P∈J,(0<(P-m).x\/((P-m).x=0/\0<(P-m).y))\/cr (m+kk-m) (P-m)=0:=λP v=>by
  rw[L6];rcases hl P v with e|e
  .right;subst e;rw[u7];apply ext<;>simp
  .unfold d8 at e;rcases e with e|⟨U,e|⟨e2,e3⟩⟩
   .exact .inl (.inl e)
   .exact .inl (.inr ⟨U,e⟩)
   .right;apply ext
    .simp[kk];simp at e2;lia
    .simp[kk];simp at U;lia
    .simp[kk]
 have hx:∃P∈J,0<(P-m).x\/((P-m).x=0/\0<(P-m).y):=by
  by_cases z:∃P∈J,0<(P-m).x\/((P-m).x=0/\0<(P-m).y)
  .exact z
  .exfalso;obtain⟨Z,f,e⟩:=Q.off (n:=⟨1,0,0⟩) (d:=m.x) (λe=>by have:=i5 V.x e;simp at this);have w:=(T Z f).resolve_left λq=>z ⟨Z,f,q⟩;rw[L6]at w;have:=i5 V.y w;simp[kk]at this;simp[b9]at e
   lia
 obtain⟨k,g,o1,o2,g0,ge,I,gd,h,sB,sO,sP⟩:=X0 C af T hx;have i:m∈o6 (b7 m (m+kk) J).1 (b7 m (m+kk) J).2 J:=c5.mpr ⟨hm,gd.symm⟩;have l:k∈o6 (b7 m (m+kk) J).1 (b7 m (m+kk) J).2 J:=c5.mpr ⟨o1,sO⟩;have L:m≠k:=λe=>by subst e;rw[u7]at o2;simp at o2
 by_cases h2:U0 (o6 (b7 m (m+kk) J).1 (b7 m (m+kk) J).2 J)=2
 .have e:f6 m J=(m,m+kk):=by unfold f6;simp only[h2,if_true]
  rw[e];obtain⟨X,E,Y,H,Z,f,hc⟩:=HM (J:=o6 (b7 m (m+kk) J).1 (b7 m (m+kk) J).2 J) (by lia);have E:=c5.mp E;have H:=c5.mp H;have f:=c5.mp f;exact⟨I,h,X,E.1,Y,H.1,Z,f.1,E.2,H.2,f.2,hc⟩
 .
  have h1:U0 (o6 (b7 m (m+kk) J).1 (b7 m (m+kk) J).2 J)≠3:=λz=>by obtain⟨A,hA,B,hB,C,hC,D,hD,hd⟩:=HD z;have hA:=c5.mp hA;have hB:=c5.mp hB;have hC:=c5.mp hC;have hD:=c5.mp hD;exact hd (x9 I.ne (by rw[d6];lia) (by rw[d6];lia) (by rw[d6];lia))
  have ao:U0 (o6 (b7 m (m+kk) J).1 (b7 m (m+kk) J).2 J)<2:=by
   have:U0 (o6 (b7 m (m+kk) J).1 (b7 m (m+kk) J).2 J)<=3:=by
    generalize o6 (b7 m (m+kk) J).1 (b7 m (m+kk) J).2 J=t;unfold U0;split
    .lia
    .dsimp only;split
     .lia
     .split
      .lia
      .split<;>lia
   lia
  have o:=NG ao;have e:f6 m J=((o6 (b7 m (m+kk) J).1 (b7 m (m+kk) J).2 J).getD 0 0,(o6 (b7 m (m+kk) J).1 (b7 m (m+kk) J).2 J).getD 1 0):=by unfold f6;simp only[h2,if_false]
  rw[e];have ord:(o6 (b7 m (m+kk) J).1 (b7 m (m+kk) J).2 J).Pairwise (λa b=>d8 (b-a)):=aFY _ ho;have j:∀X,X∈o6 (b7 m (m+kk) J).1 (b7 m (m+kk) J).2 J↔X∈J/\b9 (b7 m (m+kk) J).1 X=(b7 m (m+kk) J).2:=λX=>c5;generalize o6 (b7 m (m+kk) J).1 (b7 m (m+kk) J).2 J=t at*
  match t,i,l with
  |[],i,_=>cases i
  |[x],i,l=>simp at i l;exact absurd (i.trans l.symm) L
  |x::y::r,i,l=>
   dsimp only[List.getD_cons_zero,List.getD_cons_succ];have p:d8 (y-x):=(aAz.mp ord).1 y (by simp);have ox:=(j x).mp (by simp);have oy:=(j y).mp (by simp);have yg:y-x≠0:=λz=>by rw[z]at p;exact y8.irr p
   have na:b9 (b7 m (m+kk) J).1 (y-x)=0:=by rw[d6];lia
   have C2:=BK na;obtain⟨Z,f,hz⟩:=Q.below I.ne h;obtain⟨s,g2,p1,p2,p0,pe,pp,pd,u,N,O,sP2⟩:=X0 C2 yg (J:=J) (λP v=>by
    have:=h P v;by_cases q:b9 (b7 m (m+kk) J).1 P<(b7 m (m+kk) J).2
    .exact .inl (by rw[d6];lia)
    .exact .inr (o x (by simp) y (by simp) P ((j P).mpr ⟨v,by lia⟩))) ⟨Z,f,by rw[d6];lia⟩
   exact⟨pp,u,x,ox.1,y,oy.1,s,p1,pd.symm,N,O,C2.ad1 yg p2⟩
def L9 {a b:V}(h:a-b=0):a=b:=by have d:=i5 V.x h;have e:=i5 V.y h;have f:=i5 V.z h;simp at d e f;exact ext (by lia) (by lia) (by lia)
def IsFace.aa2 (f:J.Pairwise (λa b=>d8 (b-a)))(h:IsFace J n d):Sheet n (o6 n d J)where
 nz:=h.prim.ne
 pl:=λX g Y i=>by have:=(c5.mp g).2;have:=(c5.mp i).2;rw[d6];lia
 ord:=aFY _ f
 two:=by obtain⟨A,j,B,k,C,l,a,b,c,e⟩:=h.three;refine⟨A,c5.mpr ⟨j,a⟩,B,c5.mpr ⟨k,b⟩,λz=>e ?_⟩;subst z;rw[u7];apply ext<;>simp
def IsFace.ac9 {J:List V}{n:V}{d:Int}(h:IsFace J n d){a b:V}(f:EdgeOf n (λX=>X∈o6 n d J) a b):∃X∈o6 n d J,0<f8 n (b-a) (X-a):=by
 by_cases z:∃X∈o6 n d J,0<f8 n (b-a) (X-a)
 .exact z
 .exfalso;have v:=h.prim.ne;obtain⟨pa,da⟩:=c5.mp f.p;obtain⟨pb,db⟩:=c5.mp f.q;have g:b9 n (b-a)=0:=by rw[d6];lia
  have w:b-a≠0:=λe=>f.ne (L9 e).symm;have k:∀X∈J,b9 n X=d->cr (b-a) (X-a)=0:=λX i j=>by have r:=c5.mpr ⟨i,j⟩;have l:=f.left X r;have l':¬0<f8 n (b-a) (X-a):=λq=>z ⟨X,r,q⟩;exact V1 v g (by rw[d6];lia) (by lia)
  obtain⟨A,s,B,E,C,H,t,I,L,e⟩:=h.three;have u:∀X∈J,b9 n X=d->∀Y∈J,b9 n Y=d->cr (X-Y) (b-a)=0:=λX i j Y N O=>by have m:=k X i j;have o:=k Y N O;have Q:=i5 V.x m;have T:=i5 V.y m;have U:=i5 V.z m;have b1:=i5 V.x o;have b2:=i5 V.y o;have b3:=i5 V.z o;simp at Q T U b1 b2 b3;apply ext<;>simp<;>grind
  exact e (gH w (u B E I A s t)<|u C H L A s t)
def NV (l:j2 J)(f:IsFace J n d)(g:IsFace J m e)(i:EdgeOf n (λX=>X∈o6 n d J) a b)(h:EdgeOf m (λX=>X∈o6 m e J) b a)(j:X∈o6 n d J)(k:0<f8 n (b-a) (X-a)):b9 m X<e:=by
 obtain⟨o,r⟩:=c5.mp j;have A:=g.sup X o;by_cases z:b9 m X=e
 .exfalso;obtain⟨B,s⟩:=c5.mp i.p;obtain⟨pb,t⟩:=c5.mp i.q;obtain⟨_,u⟩:=c5.mp h.q;obtain⟨_,v⟩:=c5.mp h.p;obtain⟨Z,w,x⟩:=l.below f.prim.ne f.sup;have y:cr (b-a) (X-a)≠0:=λq=>by unfold f8 at k;rw[q,C0]at k;lia
  obtain⟨rfl,rfl⟩:=iG f.prim g.prim f.sup g.sup s t r u v z y w x;have:=h.left X j;have C:f8 n (a-b) (X-b)=-f8 n (b-a) (X-a):=by simp[f8,b9];grind
  lia
 .lia
def wU:List V->V
 |[]=>0
 |X::l=>X+wU l
theorem oC (n:V):∀l:List V,b9 n (wU l)=(l.map (b9 n)).sum
 |[]=>C0 n
 |X::l=>by simp only[wU,aAr,aCa];rw[x4,oC n l]
theorem AB {α:Type}(f g:α->Int):∀l:List α,(∀x∈l,f x<=g x)->(l.map f).sum<=(l.map g).sum
 |[],_=>aBV _
 |x::l,h=>by
  simp only[aAr,aCa];have:=h x (by simp);have:=AB f g l (λy a=>h y (aAe _ a))
  lia
theorem CP {α:Type}(f g:α->Int):∀l:List α,(∀x∈l,f x<=g x)->(∃x∈l,f x<g x)->(l.map f).sum<(l.map g).sum
 |[],_,⟨x,b,_⟩=>by cases b
 |x::l,h,⟨y,a,d⟩=>by
  simp only[aAr,aCa];have i:=h x (by simp);have j:=AB f g l (λy a=>h y (aAe _ a));rcases aAd.mp a with e|e
  .subst e;lia
  .have:=CP f g l (λy a=>h y (aAe _ a)) ⟨y,e,d⟩
   lia
theorem aN {α:Type}(c:Int):∀l:List α,(l.map λ_=>c).sum=(l.length:Int)*c
 |[]=>by simp
 |x::l=>by simp only[aAr,aCa,aAt];rw[aN c l];push_cast;grind
def B1 (J:List V)(X:V):V:=(J.length:Int)*X-wU J
def S4 (J:List V)(n:V)(d:Int):Int:=(J.length:Int)*d-b9 n (wU J)
def uO (J:List V)(n X:V):b9 n (B1 J X)=(J.length:Int)*b9 n X-b9 n (wU J):=by unfold B1;rw[d6,f9]
def eU (a:j2 J)(b:n≠0)(h:∀X∈J,b9 n X<=d):0<S4 J n d:=by
 unfold S4;rw[oC,<-aN];have:=CP (b9 n) (λ_=>d) J h (a.below b h)
 lia
def len_pos (a:j2 J):0<(J.length:Int):=by
 obtain⟨A,b,_⟩:=a;have:0<J.length:=aDl b
 lia
def Z5 (h:b9 n X=d):b9 n (B1 J X)=S4 J n d:=by rw[uO,h];rfl
def pJ (h:b9 n X<=d):b9 n (B1 J X)<=S4 J n d:=by
 rw[uO];unfold S4;have:=aAH h (show(0:Int)<=J.length by lia)
 lia
def MS (a:0<(J.length:Int))(h:b9 n X<d):b9 n (B1 J X)<S4 J n d:=by
 rw[uO];unfold S4;have:=aEO h a
 lia
def VC (J:List V)(a b X:V):f8 (B1 J a) (B1 J b) (B1 J X)=(J.length:Int)*(J.length:Int)*b9 (B1 J a) (cr (b-a) (X-a)):=by unfold B1;generalize(J.length:Int)=N;generalize wU J=s;simp[f8,b9];grind
def zB (h:cr w c=0)(x y:V):b9 w y*b9 c x=b9 w x*b9 c y:=by
 have e:b9 w y*b9 c x-b9 w x*b9 c y=b9 (cr w c) (cr y x):=by simp[b9];grind
 rw[h]at e;have:b9 0 (cr y x)=0:=by simp[b9]
 lia
def FC (e:j2 J)(f:IsFace J n d)(j:b9 n a=d)(o:b9 n b=d)(r:b9 n X=d)(h:0<f8 n (b-a) (X-a)):0<f8 (B1 J a) (B1 J b) (B1 J X):=by
 rw[VC];have g:=len_pos e;refine aBm (aBm g g) ?_;have i:=f.prim.ne;have p:cr n (cr (b-a)<|X-a)=0:=B0 (by rw[d6];lia) (by rw[d6];lia);have q:=zB p n (B1 J a);have k:0<b9 n (B1 J a):=by rw[Z5 j];exact eU e i f.sup
 have l:0<b9 (cr (b-a)<|X-a) n:=by rw[dD];exact h
 have s:=aBm k l;have m:=u5 i;rw[dD (B1 J a)];by_cases z:0<b9 (cr (b-a)<|X-a) (B1 J a)
 .exact z
 .exfalso;have:b9 n n*b9 (cr (b-a)<|X-a) (B1 J a)<=0:=by have:=aAH (show b9 (cr (b-a)<|X-a) (B1 J a)<=0 by lia) (aAM m);simpa using this
  lia
def WB (f:j2 J)(g:IsFace J n d)(j:IsFace J m e)(h:EdgeOf n (λX=>X∈o6 n d J) a b)(k:EdgeOf m (λX=>X∈o6 m e J) b a)(Q:b9 m B*S4 J n d<=b9 n B*S4 J m e):0<=f8 (B1 J a) (B1 J b) B:=by
 obtain⟨X,l,o⟩:=g.ac9 h;have w:=NV f g j h k l o;obtain⟨T,t⟩:=c5.mp l;obtain⟨U,u⟩:=c5.mp h.p;obtain⟨pb,v⟩:=c5.mp h.q;obtain⟨_,x⟩:=c5.mp k.q;obtain⟨_,A⟩:=c5.mp k.p;have c0:=eU f g.prim.ne g.sup;have Y:=eU f j.prim.ne j.sup;have C:=FC f g u v t o;by_cases z:0<=f8 (B1 J a) (B1 J b) B
 .exact z
 .exfalso;have i:∀y,b9 (S4 J n d*m-S4 J m e*n) y=S4 J n d*b9 m y-S4 J m e*b9 n y:=λy=>by rw[dD,d6,f9,f9,dD y m,dD y n]
  have E:b9 (S4 J n d*m-S4 J m e*n) (B1 J a)=0:=by rw[i,Z5 u,Z5 x];grind
  have H:b9 (S4 J n d*m-S4 J m e*n) (B1 J b)=0:=by rw[i,Z5 v,Z5 A];grind
  have I:b9 (S4 J n d*m-S4 J m e*n) (B1 J X)<0:=by
   rw[i,Z5 t];have L:=MS (len_pos f) w;have:=aEO L c0;have e1:S4 J m e*S4 J n d=S4 J n d*S4 J m e:=aGF _ _
   lia
  have p:=zB (B0 E H) (B1 J X) B;have N:b9 (cr (B1 J a)<|B1 J b) (B1 J X)=f8 (B1 J a) (B1 J b) (B1 J X):=U1 _ _ _;have O:b9 (cr (B1 J a)<|B1 J b) B=f8 (B1 J a) (B1 J b) B:=U1 _ _ _;rw[N,O]at p;have r:0<b9 (S4 J n d*m-S4 J m e*n) (B1 J X)*f8 (B1 J a) (B1 J b) B:=aBG I (by lia);rw[<-p]at r;have s:0<b9 (S4 J n d*m-S4 J m e*n) B:=by
   by_cases q:0<b9 (S4 J n d*m-S4 J m e*n) B
   .exact q
   .have:=aAS (show b9 (S4 J n d*m-S4 J m e*n) B<=0 by lia) (aAM C);simp at this;lia
  rw[i]at s;have e4:b9 m B*S4 J n d=S4 J n d*b9 m B:=aGF _ _;have e5:b9 n B*S4 J m e=S4 J m e*b9 n B:=aGF _ _
  lia
def DG {a b c d e f:Int}(g:0<b)(h:0<d)(i:0<f)(j:a*d<=c*b)(k:c*f<=e*d):a*f<=e*b:=by
 have m:=aAS j (aAM i);have n:=aAS k (aAM g);have l:(a*f)*d<=(e*b)*d:=by grind
 exact aEP l h
theorem EX {α:Type}(p q:α->Int):∀(l:List α),l≠[]->(∀x∈l,0<q x)->∃x∈l,∀y∈l,p y*q x<=p x*q y
 |[],h,_=>absurd rfl h
 |[x],_,_=>⟨x,by simp,λy d=>by simp at d;subst d;exact aBV _⟩
 |x::y::l,_,b=>by
  obtain⟨z,f,h⟩:=EX p q (y::l) (by simp) (λw a=>b w (aAe _ a));by_cases c:p x*q z<=p z*q x
  .refine⟨z,aAe _ f,λw a=>?_⟩;rcases aAd.mp a with e|e
   .subst e;exact c
   .exact h w e
  .refine⟨x,by simp,λw a=>?_⟩;rcases aAd.mp a with e|e
   .subst e;exact aBV _
   .exact DG (b w a) (b z<|aAe _ f) (b x (by simp)) (h w e) (by lia)
theorem a0b (h:V->Int):∀(x:V) (l:List V),0<=h x->(∀z,(x::l).getLast?=some z->h z<=0)->l≠[]->∃u v,(u,v)∈t6 (x::l)/\0<=h u/\h v<=0
 |x,[],_,_,b=>absurd rfl b
 |x,y::r,d,a,_=>by
  by_cases c:h y<=0
  .exact⟨x,y,by simp[t6],d,c⟩
  .match r,a with
   |[],a=>exact absurd (a y rfl) c
   |z::r,a=>obtain⟨u,v,m,p⟩:=a0b h y (z::r) (by lia) (λw e=>a w (by rw[aBn];exact e)) (by simp);exact⟨u,v,by simp only[t6]at m⊢;exact aAe _ m,p⟩
theorem kX:∀(l:List V) (x z w:V),(x::l).getLast?=some z->(z,w)∈t6 (x::l++[w])
 |[],x,z,w,h=>by simp at h;subst h;simp[t6]
 |y::l,x,z,w,h=>by rw[aBn]at h;have:=kX l y z w h;simp only[aBh,t6]at this⊢;exact aAe _ this
theorem gC:∀(l:List V) (x w:V),∀e∈t6 (x::l),e∈t6 (x::l++[w])
 |[],x,w,e,h=>by simp[t6]at h
 |y::l,x,w,e,h=>by
  simp only[aBh,t6]at h⊢;rcases aAd.mp h with q|q
  .subst q;simp
  .exact aAe _ (gC l y w e q)
def K8 (g:J.Pairwise (λa b=>d8 (b-a)))(f:IsFace J n d):∃r s t l,j9 n (o6 n d J)=r::s::t::l:=by
 have S:=f.aa2 g;obtain⟨r,l,e,_⟩:=S.aa9;match l,e with
 |[],e=>
  have h:(r,r)∈J3 (j9 n<|o6 n d J):=by rw[e];simp[J3]
  exact absurd rfl (S.pair h).ne
 |[s],e=>
  have i:(r,s)∈J3 (j9 n<|o6 n d J):=by rw[e];simp[J3]
  have j:(s,r)∈J3 (j9 n<|o6 n d J):=by rw[e];simp[J3]
  have k:=S.pair i;have m:=S.pair j;obtain⟨X,o,p⟩:=f.ac9 k;have:=m.left X o;have q:f8 n (r-s) (X-s)=-f8 n (s-r) (X-r):=by simp[f8,b9];grind
  lia
 |s::t::l,e=>exact⟨r,s,t,l,e⟩
def sM (N:j2 J)(ho:J.Pairwise (λa b=>d8 (b-a)))(fs:List (V×Int))(af:fs≠[])(hf:∀f∈fs,IsFace J f.1 f.2)(hc:∀f∈fs,∀a b,EdgeOf f.1 (λX=>X∈o6 f.1 f.2 J) a b->∃g∈fs,EdgeOf g.1 (λX=>X∈o6 g.1 g.2 J) b a)(w:IsFace J n d):(n,d)∈fs:=by
 obtain⟨B,hBd⟩:∃B,B=wU ((o6 n d J).map (B1 J)):=⟨_,rfl⟩;have dB:∀m,b9 m B=((o6 n d J).map λX=>b9 m (B1 J X)).sum:=λm=>by rw[hBd,oC,aBL];rfl
 have cn:=eU N w.prim.ne w.sup;have ub:∀m e,(∀X∈J,b9 m X<=e)->b9 m B<=((o6 n d J).length:Int)*S4 J m e:=λm e hm=>by rw[dB,<-aN];exact AB _ _ _ λX i=>pJ (hm X (c5.mp i).1)
 have eB:b9 n B=((o6 n d J).length:Int)*S4 J n d:=by rw[dB,<-aN];congr 1;exact aED λX i=>Z5 (c5.mp i).2
 obtain⟨⟨m,e⟩,hm,htop⟩:=EX (λf:V×Int=>b9 f.1 B) (λf=>S4 J f.1 f.2) fs af λf h=>eU N (hf f h).prim.ne (hf f h).sup;have j:=hf _ hm;have O:∀a b,EdgeOf m (λX=>X∈o6 m e J) a b->0<=f8 (B1 J a) (B1 J b) B:=λa b hab=>by obtain⟨g,hg,zi⟩:=hc _ hm a b hab;exact WB N j (hf g hg) hab zi (htop g hg)
 have S:=j.aa2 ho;obtain⟨r,s,t,l,er⟩:=K8 ho j;have nd:=S.aa4;have pr:=λ{P Q}=>S.aa1 (P:=P) (Q:=Q);rw[er]at pr nd;have rm:r∈j9 m (o6 m e J):=by rw[er];simp
 have on:∀X∈r::s::t::l,b9 m X=e:=λX i=>by rw[<-er]at i;exact(c5.mp<|S.aa3 i).2
 obtain⟨z,hz⟩:∃z,(s::t::l).getLast?=some z:=by simp[aEU]
 have c1:(r,s)∈J3 (r::s::t::l):=by rw[W7];simp[t6]
 have c2:(z,r)∈J3 (r::s::t::l):=by rw[W7];exact kX _ _ _ _ (by rw[aBn];exact hz)
 have w1:=O _ _ (pr.mp c1);have w2:=O _ _ (pr.mp c2);obtain⟨u,v,T,hu,hv⟩:=a0b (λX=>f8 (B1 J r) (B1 J X) B) s (t::l) w1 (λy hy=>by
  have:y=z:=Option.some.inj (hy.symm.trans hz);subst this;have e1:f8 (B1 J r) (B1 J y) B=-f8 (B1 J y) (B1 J r) B:=by simp[f8,b9];grind
  lia) (by simp)
 have c3:(u,v)∈J3 (r::s::t::l):=by rw[W7];have:=gC (t::l) s r _ T;simp only[aBh,t6]at this⊢;exact aAe _ this
 have g3:=pr.mp c3;have U:u∈s::t::l/\v∈s::t::l:=by
  have:=T;have hh:∀(l:List V) (p q:V),(p,q)∈t6 l->p∈l/\q∈l:=λl=>by
   induction l with
   |nil=>intro p q h;simp[t6]at h
   |cons x l ih=>
    intro p q h;match l,h,ih with
    |[],h,_=>simp[t6]at h
    |y::l,h,ih=>
     simp only[t6]at h;rcases aAd.mp h with c|c
     .cases c;simp
     .have:=ih p q c;exact⟨aAe _ this.1,aAe _ this.2⟩
  exact hh _ _ _ T
 have nr:=(aAE.mp nd).1;have ru:r≠u:=λq=>by subst q;exact nr U.1
 have rv:r≠v:=λq=>by subst q;exact nr U.2
 have st:=S.strict g3 rm ru rv;have du:=on u (aAe _ U.1);have dv:=on v (aAe _ U.2);have dr:=on r (by simp);have D0:=FC N j du dv dr st;have w3:=O _ _ g3;have k:=CW B (B1 J r) (B1 J u) (B1 J v);have a1:f8 B (B1 J u) (B1 J v)=f8 (B1 J u) (B1 J v) B:=by simp[f8,b9];grind
 have a2:f8 B (B1 J v) (B1 J r)=-f8 (B1 J r) (B1 J v) B:=by simp[f8,b9];grind
 have a3:f8 B (B1 J r) (B1 J u)=f8 (B1 J r) (B1 J u) B:=by simp[f8,b9];grind
 have a4:f8 (B1 J r) (B1 J u) (B1 J v)=f8 (B1 J u) (B1 J v) (B1 J r):=by simp[f8,b9];grind
 rw[a1,a2,a3,a4]at k;obtain⟨E,hal⟩:∃E,E=f8 (B1 J u) (B1 J v) B:=⟨_,rfl⟩;obtain⟨H,zl⟩:∃H,H=-f8 (B1 J r) (B1 J v) B:=⟨_,rfl⟩;obtain⟨I,hga⟩:∃I,I=f8 (B1 J r) (B1 J u) B:=⟨_,rfl⟩;obtain⟨o,hDe⟩:∃o,o=f8 (B1 J u) (B1 J v) (B1 J r):=⟨_,rfl⟩;rw[<-hal,<-zl,<-hga,<-hDe]at k;have al0:0<=E:=by lia
 have be0:0<=H:=by lia
 have ga0:0<=I:=by lia
 have De0:0<o:=by lia
 have cd:∀f:V,o*b9 f B=I*b9 f (B1 J v)+E*b9 f (B1 J r)+H*b9 f (B1 J u):=λf=>by
  have:=i5 (b9 f) k;rw[x4,x4,f9,f9,f9,f9]at this
  lia
 have q1:=cd m;rw[Z5 dr,Z5 du,Z5 dv]at q1;have q2:=cd n;have cm:=eU N j.prim.ne j.sup;have pt:∀X∈r::s::t::l,X∈J:=λX i=>by rw[<-er]at i;exact(c5.mp<|S.aa3 i).1
 have r1:=pJ (J:=J) (w.sup r (pt r (by simp)));have r2:=pJ (J:=J) (w.sup u<|pt u<|aAe _ U.1);have r3:=pJ (J:=J) (w.sup v<|pt v<|aAe _ U.2);have s1:=aAH r1 al0;have s2:=aAH r2 be0;have s3:=aAH r3 ga0;obtain⟨L,hL⟩:∃L:Int,L=((o6 n d J).length:Int):=⟨_,rfl⟩;have ub1:=ub m e j.sup;rw[<-hL]at eB ub1;have k1:o*L<=E+H+I:=by
  have:(o*L)*S4 J n d<=(E+H+I)*S4 J n d:=by
   rw[eB]at q2;have e1:o*L*S4 J n d=o*(L*S4 J n d):=aGq _ _ _;have e2:(E+H+I)*S4 J n d=E*S4 J n d+H*S4 J n d+I*S4 J n d:=by grind
   lia
  exact aEP this cn
 have k2:o*b9 m B=(E+H+I)*S4 J m e:=by rw[q1];grind
 have k3:(o*L)*S4 J m e<=o*b9 m B:=by rw[k2];exact aAS k1 (aAM cm)
 have k4:L*S4 J m e<=b9 m B:=by rw[aGq]at k3;exact aFf k3 De0
 have all:∀X∈o6 n d J,b9 m X=e:=λX i=>by
  have le:b9 m X<=e:=j.sup X (c5.mp i).1;by_cases z:b9 m X=e
  .exact z
  .exfalso;have:=CP (λX=>b9 m (B1 J X)) (λ_=>S4 J m e) (o6 n d J) (λY hY=>pJ (j.sup Y (c5.mp hY).1)) ⟨X,i,MS (len_pos N) (by lia)⟩;rw[<-dB,aN,<-hL]at this
   lia
 obtain⟨A,hA,B',hB',C,hC,ea,eb,ec,hcr⟩:=w.three;obtain⟨Z,hZ,hz⟩:=N.below w.prim.ne w.sup;obtain⟨rfl,rfl⟩:=iG w.prim j.prim w.sup j.sup ea eb ec (all A<|c5.mpr ⟨hA,ea⟩) (all B'<|c5.mpr ⟨hB',eb⟩) (all C<|c5.mpr ⟨hC,ec⟩) hcr hZ hz;exact hm
def d7 (J:List V)(f:V×Int):List V:=j9 f.1 (o6 f.1 f.2 J)
structure LInv (J:List V)(p0:V×V)(fs:List (V×Int))(walked:V×V->Prop)(waiting:List (V×V)):Prop where
 face:∀f∈fs,IsFace J f.1 f.2
 nd:fs.Nodup
 wk:∀e,walked e↔∃f∈fs,e∈J3 (d7 J f)
 cl:∀f∈fs,∀a b,(a,b)∈J3 (d7 J f)->(∃g∈fs,(b,a)∈J3 (d7 J g))\/(b,a)∈waiting
 wt:∀p∈waiting,(∃f∈fs,(p.2,p.1)∈J3 (d7 J f))\/(fs=[]/\p=p0)
 ne:fs=[]->waiting=[p0]
structure Good (J:List V)(m:V):Prop where
 solid:j2 J
 ord:J.Pairwise (λa b=>d8 (b-a))
 mem:m∈J
 least:∀X∈J,X=m\/d8 (X-m)
section
variable{J:List V} {m:V} (G:Good J m) {fs:List (V×Int)} {walked:V×V->Prop} {waiting rest:List (V×V)} {p:V×V}
include G
theorem CT:LInv J (f6 m J) [] (λ_=>False) [f6 m J]where
 face:=λf h=>by cases h
 nd:=aCP
 wk:=λe=>⟨λh=>h.elim,λ⟨f,h,_⟩=>by cases h⟩
 cl:=λf h=>by cases h
 wt:=λq h=>.inr ⟨rfl,by simpa using h⟩
 ne:=λ_=>rfl
theorem MZ (h:LInv J (f6 m J) fs walked waiting)(j:waiting=rest++[p])(k:walked p):LInv J (f6 m J) fs walked rest:=by
 have i:∀q,q∈waiting↔q=p\/q∈rest:=λq=>by rw[j];simp[or_comm]
 obtain⟨l,d,n⟩:=(h.wk p).mp k;have o:fs≠[]:=λe=>by subst e;cases d
 refine⟨h.face,h.nd,h.wk,λf r a b g=>?_,λq s=>h.wt q ((i q).mpr (.inr s)),λe=>absurd e o⟩;rcases h.cl f r a b g with q|q
 .exact .inl q
 .rcases(i (b,a)).mp q with z|z
  .subst z;exact .inl ⟨l,d,n⟩
  .exact .inr z
theorem yS (h:LInv J (f6 m J) fs walked waiting)(e:p∈waiting)(g:¬walked p):IsFace J (b7 p.1 p.2 J).1 (b7 p.1 p.2 J).2/\b7 p.1 p.2 J∉fs/\(fs≠[]->p∈J3 (d7 J (b7 p.1 p.2 J))):=by
 rcases h.wt p e with⟨f,i,j⟩|⟨k,l⟩
 .have a:=h.face f i;have S:=a.aa2 G.ord;have n:=S.aa1.mp j;obtain⟨b,o⟩:=uA a.prim.ne a.sup (G.solid.below a.prim.ne a.sup) n;have q:=b.aa2 G.ord;have d:p∈J3 (d7 J<|b7 p.1 p.2 J):=q.aa1.mpr o;exact⟨b,λz=>g ((h.wk p).mpr ⟨_,z,d⟩),λ_=>d⟩
 .subst k l;exact⟨W6 G.solid G.ord G.mem G.least,by simp,λz=>absurd rfl z⟩
theorem KW (h:LInv J (f6 m J) fs walked waiting)(n:waiting=rest++[p])(r:¬walked p){walked':V×V->Prop}(s:∀e,walked' e↔walked e\/e∈J3 (d7 J (b7 p.1 p.2 J)))(k:∀q,q∈waiting'↔q∈rest\/(q.2,q.1)∈J3 (d7 J (b7 p.1 p.2 J))):
  LInv J (f6 m J) (fs++[b7 p.1 p.2 J]) walked' waiting':=by
 have l:∀q,q∈waiting↔q=p\/q∈rest:=λq=>by rw[n];simp[or_comm]
 obtain⟨t,u,v⟩:=yS G h ((l p).mpr (.inl rfl)) r;refine⟨λf d=>?_,?_,λe=>?_,λf d a b j=>?_,λq w=>?_,λe=>by simp at e⟩
 .rcases aAU.mp d with z|z
  .exact h.face f z
  .have:f=b7 p.1 p.2 J:=by simpa using z
   subst this;exact t
 .rw[aCD];exact⟨h.nd,by simp,λa x b A=>λe=>by
   have:b=b7 p.1 p.2 J:=by simpa using A
   subst e this;exact u x⟩
 .rw[s,h.wk];constructor
  .rintro(⟨f,d,i⟩|i)
   .exact⟨f,aBs _ d,i⟩
   .exact⟨_,aAG _ (by simp),i⟩
  .rintro⟨f,d,i⟩;rcases aAU.mp d with z|z
   .exact .inl ⟨f,z,i⟩
   .have:f=b7 p.1 p.2 J:=by simpa using z
    subst this;exact .inr i
 .rcases aAU.mp d with z|z
  .rcases h.cl f z a b j with⟨g,B,e⟩|q
   .exact .inl ⟨g,aBs _ B,e⟩
   .rcases(l (b,a)).mp q with y|y
    .have C:fs≠[]:=λe=>by subst e;cases z
     exact .inl ⟨b7 p.1 p.2 J,aAG _ (by simp),by rw[y];exact v C⟩
    .exact .inr ((k _).mpr (.inl y))
  .have:f=b7 p.1 p.2 J:=by simpa using z
   subst this;exact .inr ((k _).mpr (.inr j))
 .rcases(k q).mp w with z|z
  .rcases h.wt q ((l q).mpr (.inr z))with⟨f,d,e⟩|⟨E,H⟩
   .exact .inl ⟨f,aBs _ d,e⟩
   .have:=h.ne E;exfalso;rw[n]at this;have o:=i5 aGk this;simp at o;subst o;cases z
  .exact .inl ⟨_,aAG _ (by simp),z⟩
theorem QI (h:LInv J (f6 m J) fs walked []):fs≠[]/\∀n d,(n,d)∈fs↔IsFace J n d:=by
 have k:fs≠[]:=λe=>by have:=h.ne e;cases this
 refine⟨k,λn d=>⟨λi=>h.face _ i,λi=>?_⟩⟩;refine sM G.solid G.ord fs k h.face (λf i a b j=>?_) i;have S:=(h.face f i).aa2 G.ord;rcases h.cl f i a b (S.aa1.mpr j)with⟨g,l,e⟩|q
 .exact⟨g,l,((h.face g l).aa2 G.ord).aa1.mp e⟩
 .cases q
end
def eN (h:IsFace J n d):∃A∈J,∃B∈J,∃C∈J,cr (B-A) (C-A)≠0/\j6 A B C=(n,d):=by
 obtain⟨A,r,B,f,C,i,a,b,c,e⟩:=h.three;have j:∀B∈J,∀C∈J,b9 n B=d->b9 n C=d->cr (B-A) (C-A)≠0->0<b9 n (cr (B-A)<|C-A)->j6 A B C=(n,d):=λB f C i b c e m=>by
  obtain⟨g,w,E,H,I⟩:=oD e;have p:cr n (cr (B-A)<|C-A)=0:=B0 (by rw[d6];lia) (by rw[d6];lia);obtain⟨k,l,s,o⟩:=v5 h.prim.ne p;have L:0<l:=by
   have q:=i5 (b9 n) o;rw[f9,f9]at q;have:=aBm s m;have N:=u5 h.prim.ne;by_cases z:0<l
   .exact z
   .have:=aAS (show l<=0 by lia) (aAM N);simp at this;lia
  rw[E]at o;have O:(k*g)*(j6 A B C).1=l*n:=by rw[<-o];apply ext<;>simp<;>grind
  have t:=vC H h.prim (aBm s w) L O;refine aFX t ?_;rw[I,t];exact a
 by_cases z:0<b9 n (cr (B-A)<|C-A)
 .exact⟨A,r,B,f,C,i,e,j B f C i b c e z⟩
 .have u:cr (C-A) (B-A)=-cr (B-A) (C-A):=by apply ext<;>simp<;>grind
  have v:cr (C-A) (B-A)≠0:=λq=>e (by rw[u]at q;have Q:=i5 V.x q;have T:=i5 V.y q;have U:=i5 V.z q;simp only[xk,kz,vq,cU,dE,cW]at Q T U;exact ext (by simp only[cU];lia) (by simp only[dE];lia) (by simp only[cW];lia))
  have Y:b9 n (cr (B-A)<|C-A)≠0:=λq=>e (V1 h.prim.ne (by rw[d6];lia) (by rw[d6];lia) q);refine⟨A,r,C,i,B,f,v,j C i B f c b v ?_⟩;have:b9 n (cr (C-A)<|B-A)=-b9 n (cr (B-A)<|C-A):=by rw[u];simp[b9];grind
  lia
def cands (J:List V):List (V×Int):=J.flatMap λA=>J.flatMap λB=>J.map λC=>j6 A B C
def ID (J:List V):(cands J).length=J.length*(J.length*J.length):=by
 unfold cands;have h:∀(l:List V) (f:V->List (V×Int)) (k:Nat),(∀x,(f x).length=k)->(l.flatMap f).length=l.length*k:=λl f k a=>by
  induction l with
  |nil=>simp
  |cons x l b=>rw[aEd,aAB,b,a,aAt,aGG,Nat.add_comm]
 rw[h J _ (J.length*J.length) λA=>h J _ J.length λB=>by simp]
theorem q8 {α:Type}[DecidableEq α]:∀{l m:List α},l.Nodup->(∀x∈l,x∈m)->l.length<=m.length
 |[],_,_,_=>aAX _
 |x::l,m,h,a=>by
  have b:=a x (by simp);have d:=aAE.mp h;have:=q8 (l:=l) (m:=m.erase x) d.2 (λy f=>by
   have ne:y≠x:=λe=>by subst e;exact d.1 f
   exact(aFZ ne).mpr (a y<|aAe _ f))
  rw[aFk b]at this;have:0<m.length:=aDl b;simp only[aAt]
  lia
def GV {J:List V}{fs:List (V×Int)}(a:fs.Nodup)(b:∀f∈fs,IsFace J f.1 f.2):fs.length<=J.length*(J.length*J.length):=by rw[<-ID];refine q8 a λf h=>?_;obtain⟨A,d,B,g,C,i,_,e⟩:=eN (b f h);unfold cands;rw[aBc];refine⟨A,d,?_⟩;rw[aBc];exact⟨B,g,aAi.mpr ⟨C,i,e⟩⟩
section
variable{J:List V} (hs:j2 J) (ho:J.Pairwise (λa b=>d8 (b-a)))
include hs ho
theorem Y9 (e:IsFace J n d)(h:EdgeOf n (λX=>X∈o6 n d J) a b):
 IsFace J (b7 b a J).1 (b7 b a J).2/\EdgeOf (b7 b a J).1 (λX=>X∈o6 (b7 b a J).1 (b7 b a J).2 J) b a:=uA e.prim.ne e.sup (hs.below e.prim.ne e.sup) h
theorem bH (e:IsFace J n d)(f:EdgeOf n (λX=>X∈o6 n d J) a b)(g:EdgeOf n (λX=>X∈o6 n d J) b a):False:=by
 obtain⟨X,h,i⟩:=e.ac9 f;have:=g.left X h;have j:f8 n (a-b) (X-b)=-f8 n (b-a) (X-a):=by simp[f8,b9];grind
 lia
theorem T5 (a:IsFace J n d)(m:X∈d7 J (n,d)):∃g h:V×Int,IsFace J g.1 g.2/\IsFace J h.1 h.2/\(n,d)≠g/\(n,d)≠h/\g≠h/\b9 n X=d/\b9 g.1 X=g.2/\b9 h.1 X=h.2:=by
 have S:=a.aa2 ho;obtain⟨Y,s⟩:=P6 S m;obtain⟨W,o⟩:=nV S m;have b:=S.aa1.mp s;have i:=S.aa1.mp o;obtain⟨k,f⟩:=Y9 hs ho a b;obtain⟨t,j⟩:=Y9 hs ho a i;have l:W≠Y:=λe=>by subst e;exact bH hs ho a b i
 refine⟨_,_,k,t,λe=>?_,λe=>?_,λe=>?_,(c5.mp b.p).2,(c5.mp f.q).2,(c5.mp j.p).2⟩
 .rw[<-e]at f;exact bH hs ho a b f
 .rw[<-e]at j;exact bH hs ho a i j
 .
  have st:=S.strict b (X6 S o).1 (i.ne) l;have u:=(c5.mp i.p).2;have v:=(c5.mp b.p).2;have w:=(c5.mp b.q).2;have x:=(c5.mp f.p).2;have y:=(c5.mp f.q).2;have r:=(c5.mp j.q).2;rw[<-e]at r;have z:cr (Y-X) (W-X)≠0:=λq=>by unfold f8 at st;rw[q,C0]at st;lia
  obtain⟨Z,A,B⟩:=hs.below a.prim.ne a.sup;obtain⟨C,E⟩:=iG a.prim k.prim a.sup k.sup v w u y x r z A B;have:(n,d)=b7 Y X J:=aFX C E;rw[<-this]at f;exact bH hs ho a b f
theorem IC (r:IsFace J n d)(g:IsFace J m e)(h:EdgeOf n (λX=>X∈o6 n d J) a b)(ga:b9 m a=e)(gb:b9 m b=e):(m,e)=(n,d)\/(m,e)=b7 b a J:=by
 obtain⟨pa,da⟩:=c5.mp h.p;obtain⟨pb,db⟩:=c5.mp h.q;obtain⟨H,I⟩:=Y9 hs ho r h;have hab:b9 n (a-b)=0:=by rw[d6];lia
 have C:=sH (n:=n) r.prim.ne hab;have af:a-b≠0:=λq=>h.ne (L9 q);obtain⟨P,pP,eP,hP⟩:∃P∈J,b9 m P=e/\cr (a-b) (P-b)≠0:=by
  by_cases z:∃P∈J,b9 m P=e/\cr (a-b) (P-b)≠0
  .exact z
  .exfalso;obtain⟨A,hA,B,hB,D,hD,eA,eB,eD,hc⟩:=g.three;have k:∀X∈J,b9 m X=e->cr (a-b) (X-b)=0:=λX hX dX=>by
    by_cases q:cr (a-b) (X-b)=0
    .exact q
    .exact absurd ⟨X,hX,dX,q⟩ z
   have k2:∀X∈J,b9 m X=e->∀Y∈J,b9 m Y=e->cr (X-Y) (a-b)=0:=λX hX dX Y hY dY=>by have s:=k X hX dX;have f:=k Y hY dY;have a1:=i5 V.x s;have a2:=i5 V.y s;have a3:=i5 V.z s;have I:=i5 V.x f;have b2:=i5 V.y f;have b3:=i5 V.z f;simp at a1 a2 a3 I b2 b3;apply ext<;>simp<;>grind
   exact hc (gH af (k2 B hB eB A hA eA)<|k2 D hD eD A hA eA)
 have mab:b9 m (a-b)=0:=by rw[d6];lia
 have mP:b9 m (P-b)=0:=by rw[d6];lia
 have par:cr m (cr (a-b)<|P-b)=0:=B0 mab mP;obtain⟨k,l,hk,L⟩:=v5 g.prim.ne par;have dl:∀w,k*f8 (a-b) (P-b) w=l*b9 m w:=λw=>by have:=i5 (λv=>b9 v w) L;simp only[K1,U1]at this;exact this
 have l0:l≠0:=λq=>hP (by rw[q,v6]at L;have s:=i5 V.x L;have f:=i5 V.y L;have q3:=i5 V.z L;simp only[qM,nF,oH,cU,dE,cW]at s f q3;exact ext ((aAo.mp s).resolve_left (by lia)) ((aAo.mp f).resolve_left (by lia)) ((aAo.mp q3).resolve_left (by lia)))
 have N:∀Q∈J,b9 m (Q-b)<=0:=λQ hQ=>by rw[d6];have:=g.sup Q hQ;lia
 obtain⟨Z,hZ,hz⟩:=hs.below r.prim.ne r.sup;by_cases hl:0<l
 .
  right;obtain⟨O,hO,eO⟩:∃O∈o6 (b7 b a J).1 (b7 b a J).2 J,0<f8 (b7 b a J).1 (a-b) (O-b):=H.ac9 I;obtain⟨pO,dO⟩:=c5.mp hO;obtain⟨_,e1b⟩:=c5.mp I.p;obtain⟨_,e1a⟩:=c5.mp I.q;have t1:f8 (a-b) (P-b) (O-b)<=0:=by
   have q:=dl (O-b);have:=aAH (N O pO) (aAM hl);rw[aBP]at this;by_cases z:f8 (a-b) (P-b) (O-b)<=0
   .exact z
   .have:=aBm hk (show 0<f8 (a-b) (P-b) (O-b)by lia);lia
  have i:cr (b7 b a J).1 (cr (a-b)<|O-b)=0:=B0 (by rw[d6];lia) (by rw[d6];lia);obtain⟨k',t,T,j⟩:=v5 H.prim.ne i;have o:∀w,k'*f8 (a-b) (O-b) w=t*b9 (b7 b a J).1 w:=λw=>by have:=i5 (λv=>b9 v w) j;simp only[K1,U1]at this;exact this
  have je:0<t:=by
   have q:=i5 (b9 (b7 b a J).1) j;rw[f9,f9]at q;have f:0<b9 (b7 b a J).1 (cr (a-b)<|O-b):=eO;have:=aBm T f;have hn:=u5 H.prim.ne;by_cases z:0<t
   .exact z
   .have:=aAS (show t<=0 by lia) (aAM hn);simp at this;lia
  have t2:f8 (a-b) (O-b) (P-b)<=0:=by
   have q:=o (P-b);have h0:b9 (b7 b a J).1 (P-b)<=0:=by rw[d6];have:=H.sup P pP;lia
   have:=aAH h0 (aAM je);rw[aBP]at this;by_cases z:f8 (a-b) (O-b) (P-b)<=0
   .exact z
   .have:=aBm T (show 0<f8 (a-b) (O-b) (P-b)by lia);lia
  have t3:f8 (a-b) (O-b) (P-b)=0:=by rw[k7]at t1;lia
  have U:=o (P-b);rw[t3,aBP]at U;have onP':b9 (b7 b a J).1 P=(b7 b a J).2:=by have:=(aAo.mp U.symm).resolve_left (by lia);rw[d6]at this;lia
  obtain⟨Z',u,E⟩:=hs.below g.prim.ne g.sup;obtain⟨s,f⟩:=iG g.prim H.prim g.sup H.sup gb ga eP e1b e1a onP' hP u E;exact aFX s f
 .
  left;have qd:l<0:=by lia
  obtain⟨O,hO,eO⟩:=r.ac9 h;obtain⟨pO,dO⟩:=c5.mp hO;rw[qN]at eO;have t1:0<=f8 (a-b) (P-b) (O-b):=by
   have q:=dl (O-b);have h2:0<=l*b9 m (O-b):=by
    have:=aBl (show 0<=-l by lia) (show 0<=-b9 m (O-b)by have:=N O pO;lia)
    rwa [aDv]at this
   by_cases z:0<=f8 (a-b) (P-b) (O-b)
   .exact z
   .have:=aAy hk (show f8 (a-b) (P-b) (O-b)<0 by lia);lia
  have i:cr n (cr (b-a)<|O-b)=0:=B0 (by rw[d6];lia) (by rw[d6];lia);obtain⟨k',t,T,j⟩:=v5 r.prim.ne i;have o:∀w,k'*f8 (b-a) (O-b) w=t*b9 n w:=λw=>by have:=i5 (λv=>b9 v w) j;simp only[K1,U1]at this;exact this
  have je:0<t:=by
   have q:=i5 (b9 n) j;rw[f9,f9]at q;have f:0<b9 n (cr (b-a)<|O-b):=eO;have:=aBm T f;have hn:=u5 r.prim.ne;by_cases z:0<t
   .exact z
   .have:=aAS (show t<=0 by lia) (aAM hn);simp at this;lia
  have t2:f8 (b-a) (O-b) (P-b)<=0:=by
   have q:=o (P-b);have h0:b9 n (P-b)<=0:=by rw[d6];have:=r.sup P pP;lia
   have:=aAH h0 (aAM je);rw[aBP]at this;by_cases z:f8 (b-a) (O-b) (P-b)<=0
   .exact z
   .have:=aBm T (show 0<f8 (b-a) (O-b) (P-b)by lia);lia
  have e3:f8 (b-a) (O-b) (P-b)=f8 (a-b) (P-b) (O-b):=by simp[f8,b9];grind
  have t3:f8 (b-a) (O-b) (P-b)=0:=by lia
  have U:=o (P-b);rw[t3,aBP]at U;have onn:b9 n P=d:=by have:=(aAo.mp U.symm).resolve_left (by lia);rw[d6]at this;lia
  obtain⟨Z',u,E⟩:=hs.below g.prim.ne g.sup;obtain⟨s,f⟩:=iG g.prim r.prim g.sup r.sup gb ga eP db da onn hP u E;exact aFX s f
end
def yE (j:j2 J)(k:m∈J)(l:∀X∈J,X=m\/d8 (X-m)):
  cV (b7 m (m+kk) J).1/\m∈o6 (b7 m (m+kk) J).1 (b7 m (m+kk) J).2 J/\∃a∈o6 (b7 m (m+kk) J).1 (b7 m (m+kk) J).2 J,m≠a:=by
 have C:ConeM (m+kk-m) (λw=>0<w.x\/(w.x=0/\0<w.y)):=by rw[L6];exact GL
 have o:m+kk-m≠0:=by rw[L6];intro e;have:=i5 V.z e;simp[kk]at this
 have b:∀P∈J,(0<(P-m).x\/((P-m).x=0/\0<(P-m).y))\/cr (m+kk-m) (P-m)=0:=λP p=>by
  rw[L6];rcases l P p with e|e
  .right;subst e;rw[u7];apply ext<;>simp
  .unfold d8 at e;rcases e with e|⟨f,e|⟨r,E⟩⟩
   .exact .inl (.inl e)
   .exact .inl (.inr ⟨f,e⟩)
   .right;apply ext
    .simp[kk];simp at r;lia
    .simp[kk];simp at f;lia
    .simp[kk]
 have s:∃P∈J,0<(P-m).x\/((P-m).x=0/\0<(P-m).y):=by
  by_cases z:∃P∈J,0<(P-m).x\/((P-m).x=0/\0<(P-m).y)
  .exact z
  .exfalso;obtain⟨Z,h,e⟩:=j.off (n:=⟨1,0,0⟩) (d:=m.x) (λe=>by have:=i5 V.x e;simp at this);have w:=(b Z h).resolve_left λq=>z ⟨Z,h,q⟩;rw[L6]at w;have:=i5 V.y w;simp[kk]at this;simp[b9]at e
   lia
 obtain⟨a,g,t,i,H,I,u,v,A,L,B,N⟩:=X0 C o b s;refine⟨u,c5.mpr ⟨k,v.symm⟩,a,c5.mpr ⟨t,B⟩,λe=>?_⟩;subst e;rw[u7]at i;simp at i
section
variable{J:List V} (hs:j2 J) (ho:J.Pairwise (λa b=>d8 (b-a)))
include hs ho
theorem pE (d:IsFace J f.1 f.2)(e:IsFace J g.1 g.2)(k:(a,b)∈J3 (d7 J f))(l:(a,b)∈J3 (d7 J g)):f=g:=by
 have i:=(d.aa2 ho).aa1.mp k;have h:=(e.aa2 ho).aa1.mp l;obtain⟨m,j⟩:=Y9 hs ho d i;rcases IC hs ho d e i (c5.mp h.p).2 (c5.mp h.q).2 with q|q
 .exact q.symm
 .exfalso;have:g=b7 b a J:=q;rw[<-this]at j;exact bH hs ho e h j
theorem IP (h:l.Nodup):(J3 l).Nodup:=by
 have:((J3 l).map (·.1)).Nodup:=by
  unfold J3;rw[List.map_fst_zip]
  .exact h
  .simp;lia
 exact(aBN.mp this).imp λ{a b} h e=>h (by rw[e])
theorem UN:(J3 l).length=l.length:=by unfold J3;simp;lia
def Z4 (J:List V)(fs:List (V×Int)):List (V×V):=fs.flatMap λf=>J3 (d7 J f)
omit hs ho in
theorem pK (fs:List (V×Int)):(Z4 J fs).length=(fs.map λf=>(d7 J f).length).sum:=by
 induction fs with
 |nil=>rfl
 |cons f fs a=>show(J3 (d7 J f)++Z4 J fs).length=_;rw[aAB,a,aAr,aCa];congr 1;unfold J3;simp;lia
theorem V9:∀{fs:List (V×Int)},fs.Nodup->(∀f∈fs,IsFace J f.1 f.2)->(Z4 J fs).Nodup
 |[],_,_=>aCP
 |f::fs,k,h=>by have i:=aAE.mp k;have j:=h f (.head _);show(J3 (d7 J f)++Z4 J fs).Nodup;rw[aCD];refine⟨IP hs ho ((j.aa2 ho).aa4),V9 i.2 λg d=>h g (.tail _ d),λe l o m q=>?_⟩;subst q;obtain⟨g,d,n⟩:=aBc.mp m;exact i.1 (pE hs ho j (h g<|.tail _ d) (a:=e.1) (b:=e.2) l n▸d)
theorem tT {fs:List (V×Int)}(s:fs.Nodup)(k:∀f∈fs,IsFace J f.1 f.2):(fs.map λf=>(d7 J f).length).sum+J.length<=J.length*J.length:=by
 have i:J.Nodup:=ho.imp λ{a b} h e=>by subst e;exact G7 h
 have t:=V9 hs ho s k;have u:(Z4 J fs++J.map λa=>(a,a)).Nodup:=by rw[aCD];refine⟨t,aBN.mpr (i.imp λ{a b} h e=>h (Prod.mk.inj e).1),λe d z v q=>?_⟩;subst q;obtain⟨g,m,j⟩:=aBc.mp d;obtain⟨a,_,rfl⟩:=aAi.mp v;exact(((k g m).aa2 ho).aa1.mp j).ne rfl
 have w:∀e∈Z4 J fs++J.map (λa=>(a,a)),e∈J.flatMap λa=>J.map λb=>(a,b):=λe d=>by
  rcases aAU.mp d with d|d
  .obtain⟨g,m,j⟩:=aBc.mp d;have j:(e.1,e.2)∈J3 (d7 J g):=j;have n:=((k g m).aa2 ho).aa1.mp j;exact aBc.mpr ⟨e.1,(c5.mp n.p).1,aAi.mpr ⟨e.2,(c5.mp n.q).1,rfl⟩⟩
  .obtain⟨a,o,rfl⟩:=aAi.mp d;exact aBc.mpr ⟨a,o,aAi.mpr ⟨a,o,rfl⟩⟩
 have r:=q8 u w;have x:(J.flatMap λa=>J.map λb=>(a,b)).length=J.length*J.length:=by
  have:∀l:List V,(l.flatMap λa=>J.map λb=>(a,b)).length=l.length*J.length:=λl=>by
   induction l with
   |nil=>simp
   |cons a l y=>rw[aEd,aAB,y,aAj,aAt,aGG];lia
  exact this J
 rw[aAB,pK,aAj,x]at r;exact r
theorem lH {fs:List (V×Int)}(a:∀f∈fs,IsFace J f.1 f.2):3*fs.length<=(fs.map λf=>(d7 J f).length).sum:=by
 induction fs with
 |nil=>simp
 |cons f fs b=>
  have:=b λg d=>a g (.tail _ d);obtain⟨r,s,t,l,e⟩:=K8 ho (a f<|.head _);have h:(d7 J f).length=l.length+3:=by show(j9 f.1 (o6 f.1 f.2 J)).length=_;rw[e];simp
  rw[aAr,aCa,aAt,h]
  lia
end
theorem kU:∀(J:List V) (d b:V),(D9 a A J d b).2∈J\/(D9 a A J d b).2=b
 |[],d,b=>.inr rfl
 |P::e,d,b=>by
  unfold D9;split
  .rcases kU e (cr a (P-A)) P with h|h
   .exact .inl (.tail _ h)
   .exact .inl (by rw[h];exact .head _)
  .rcases kU e d b with h|h
   .exact .inl (.tail _ h)
   .exact .inr h
section
variable{J c:List V} (hs:j2 J) (ho:J.Pairwise (λa b=>d8 (b-a))) (bu:c.Pairwise (λa b=>d8 (b-a))) (hc:∀X,X∈c↔∃f:V×Int,IsFace J f.1 f.2/\X∈d7 J f)
include hs ho bu hc
theorem XR (h:X∈c):X∈J:=by obtain⟨f,a,b⟩:=(hc X).mp h;exact(c5.mp<|(a.aa2 ho).aa3 b).1
theorem kT (a:IsFace J n d)(h:X∈d7 J (n,d)):X∈o6 n d c:=by have b:=(c5.mp<|(a.aa2 ho).aa3 h).2;exact c5.mpr ⟨(hc X).mpr ⟨(n,d),a,h⟩,b⟩
theorem aq (h:X∈o6 n d c):X∈o6 n d J:=c5.mpr ⟨XR hs ho bu hc (c5.mp h).1,(c5.mp h).2⟩
theorem jA (a:IsFace J n d):IsFace c n d:=by
 have S:=a.aa2 ho;obtain⟨r,s,t,l,e⟩:=K8 ho a;have i:r∈j9 n (o6 n d J):=by rw[e];simp
 have j:s∈j9 n (o6 n d J):=by rw[e];simp
 have f:t∈j9 n (o6 n d J):=by rw[e];simp
 have b:=S.aa4;rw[e]at b;simp only[aAE,aAd,not_or]at b;have g:EdgeOf n (λX=>X∈o6 n d J) r s:=S.aa1.mp (by rw[e];simp[J3]);have st:=S.strict g f (λq=>b.1.2.1 q.symm) (λq=>b.2.1.1 q.symm);have k:=λ{X} (h:X∈j9 n (o6 n d J))=>kT hs ho bu hc a (X:=X) h;refine⟨a.prim,λX m=>a.sup X (XR hs ho bu hc m),r,(c5.mp<|k i).1,s,(c5.mp<|k j).1,t,(c5.mp<|k f).1,(c5.mp<|k i).2,(c5.mp<|k j).2,(c5.mp<|k f).2,λq=>?_⟩;unfold f8 at st;rw[q,C0]at st
 lia
theorem pN (e:IsFace J n d)(h:EdgeOf n (λX=>X∈o6 n d J) a b):EdgeOf n (λX=>X∈o6 n d c) a b:=by have S:=e.aa2 ho;have m:=X6 S (S.aa1.mpr h);exact⟨kT hs ho bu hc e m.1,kT hs ho bu hc e m.2,h.ne,λX f=>h.left X (aq hs ho bu hc f),λX f=>h.btw X (aq hs ho bu hc f)⟩
omit hs ho bu hc in
theorem oG {R:V->Prop}{E:List (V×V)}(g:∀a b,R a->(a,b)∈E->R b):∀(x:V) (l:List V),R x->(∀e∈t6 (x::l),e∈E)->∀X∈x::l,R X
 |x,[],f,_,X,d=>by rw[aAV.mp d];exact f
 |x,y::l,f,h,X,d=>by
  have i:=g x y f (h (x,y) (by simp[t6]));rcases aAd.mp d with rfl|d
  .exact f
  .exact oG g y l i (λe j=>h e (by simp only[t6,aAd];exact .inr j)) X d
theorem CG (i:IsFace J n d)(h:X∈j9 n (o6 n d c)):X∈j9 n (o6 n d J):=by
 have S:=i.aa2 ho;have l:=(jA hs ho bu hc i).aa2 bu;obtain⟨m,r,e,s,t⟩:=l.aa9;obtain⟨g,H,o,u,v⟩:=S.aa9;have w:m=g:=by
  have x:g∈o6 n d c:=kT hs ho bu hc i (show g∈j9 n (o6 n d J)by rw[o];simp);rcases t g x with q|q
  .exact q.symm
  .rcases v m (aq hs ho bu hc s)with j|j
   .exact j
   .exact absurd (y8.add q j) (by
     have:(g-m)+(m-g)=0:=by apply ext<;>simp<;>lia
     rw[this];exactλz=>by simp[d8]at z)
 have step:∀a b,a∈j9 n (o6 n d J)->(a,b)∈J3 (j9 n<|o6 n d c)->b∈j9 n (o6 n d J):=λa b y k=>by obtain⟨I,p⟩:=P6 S y;have A:=l.aa1.mp k;have B:=pN hs ho bu hc i (S.aa1.mp p);rw[A.next B];exact(X6 S p).2
 rw[e]at h;refine oG (E:=J3 (j9 n<|o6 n d c)) (R:=λX=>X∈j9 n (o6 n d J)) step m r (by rw[w,o];simp) (λf C=>?_) X h;rw[e,W7];exact gC r m m f C
theorem lO (f:IsFace J n d)(h:EdgeOf n (λX=>X∈o6 n d c) a b):EdgeOf n (λX=>X∈o6 n d J) a b:=by have S:=f.aa2 ho;have g:=(jA hs ho bu hc f).aa2 bu;have i:=CG hs ho bu hc f (g.ab0 h);obtain⟨k,j⟩:=P6 S i;have e:=S.aa1.mp j;rw[h.next (pN hs ho bu hc f e)];exact e
theorem FM (j:IsFace J n d):j2 c:=by
 have S:=j.aa2 ho;obtain⟨r,s,t,l,e⟩:=K8 ho j;have I:r∈j9 n (o6 n d J):=by rw[e];simp
 have y:t∈j9 n (o6 n d J):=by rw[e];simp
 have o:=S.aa4;rw[e]at o;simp only[aAE,aAd,not_or]at o;have i:EdgeOf n (λX=>X∈o6 n d J) r s:=S.aa1.mp (by rw[e];simp[J3]);have st:=S.strict i y (λq=>o.1.2.1 q.symm) (λq=>o.2.1.1 q.symm);obtain⟨p,L⟩:=Y9 hs ho j i;generalize(b7 s r J).1=m at*
 generalize(b7 s r J).2=f at*
 have T:=p.aa2 ho;obtain⟨a,b,N,l2,x⟩:=K8 ho p;have g:=T.aa4;rw[x]at g;simp only[aAE,aAd,not_or]at g;obtain⟨Y,A,Q,U⟩:∃Y∈j9 m (o6 m f J),Y≠s/\Y≠r:=by
  have q1:a∈j9 m (o6 m f J):=by rw[x];simp
  have q2:b∈j9 m (o6 m f J):=by rw[x];simp
  have q3:N∈j9 m (o6 m f J):=by rw[x];simp
  by_cases B:a≠s/\a≠r
  .exact⟨a,q1,B⟩
  .by_cases C:b≠s/\b≠r
   .exact⟨b,q2,C⟩
   .refine⟨N,q3,λz=>?_,λz=>?_⟩
    .subst z;have E:a=r:=by
      by_cases h:a=r
      .exact h
      .exact absurd ⟨g.1.2.1,h⟩ B
     have H:b=r:=by
      by_cases h:b=r
      .exact h
      .exact absurd ⟨g.2.1.1,h⟩ C
     exact g.1.1 (E.trans H.symm)
    .subst z;have E:a=s:=by
      by_cases h:a=s
      .exact h
      .exact absurd ⟨h,g.1.2.1⟩ B
     have H:b=s:=by
      by_cases h:b=s
      .exact h
      .exact absurd ⟨h,g.2.1.1⟩ C
     exact g.1.1 (E.trans H.symm)
 have sY:=T.strict L A Q U;have lt:=NV hs p j L i (T.aa3 A) sY;have k:=λ{X} (h:X∈j9 n (o6 n d J))=>kT hs ho bu hc j (X:=X) h;have kY:=kT hs ho bu hc p A;have O:s∈j9 n (o6 n d J):=by rw[e];simp
 have dr:=(c5.mp<|k I).2;have dss:=(c5.mp<|k O).2;have dt:=(c5.mp<|k y).2;refine⟨r,(c5.mp<|k I).1,s,(c5.mp<|k O).1,t,(c5.mp<|k y).1,Y,(c5.mp kY).1,λz=>?_⟩;have p1:b9 n (s-r)=0:=by rw[d6];lia
 have p2:b9 n (t-r)=0:=by rw[d6];lia
 have pY:b9 n (Y-r)<0:=by rw[d6];lia
 have id:f8 (s-r) (t-r) (Y-r)*b9 n n=f8 n (s-r) (t-r)*b9 n (Y-r)+b9 n (s-r)*(b9 n (t-r)*0)+(b9 n (s-r)*f8 n (t-r) (Y-r)+b9 n (t-r)*f8 n (Y-r) (s-r)):=by generalize s-r=u;generalize t-r=v;generalize Y-r=w;have:=MU n n u v w;simp[f8,b9]at this⊢;grind
 rw[z,p1,p2]at id;have:f8 n (s-r) (t-r)*b9 n (Y-r)<0:=aAy st pY
 lia
theorem VM (fs:List (V×Int))(k:fs≠[])(e:∀f,f∈fs↔IsFace J f.1 f.2):IsFace c n d↔IsFace J n d:=by
 refine⟨λh=>?_,jA hs ho bu hc⟩;obtain⟨o,g⟩:=aFg fs k;have p:=FM hs ho bu hc ((e o).mp g);have:=sM p bu fs k (λf i=>jA hs ho bu hc ((e f).mp i)) (λf i a b j=>?_) h
 .exact(e _).mp this
 .have l:=(e f).mp i;obtain⟨m,q⟩:=Y9 hs ho l (lO hs ho bu hc l j);exact⟨b7 b a J,(e _).mpr m,pN hs ho bu hc m q⟩
theorem LC (b:X∈c):∃f:V×Int,IsFace c f.1 f.2/\X∈d7 c f:=by obtain⟨⟨n,d⟩,a,h⟩:=(hc X).mp b;have S:=a.aa2 ho;obtain⟨Q,e⟩:=P6 S h;exact⟨(n,d),jA hs ho bu hc a,((jA hs ho bu hc a).aa2 bu).ab0 (pN hs ho bu hc a<|S.aa1.mp e)⟩
end
def fq {Pos:V->Prop}(C:Cone Pos){n m p v q u:V}(g:n≠0)(r:b9 n p=0)(d:b9 n v=0)(f:b9 n q=0)(s:b9 n u=0)(B:Pos p)(i:Pos v)(j:Pos q)(E:Pos u)(H:0<b9 m p)(mv:b9 m v<0)(k:0<b9 m q)(mu:b9 m u<0)(t:0<=f8 n v p)(w:0<=f8 n q u):False:=by
 have id:∀{a b c:V},b9 n a=0->b9 n b=0->b9 n c=0->f8 n a b*b9 m c+f8 n b c*b9 m a+f8 n c a*b9 m b=0:=λ{a b c} I J L=>by have:=MU m n a b c;rw[x9 g I J L,aGH]at this;exact this
 have N:=id d r f;have O:=id f s d;rcases aDc 0 (f8 n q v)with h|h
 .
  have l:=C.tr j i B (x9 g f d r) h t;have o:f8 n p q=-f8 n q p:=k7 n q p;rw[o]at N;have Q:0<=f8 n v p*b9 m q:=aBl t (aAM k);have T:0< -f8 n q p*b9 m v:=by have:=aBm l (show 0< -b9 m v by lia);grind
  have U:0<f8 n q v*b9 m p:=aBm h H
  lia
 .rcases aDc (f8 n q v) 0 with h'|h'
  .have e0:f8 n v q=-f8 n q v:=k7 n q v;have A:0<f8 n v q:=by lia
   have l:=C.tr i j E (x9 g d f s) A w;have o:f8 n u v=-f8 n v u:=k7 n v u;rw[o]at O;have Q:f8 n q u*b9 m v<=0:=by have:=aBl w (show 0<=-b9 m v by lia);grind
   have T:-f8 n v u*b9 m q<0:=by have:=aBm l k;grind
   have U:f8 n v q*b9 m u<0:=by have:=aBm A (show 0< -b9 m u by lia);grind
   lia
  .have z:f8 n q v=0:=by lia
   have c0:=V1 g f d z;have e:b9 m q*v+(-b9 m v)*q=0:=by have Y:=i5 V.x c0;have hy:=i5 V.y c0;have hz:=i5 V.z c0;simp at Y hy hz;apply ext<;>simp[b9]<;>grind
   have:=C.add (C.mul k i) (C.mul (show 0< -b9 m v by lia) j);rw[e]at this;exact C.irr this
section
variable{n:V} {ts:List V} (S:Sheet n ts)
include S
theorem Sheet.ac8 (h:X∈w8 n ts\/X∈w8 n ts.reverse):X∈j9 n ts:=by
 obtain⟨m,M,c,d,j,k,f,l,o,b,e,g,i,p,q⟩:=S.ends;unfold j9;rw[aAU,b,e,aAQ,aAQ,aBr,aBr,aCv,aCv];rw[b,e]at h;have a:m≠M:=λz=>by subst z;exact G7 f
 rcases h with h|h
 .rcases aAd.mp h with rfl|h
  .right;have:=aCW i;rcases aAd.mp this with z|z
   .exact absurd z.symm a
   .exact z
  .exact .inl h
 .rcases aAd.mp h with rfl|h
  .left;have:=aCW g;rcases aAd.mp this with z|z
   .exact absurd z a
   .exact z
  .exact .inr h
theorem Sheet.top (d:X∈ts)(h:∀Y∈ts,Y≠X->b9 m Y<b9 m X):X∈j9 n ts:=by
 obtain⟨s,n1,t1⟩:=S.ab1;obtain⟨t,n2,t2⟩:=S.ab2;have w:∀u,d8 u->d8 (-u)->False:=λu x y=>by have:=y8.add x y;have A:u+-u=0:=ext (by simp;lia) (by simp;lia) (by simp;lia);rw[A]at this;exact y8.irr this
 have B:∀u,L8 u->L8 (-u)->False:=λu x y=>by have:=aR.add x y;have A:u+-u=0:=ext (by simp;lia) (by simp;lia) (by simp;lia);rw[A]at this;exact aR.irr this
 rcases oZ X (w8 n ts) (λY _=>C7 X Y) (λq C=>t1 X q C d) (λz E=>s.last X d z E) n1 w with H|⟨a,b,j,O,Q⟩
 .exact S.ac8 (.inl H)
 .rcases oZ X (w8 n ts.reverse) (λY _=>by
    rcases C7 X Y with z|z|z
    .exact .inl z
    .exact .inr (.inr (p7.mpr z))
    .exact .inr (.inl (p7.mpr z))) (λq C=>t2 X q C d) (λz E=>t.last X d z E) n2 B with H|⟨k,r,f,I,jb⟩
  .exact S.ac8 (.inr H)
  .exfalso;have T:=K9 S j;have U:=K9 S f;have J:=s.mem _ T.1;have L:=s.mem _ T.2;have g:=t.mem _ U.1;have i:=t.mem _ U.2;have E1:=(S.ae1 j J L).1.left X d;have E2:=(S.ae3 f g i).1.left X d;have l:=p7.mp I;have yh:=p7.mp jb;have ne:∀{Y},d8 (X-Y)->Y≠X:=λN z=>by subst z;exact G7 N
   have o:∀{Y},d8 (Y-X)->Y≠X:=λN z=>by subst z;exact G7 N
   have va:=h a J (ne O);have vb:=h b L (o Q);have va':=h k g (o l);have vb':=h r i (ne yh);refine fq y8 (n:=n) (m:=m) (p:=X-a) (v:=b-X) (q:=X-r) (u:=k-X) S.nz (S.pl _ d _ J) (S.pl _ L _ d) (S.pl _ d _ i) (S.pl _ g _ d) O Q yh l (by rw[d6];lia) (by rw[d6];lia) (by rw[d6];lia) (by rw[d6];lia) ?_ ?_
   .have e:f8 n (b-a) (X-a)=f8 n (b-X) (X-a):=by simp[f8,b9];grind
    rw[<-e];exact E1
   .have e:f8 n (r-k) (X-k)=f8 n (X-r) (k-X):=by simp[f8,b9];grind
    rw[<-e];exact E2
end
section
variable{J:List V} (hs:j2 J)
include hs
theorem aD (a:IsFace J n d)(b:IsFace J m e)(i:b9 n X=d)(j:b9 m X=e)(h:cr m n=0):(n,d)=(m,e):=by
 obtain⟨k,l,f,g⟩:=v5 b.prim.ne h;obtain⟨Z,o,t⟩:=hs.below a.prim.ne a.sup;have p:0<l:=by
  have q:=i5 (λv=>b9 v (Z-X)) g;rw[K1,K1]at q;have r:b9 n (Z-X)<0:=by rw[d6];lia
  have u:b9 m (Z-X)<=0:=by rw[d6];have:=b.sup Z o;lia
  have w:k*b9 n (Z-X)<0:=aAy f r;by_cases z:0<l
  .exact z
  .exfalso;have:0<=l*b9 m (Z-X):=by
    have:=aBl (show 0<=-l by lia) (show 0<=-b9 m (Z-X)by lia)
    rwa [aDv]at this
   lia
 have s:=vC a.prim b.prim f p g;subst s;rw[<-i,<-j]
theorem BQ {a b c:Int}(l:IsFace J n d)(o:IsFace J m e)(p:IsFace J k f)(hX:b9 n X=d)(td:b9 m X=e)(r:b9 k X=f)(hc:0<c)(s:0<a)(t:0<b)(h:c*k=a*n+b*m)(u:cr n m≠0):False:=by
 obtain⟨A,w,B,x,C,y,E,H,I,g⟩:=p.three;have i:∀Y∈J,b9 k Y=f->b9 n Y=d/\b9 m Y=e:=λY j hy=>by
  have h1:=l.sup Y j;have h2:=o.sup Y j;have q:=i5 (λv=>b9 v (Y-X)) h;have q:c*b9 k (Y-X)=a*b9 n (Y-X)+b*b9 m (Y-X):=by
   have L:b9 (c*k) (Y-X)=c*b9 k (Y-X):=K1 ..;have N:b9 (a*n+b*m) (Y-X)=a*b9 n (Y-X)+b*b9 m (Y-X):=by simp[b9];grind
   rw[<-L,<-N];exact q
  have O:b9 k (Y-X)=0:=by rw[d6];lia
  rw[O,aBP]at q;have Q:b9 n (Y-X)<=0:=by rw[d6];lia
  have T:b9 m (Y-X)<=0:=by rw[d6];lia
  have a0:a*b9 n (Y-X)<=0:=aAv (aAM s) Q;have b0:b*b9 m (Y-X)<=0:=aAv (aAM t) T;have U:a*b9 n (Y-X)=0:=by lia
  have z2:b*b9 m (Y-X)=0:=by lia
  have y1:b9 n (Y-X)=0:=by rcases aAo.mp U with z|z;lia;exact z
  have y2:b9 m (Y-X)=0:=by rcases aAo.mp z2 with z|z;lia;exact z
  rw[d6]at y1 y2;exact⟨by lia,by lia⟩
 obtain⟨a1,a2⟩:=i A w E;obtain⟨b1,b2⟩:=i B x H;obtain⟨c1,c2⟩:=i C y I;have p1:cr n (cr (B-A)<|C-A)=0:=B0 (by rw[d6];lia) (by rw[d6];lia);have p2:cr m (cr (B-A)<|C-A)=0:=B0 (by rw[d6];lia) (by rw[d6];lia);exact u (gH g p1 p2)
theorem dQ (o:IsFace J n d)(p:IsFace J m e)(i:IsFace J k f)(B:b9 n X=d)(C:b9 m X=e)(E:b9 k X=f)(zr:(n,d)≠(m,e))(n13:(n,d)≠(k,f))(n23:(m,e)≠(k,f)):f8 n m k≠0:=λz=>by
 have H:cr n m≠0:=λq=>zr (aD hs p o C B q).symm;have I:cr n k≠0:=λq=>n13 (aD hs i o E B q).symm;have L:cr m k≠0:=λq=>n23 (aD hs i p E C q).symm;have j:∀{u v:V},cr u v≠0->cr v u≠0:=λ{u v} h q=>h (by have N:=i5 V.x q;have g:=i5 V.y q;have A:=i5 V.z q;simp at N g A;apply ext<;>simp<;>grind)
 obtain⟨w,ew⟩:∃w,w=cr n m:=⟨_,rfl⟩;have r:=CW w n m k;rw[z]at r;have O:0<f8 w n m:=by
  have:f8 w n m=b9 w w:=by rw[ew];rfl
  rw[this,ew];exact u5 H
 obtain⟨c,ec⟩:∃c,c=f8 w n m:=⟨_,rfl⟩;obtain⟨a,ea⟩:∃a,a=-f8 w m k:=⟨_,rfl⟩;obtain⟨b,eb⟩:∃b,b=-f8 w k n:=⟨_,rfl⟩;have T:c*k=a*n+b*m:=by rw[ec,ea,eb];have N:=i5 V.x r;have g:=i5 V.y r;have A:=i5 V.z r;simp at N g A;apply ext<;>simp<;>lia
 rw[<-ec]at O;have U:=i5 V.x T;have Y:=i5 V.y T;have vz:=i5 V.z T;simp at U Y vz;have l:∀{u v:V} {s t:Int},s≠0->s*u=t*v->cr u v=0:=λ{u v s t} jf h=>by
  have N:=i5 V.x h;have g:=i5 V.y h;have A:=i5 V.z h;simp at N g A;have go:∀y:Int,s*y=0->y=0:=λy g=>by rcases aAo.mp g with q|q;exact absurd q jf;exact q
  apply ext<;>simp<;>apply go<;>grind
 rcases aDc 0 a with ha|ha
 .rcases aDc 0 b with Q|Q
  .exact BQ hs o p i B C E O ha Q T H
  .rcases aDc b 0 with jb|jb
   .
    refine BQ hs i p o E C B ha O (show 0< -b by lia) (c:=a) (a:=c) (b:=-b) ?_ (j L);apply ext<;>simp<;>lia
   .have b0:b=0:=by lia
    refine I (l (u:=n) (v:=k) (s:=a) (t:=c) (by lia) ?_);rw[b0]at U Y vz;apply ext<;>simp<;>lia
 .rcases aDc a 0 with ha'|ha'
  .rcases aDc 0 b with Q|Q
   .refine BQ hs i o p E B C Q O (show 0< -a by lia) (c:=b) (a:=c) (b:=-a) ?_ (j I);apply ext<;>simp<;>lia
   .
    obtain⟨Z,hZ,A⟩:=hs.below i.prim.ne i.sup;have q:c*b9 k (Z-X)=a*b9 n (Z-X)+b*b9 m (Z-X):=by simp[b9];grind
    have k0:b9 k (Z-X)<0:=by rw[d6];lia
    have n0:b9 n (Z-X)<=0:=by rw[d6];have:=o.sup Z hZ;lia
    have m0:b9 m (Z-X)<=0:=by rw[d6];have:=p.sup Z hZ;lia
    have t1:c*b9 k (Z-X)<0:=aAy O k0;have t2:0<=a*b9 n (Z-X):=by
     have:=aBl (show 0<=-a by lia) (show 0<=-b9 n (Z-X)by lia)
     rwa [aDv]at this
    have t3:0<=b*b9 m (Z-X):=by
     have:=aBl (show 0<=-b by lia) (show 0<=-b9 m (Z-X)by lia)
     rwa [aDv]at this
    lia
  .have a0:a=0:=by lia
   by_cases b0:b=0
   .rw[a0,b0]at U Y vz;have k0:k=0:=by
     have go:∀y:Int,c*y=0->y=0:=λy g=>by rcases aAo.mp g with q|q;lia;exact q
     apply ext<;>simp<;>apply go<;>lia
    exact i.prim.ne k0
   .refine L (l (u:=m) (v:=k) (s:=b) (t:=c) b0 ?_);rw[a0]at U Y vz;apply ext<;>simp<;>lia
theorem pT (t:J.Pairwise (λa b=>d8 (b-a)))(u:X∈J)(g:IsFace J n d)(o:IsFace J m e)(p:IsFace J k f)(r:b9 n X=d)(v:b9 m X=e)(w:b9 k X=f)(x:(n,d)≠(m,e))(h:(n,d)≠(k,f))(i:(m,e)≠(k,f)):X∈d7 J (n,d):=by
 have j:=dQ hs g o p r v w x h i;refine(g.aa2 t).top (m:=n+m+k) (c5.mpr ⟨u,r⟩) λY z A=>?_;have l:=(c5.mp z).1;have L:=g.sup Y l;have N:=o.sup Y l;have O:=p.sup Y l;have s:∀Z,b9 (n+m+k) Z=b9 n Z+b9 m Z+b9 k Z:=λZ=>by simp[b9];grind
 rw[s,s];rcases aDc (b9 n Y+b9 m Y+b9 k Y) (b9 n X+b9 m X+b9 k X)with q|q
 .exact q
 .exfalso;have B:b9 n (Y-X)=0:=by rw[d6];lia
  have C:b9 m (Y-X)=0:=by rw[d6];lia
  have E:b9 k (Y-X)=0:=by rw[d6];lia
  refine A (L9 ?_);generalize Y-X=y at*
  have H:∀y:Int,f8 n m k*y=0->y=0:=λy I=>by rcases aAo.mp I with q|q;exact absurd q j;exact q
  simp[b9]at B C E;apply ext<;>simp<;>apply H<;>simp[f8,b9]<;>grind
end
def Up (J:List V)(A B C:V):Prop:=(∀X∈J,b9 (cr (B-A)<|C-A) (X-A)<=0)/\∃X∈J,b9 (cr (B-A)<|C-A) (X-A)<0
def Dn (J:List V)(A B C:V):Prop:=(∀X∈J,0<=b9 (cr (B-A)<|C-A) (X-A))/\∃X∈J,0<b9 (cr (B-A)<|C-A) (X-A)
abbrev T3:=V×V×V
def TQ (r:T3)(v:V):V:=⟨b9 r.1 v,b9 r.2.1 v,b9 r.2.2 v⟩
def tr (r:T3):T3:=(⟨r.1.x,r.2.1.x,r.2.2.x⟩,⟨r.1.y,r.2.1.y,r.2.2.y⟩,⟨r.1.z,r.2.1.z,r.2.2.z⟩)
def qk (f:V->V)(r:T3):T3:=(f r.1,f r.2.1,f r.2.2)
def vO (r:T3):Int:=b9 r.1 (cr r.2.1 r.2.2)
def a1b:T3:=(⟨1,0,0⟩,⟨0,1,0⟩,⟨0,0,1⟩)
def a2p (r:T3):tr (tr r)=r:=rfl
def RV (r c:T3):vO (qk (TQ r) c)=vO r*vO c:=by obtain⟨⟨a,b,t⟩,⟨d,e,f⟩,⟨g,h,i⟩⟩:=r;obtain⟨⟨j,k,l⟩,⟨m,n,o⟩,⟨p,q,s⟩⟩:=c;simp[vO,qk,TQ,b9];grind
def SA (r:T3)(u v:V):TQ r (u-v)=TQ r u-TQ r v:=by apply ext<;>simp[TQ,b9]<;>grind
abbrev Mv:=T3×V
def bX (m:Mv)(P:V):V:=TQ m.1 P+m.2
def WQ:Mv:=(a1b,0)
def XJ (r:T3):Prop:=vO r=1\/vO r=-1
def nI (m:Mv)(P Q:V):bX m P-bX m Q=TQ m.1 (P-Q):=by rw[SA];apply ext<;>simp[bX]<;>lia
def QJ (m:Mv)(A B C D:V):f8 (bX m B-bX m A) (bX m C-bX m A) (bX m D-bX m A)=vO m.1*f8 (B-A) (C-A) (D-A):=by rw[nI,nI,nI];exact RV m.1 (B-A,C-A,D-A)
section
variable{J qts:List V} {m:Mv} {n:V} {d:Int}
end
section
end
section
variable{J qts:List V} {n:V} {d:Int}
def qT (t:Int)(v:V):V:=⟨t*v.x,t*v.y,t*v.z⟩
end
structure Sl where
 a:Int
 b:Int
 c:Int
 w:V
 t:Bool
def Sl.put (s:Sl)(P:V):V:=
 let x:=P.x+s.a*P.y
 let y:=P.y+s.b*P.z
 let z:=P.z+s.c*x
 if s.t then⟨y+s.w.x,x+s.w.y,z+s.w.z⟩else⟨x+s.w.x,y+s.w.y,z+s.w.z⟩
def Sl.mv (s:Sl):Mv:=
 let d:V:=⟨1,s.a,0⟩
 let e:V:=⟨0,1,s.b⟩
 let f:V:=⟨s.c,s.c*s.a,1⟩
 (if s.t then(e,d,f)else(d,e,f),s.w)
def Sl.ae4 (s:Sl)(P:V):s.put P=bX s.mv P:=by obtain⟨a,b,c,w,t⟩:=s;cases t<;>apply ext<;>simp[Sl.put,Sl.mv,bX,TQ,b9]<;>grind
def Sl.unit (s:Sl):XJ s.mv.1:=by
 obtain⟨a,b,c,w,t⟩:=s;cases t
 .left;simp[Sl.mv,vO,b9,cr];try grind
 .right;simp[Sl.mv,vO,b9,cr];try grind
def NC {m:Mv}(h:XJ m.1){J a:List V}(b:∀X∈J,bX m X∈a)(S:j2 J):j2 a:=by
 obtain⟨A,d,B,f,C,g,D,i,e⟩:=S;refine⟨_,b A d,_,b B f,_,b C g,_,b D i,?_⟩;rw[QJ];intro z;rcases aAo.mp z with z|z
 .rcases h with h|h<;>lia
 .exact e z
def JQ {t:Int}(d:t≠0){J a:List V}(b:∀X∈J,qT t X∈a)(S:j2 J):j2 a:=by
 obtain⟨A,f,B,g,C,h,D,i,e⟩:=S;refine⟨_,b A f,_,b B g,_,b C h,_,b D i,?_⟩;have:f8 (qT t B-qT t A) (qT t C-qT t A) (qT t D-qT t A)=t*t*t*f8 (B-A) (C-A) (D-A):=by simp[qT,f8,b9,cr];grind
 rw[this];intro z;rcases aAo.mp z with z|z
 .rcases aAo.mp z with z|z
  .rcases aAo.mp z with z|z<;>exact d z
  .exact d z
 .exact e z
def yJ (P:V){J:List V}(h:P∈J):j2 (J++[⟨P.x+1,P.y,P.z⟩,⟨P.x,P.y+1,P.z⟩,⟨P.x,P.y,P.z+1⟩]):=by
 refine⟨P,by simp[h],⟨P.x+1,P.y,P.z⟩,by simp,⟨P.x,P.y+1,P.z⟩,by simp,⟨P.x,P.y,P.z+1⟩,by simp,?_⟩;have:f8 ((⟨P.x+1,P.y,P.z⟩:V)-P) (⟨P.x,P.y+1,P.z⟩-P) (⟨P.x,P.y,P.z+1⟩-P)=1:=by simp[f8,b9,cr];try grind
 rw[this];decide
def qL {P:V}{J:List V}(h:P∈J):j2 J↔∃u∈J,∃v∈J,cr (u-P) (v-P)≠0/\∃w∈J,b9 (cr (u-P) (v-P)) (w-P)≠0:=by
 have g:∀u v w:V,f8 w u v=b9 (cr u v) w:=λu v w=>by simp[f8,b9,cr];grind
 have i:∀u v w:V,f8 w u v=f8 u v w:=λu v w=>by simp[f8,b9,cr];grind
 constructor
 .rintro⟨A,a,B,b,C,d,D,f,e⟩;have id:f8 (B-A) (C-A) (D-A)=f8 (B-P) (C-P) (D-P)-f8 (A-P) (C-P) (D-P)+f8 (A-P) (B-P) (D-P)-f8 (A-P) (B-P) (C-P):=by simp[f8,b9,cr];grind
  have mk:∀{X Y Z:V},X∈J->Y∈J->Z∈J->f8 (X-P) (Y-P) (Z-P)≠0->∃u∈J,∃v∈J,cr (u-P) (v-P)≠0/\∃w∈J,b9 (cr (u-P)<|v-P) (w-P)≠0:=λ{X Y Z} j k l q=>by rw[<-i,g]at q;exact⟨X,j,Y,k,λz=>q (by rw[z];simp[b9]),Z,l,q⟩
  by_cases m:f8 (B-P) (C-P) (D-P)=0
  .by_cases n:f8 (A-P) (C-P) (D-P)=0
   .by_cases o:f8 (A-P) (B-P) (D-P)=0
    .exact mk a b d (by lia)
    .exact mk a b f o
   .exact mk a d f n
  .exact mk b d f m
 .rintro⟨u,p,v,r,_,w,s,q⟩;exact⟨P,h,u,p,v,r,w,s,by rw[<-i,g];exact q⟩
open Classical in
def W2 (J:List V) (P:V):Int:=if∀n d,IsFace J n d->b9 n P-d<=0 then(if∀n d,IsFace J n d->b9 n P-d<0 then 1 else 0)else-1
def P8 {n m k y:V}(a:f8 n m k≠0)(d:b9 n y=0)(g:b9 m y=0)(h:b9 k y=0):y=0:=by
 have i:∀t:Int,f8 n m k*t=0->t=0:=λt j=>by
  rcases aAo.mp j with q|q
  .exact absurd q a
  .exact q
 have e:∀f:V->Int,(f=(·.x)\/f=(·.y)\/f=(·.z))->f8 n m k*f y=b9 n y*f (cr m k)+b9 m y*f (cr k n)+b9 k y*f (cr n m):=λf b=>by rcases b with rfl|rfl|rfl<;>simp[f8,b9,cr]<;>grind
 have z:∀f:V->Int,(f=(·.x)\/f=(·.y)\/f=(·.z))->f y=0:=λf b=>i _ (by rw[e f b,d,g,h];simp);exact ext (z _<|.inl rfl) (z _<|.inr (.inl rfl)) (z _<|.inr (.inr rfl))
def VR {a b p q d:Int}(f:0<a)(g:0<b)(i:p<=d)(j:q<=d)(e:(a+b)*d=a*p+b*q):p=d:=by
 have k:=aBl (aAM f) (show 0<=d-p by lia);have l:=aBl (aAM g) (show 0<=d-q by lia);have m:a*(d-p)+b*(d-q)=0:=by
  have:a*(d-p)+b*(d-q)=(a+b)*d-(a*p+b*q):=by grind
  lia
 have h:a*(d-p)=0:=by
  clear e;generalize a*(d-p)=u at*
  generalize b*(d-q)=v at*
  lia
 rcases aAo.mp h with q|q<;>lia
section
variable{J:List V} (hs:j2 J) (ho:J.Pairwise (λa b=>d8 (b-a)))
include hs ho
theorem dG (f:IsFace J n d)(r:X∈d7 J (n,d))(s:P∈J)(t:Q∈J){a b:Int}(u:0<a)(v:0<b)(e:(a+b)*X=a*P+b*Q):P=X:=by
 obtain⟨z,A,i,j,w,x,y,k,l,o⟩:=T5 hs ho f r;have g:∀{m:V} {c:Int},IsFace J m c->b9 m X=c->b9 m (P-X)=0:=λ{m c} h p=>by have q:=i5 (b9 m) e;rw[f9,show b9 m (a*P+b*Q)=a*b9 m P+b*b9 m Q by simp[b9];grind,p]at q;rw[d6,p,VR u v (h.sup P s) (h.sup Q t) q];lia
 exact L9 (P8 (dQ hs f i j k l o w x y) (g f k) (g i l)<|g j o)
theorem UK (g:∃f:V×Int,IsFace J f.1 f.2/\A∈d7 J f)(i:∃f:V×Int,IsFace J f.1 f.2/\B∈d7 J f)(j:∃f:V×Int,IsFace J f.1 f.2/\C∈d7 J f)(E:A≠B)(l:A≠C)(u:B≠C):cr (B-A) (C-A)≠0:=λz=>by
 have d:∀{X:V},(∃f:V×Int,IsFace J f.1 f.2/\X∈d7 J f)->X∈J:=λ{X} ⟨f,n,o⟩=>(c5.mp<|(n.aa2 ho).aa3 o).1;have p:∀{X P Q:V} {a b:Int},(∃f:V×Int,IsFace J f.1 f.2/\X∈d7 J f)->P∈J->Q∈J->0<a->0<b->(a+b)*X=a*P+b*Q->P=X:=λ⟨f,n,o⟩ H I L N e=>dG hs ho n o H I L N e;obtain⟨k,m,v,e⟩:=v5 (a:=B-A) (w:=C-A) (λq=>E (L9 q).symm) z;have r:=i5 V.x e;have s:=i5 V.y e;have t:=i5 V.z e;simp at r s t;rcases Int.lt_trichotomy m 0 with h|h|h
 .exact l (p g (d j) (d i) v (show 0< -m by lia) (by apply G.ext<;>simp<;>grind)).symm
 .subst h;refine l (G.ext ?_ ?_ ?_)
  .rcases aAo.mp (show k*(C.x-A.x)=0 by lia)with q|q<;>lia
  .rcases aAo.mp (show k*(C.y-A.y)=0 by lia)with q|q<;>lia
  .rcases aAo.mp (show k*(C.z-A.z)=0 by lia)with q|q<;>lia
 .rcases Int.lt_trichotomy m k with q|q|q
  .exact l (p j (d g) (d i) (show 0<k-m by lia) h (by apply G.ext<;>simp<;>grind))
  .subst q;refine u (G.ext ?_ ?_ ?_)
   .rcases aAo.mp (show m*(C.x-B.x)=0 by grind)with q|q<;>lia
   .rcases aAo.mp (show m*(C.y-B.y)=0 by grind)with q|q<;>lia
   .rcases aAo.mp (show m*(C.z-B.z)=0 by grind)with q|q<;>lia
  .exact u (p i (d j) (d g) v (show 0<m-k by lia) (by apply G.ext<;>simp<;>grind)).symm
end
def XV {J:List V}(j:A∈J)(o:B∈J)(r:C∈J)(s:D∈J)(ne:b9 (cr (B-A) (C-A)) (D-A)≠0)(e:(4:Int)*M=A+B+C+D):W2 J M=1:=by
 have i:∀n d,IsFace J n d->b9 n M-d<0:=λn d h=>by
  have q:=i5 (b9 n) e;rw[f9,show b9 n (A+B+C+D)=b9 n A+b9 n B+b9 n C+b9 n D by simp[b9];grind]at q;have a:=h.sup A j;have b:=h.sup B o;have c:=h.sup C r;have f:=h.sup D s;rcases aDc (b9 n M-d) 0 with l|l
  .exact l
  .exfalso;have p:=B0 (n:=n) (u:=B-A) (v:=C-A) (by rw[d6];lia) (by rw[d6];lia);obtain⟨k,m,w,t⟩:=v5 h.prim.ne p;have g:=i5 (λv=>b9 v (D-A)) t;simp only[K1]at g;rw[show b9 n (D-A)=0 by rw[d6];lia,aBP]at g;rcases aAo.mp g with q|q
   .lia
   .exact ne q
 unfold W2;rw[h9 λn d h=>aAM (i n d h),h9 i]
section
variable{J:List V} (hs:j2 J) (ho:J.Pairwise (λa b=>d8 (b-a)))
include hs ho
theorem pU {a b n:V}{d:Int}(g:IsFace J n d)(h:EdgeOf n (λX=>X∈o6 n d J) a b):∃m e,IsFace J m e/\(n,d)≠(m,e)/\b9 m a=e/\b9 m b=e:=by obtain⟨i,f⟩:=Y9 hs ho g h;refine⟨_,_,i,λe=>?_,(c5.mp f.q).2,(c5.mp f.p).2⟩;have:(n,d)=b7 b a J:=e;rw[<-this]at f;exact bH hs ho g h f
theorem TN {n m k X Y:V}{d e f:Int}(g:IsFace J n d)(h:IsFace J m e)(i:IsFace J k f)(q:b9 n X=d)(r:b9 m X=e)(t:b9 k X=f)(u:(n,d)≠(m,e))(j:(n,d)≠(k,f))(l:(m,e)≠(k,f))(o:Y∈J)(ne:Y≠X):b9 n Y<d\/b9 m Y<e\/b9 k Y<f:=by
 have p:=dQ hs g h i q r t u j l;have a:=g.sup Y o;have b:=h.sup Y o;have c:=i.sup Y o;by_cases z:b9 n Y<d\/b9 m Y<e\/b9 k Y<f
 .exact z
 .have s:∀{n:V} {d:Int},b9 n X=d->b9 n Y=d->b9 n (Y-X)=0:=λ{n d} g h=>by
   have:b9 n (Y-X)=b9 n Y-b9 n X:=by simp[b9];grind
   lia
  have:=P8 p (s q (by lia)) (s r (by lia)) (s t (by lia));exact absurd (by have g:=i5 V.x this;have h:=i5 V.y this;have i:=i5 V.z this;simp at g h i;exact ext (by lia) (by lia) (by lia)) ne
end
section
variable{J qts:List V} {n:V} {d:Int} {m:Mv}
end
section
variable{p o:List V} (hs:j2 o) (ho:o.Pairwise (λa b=>d8 (b-a))) (sub:∀X∈p,X∈o) (ex:∀Y∈o,Y∈p\/∃a∈p,∃b∈p,(2:Int)*Y=a+b)
include hs ho sub ex
end
section
variable{J c:List V} (hs:j2 J) (ho:J.Pairwise (λa b=>d8 (b-a))) (bu:c.Pairwise (λa b=>d8 (b-a))) (hc:∀X,X∈c↔∃f:V×Int,IsFace J f.1 f.2/\X∈d7 J f)
include hs ho bu hc
end
def LI {n a b x:V}(d:n≠0)(e:b9 n a=0)(f:b9 n b=0)(nx:b9 n x=0):f8 n a b*x=f8 n x b*a+f8 n a x*b:=by
 have z:=x9 d e f nx;have g:=i5 (λt=>t*n.x) z;have h:=i5 (λt=>t*n.y) z;have i:=i5 (λt=>t*n.z) z;simp only[f8,b9,cr]at g h i;apply ext
 .simp[f8,b9];grind
 .simp[f8,b9];grind
 .simp[f8,b9];grind
def JS:∀ds:List V,∃w:V,∀v∈ds,d8 v->0<b9 w v:=by
 intro ds;obtain⟨N,g⟩:∃N:Int,0<N/\∀v∈ds,-N<v.x/\v.x<N/\-N<v.y/\v.y<N/\-N<v.z/\v.z<N:=by
  induction ds with
  |nil=>exact⟨1,by decide,λv d=>nomatch d⟩
  |cons u ds i=>
   obtain⟨N,f,h⟩:=i;refine⟨N+u.x.natAbs+u.y.natAbs+u.z.natAbs+1,by lia,λv d=>?_⟩;rcases aAd.mp d with rfl|d
   .lia
   .have:=h v d;lia
 obtain⟨f,h⟩:=g;refine⟨⟨2*N*(2*N),2*N,1⟩,λv d p=>?_⟩;obtain⟨j,k,l,m,n,o⟩:=h v d;simp only[b9,Int.one_mul];unfold d8 at p;rcases p with p|⟨p,q|⟨q,r⟩⟩
 .have a:2*N*(2*N)*1<=2*N*(2*N)*v.x:=aAH (by lia) (aBl (by lia) (by lia));have b:2*N*(-N+1)<=2*N*v.y:=aAH (by lia) (by lia);have e:2*N*(-N+1)+2*N*(2*N)*1=2*(N*N)+2*N:=by grind
  have s:0<N*N:=aBm f f
  lia
 .rw[p,aBP];have b:2*N*1<=2*N*v.y:=aAH (by lia) (by lia)
  lia
 .rw[p,q,aBP,aBP];lia
section
variable{J:List V} (hs:j2 J) (ho:J.Pairwise (λa b=>d8 (b-a)))
include hs ho
theorem eF {n:V}{d:Int}{P v Q:V}(b:IsFace J n d)(a:EdgeOf n (λX=>X∈o6 n d J) P v)(f:EdgeOf n (λX=>X∈o6 n d J) v Q):0<f8 n (Q-v) (P-v)/\∀x:V,b9 n x=0->f8 n (Q-v) (P-v)*x=f8 n x (P-v)*(Q-v)+f8 n (Q-v) x*(P-v):=by
 have S:=b.aa2 ho;have h:P≠Q:=λe=>bH hs ho b a (e▸f);have g:∀{X:V},X∈o6 n d J->b9 n (X-v)=0:=λi=>by rw[d6,(c5.mp i).2,(c5.mp a.q).2];lia
 refine⟨S.strict f (S.ab0 a) a.ne h,λx j=>LI b.prim.ne (g f.q) (g a.p) j⟩
theorem xF {n w:V}{d:Int}{P v Q:V}(i:IsFace J n d)(f:EdgeOf n (λX=>X∈o6 n d J) P v)(h:EdgeOf n (λX=>X∈o6 n d J) v Q)(p:0<=b9 w (P-v))(q:0<=b9 w (Q-v)){X:V}(g:X∈o6 n d J):0<=b9 w (X-v):=by
 obtain⟨j,c⟩:=eF hs ho i f h;have e:=i5 (b9 w) (c (X-v) (by rw[d6,(c5.mp g).2,(c5.mp f.q).2];lia));rw[f9,x4,f9,f9]at e;have b:=h.left X g;have a:=f.left X g;have k:f8 n (X-v) (P-v)=f8 n (v-P) (X-P):=by simp[f8,b9];grind
 have u:=aBl (show 0<=f8 n (X-v) (P-v)by lia) q;have l:=aBl b p;by_cases z:0<=b9 w (X-v)
 .exact z
 .have:=aAy j (show b9 w (X-v)<0 by lia)
  lia
theorem CU {n w y:V}{d:Int}{P v Q:V}(u:IsFace J n d)(C:EdgeOf n (λX=>X∈o6 n d J) P v)(E:EdgeOf n (λX=>X∈o6 n d J) v Q)(H:b9 n y=0)(I:y≠0)(L:b9 w y=0)(i:0<=f8 n y (P-v))(j:0<=f8 n (Q-v) y)(N:b9 w (P-v)≠0)(l:b9 w (Q-v)≠0):(0<b9 w (P-v)/\b9 w (Q-v)<0)\/(b9 w (P-v)<0/\0<b9 w (Q-v)):=by
 obtain⟨D0,c⟩:=eF hs ho u C E;have a:=c y H;have e:=i5 (b9 w) a;rw[f9,x4,f9,f9,L,aBP]at e;have m:¬(f8 n y (P-v)=0/\f8 n (Q-v) y=0):=λ⟨O,T⟩=>I (by rw[O,T]at a;have o:=i5 V.x a;have r:=i5 V.y a;have s:=i5 V.z a;simp only[qM,nF,oH,LQ,QC,OP,aGH,aGI]at o r s;have k:∀t:Int,f8 n (Q-v) (P-v)*t=0->t=0:=λt U=>(aAo.mp U).resolve_left (by lia);exact ext (k _ o) (k _ r) (k _ s))
 generalize f8 n y (P-v)=A at*
 generalize f8 n (Q-v) y=B at*
 generalize b9 w (P-v)=p at*
 generalize b9 w (Q-v)=q at*
 rcases aDp N with f|f
 .rcases aDp l with b|b
  .exfalso;have Y:A*q<=0:=aAv i (by lia);have u2:B*p<=0:=aAv j (by lia);have g:A=0:=by
    rcases aAo.mp (show A*q=0 by lia)with z|z
    .exact z
    .lia
   have h:B=0:=by
    rcases aAo.mp (show B*p=0 by lia)with z|z
    .exact z
    .lia
   exact m ⟨g,h⟩
  .exact .inr ⟨f,b⟩
 .rcases aDp l with b|b
  .exact .inl ⟨f,b⟩
  .exfalso;have Y:0<=A*q:=aBl i (by lia);have u2:0<=B*p:=aBl j (by lia);have g:A=0:=by
    rcases aAo.mp (show A*q=0 by lia)with z|z
    .exact z
    .lia
   have h:B=0:=by
    rcases aAo.mp (show B*p=0 by lia)with z|z
    .exact z
    .lia
   exact m ⟨g,h⟩
end
def LW {w a b d n1 n2 n:V}(t:w≠0)(a1:b9 w a=0)(a2:b9 w b=0)(a3:b9 w d=0)(b1:b9 n1 a=0)(b2:b9 n2 b=0)(y:b9 n d=0)(o:b9 n1 b<0)(f:b9 n1 d<0)(g:b9 n2 a<0)(i:b9 n2 d<0)(j:b9 n a<0)(l:b9 n b<0):False:=by
 have e:=LI t a1 a2 a3;have u:=i5 (b9 n1) e;have v:=i5 (b9 n2) e;have x:=i5 (b9 n) e;rw[f9,x4,f9,f9]at u v x;rw[b1]at u;rw[b2]at v;rw[y]at x;have p:a≠0:=λz=>by rw[z]at g;simp[b9]at g
 by_cases z:f8 w a b=0
 .have E:=V1 t a1 a2 z;obtain⟨k,m,H,q⟩:=v5 p E;have I:=i5 (b9 n1) q;rw[f9,f9,b1]at I;have:=aAy H o
  lia
 .generalize f8 w a b=A at*
  generalize f8 w d b=B at*
  generalize f8 w a d=C at*
  rcases aDp z with h|h
  .have J:=aBG h f;have L:=aBG h i;have r:C<0:=by
    by_cases q:C<0
    .exact q
    .have:=aAv (show 0<=C by lia) (show b9 n1 b<=0 by lia);lia
   have s:B<0:=by
    by_cases q:B<0
    .exact q
    .have:=aAv (show 0<=B by lia) (show b9 n2 a<=0 by lia);lia
   have:=aBG s j;have:=aBG r l
   lia
  .have J:=aAy h f;have L:=aAy h i;have r:0<C:=by
    by_cases q:0<C
    .exact q
    .have:=aDW (show C<=0 by lia) (show b9 n1 b<=0 by lia);lia
   have s:0<B:=by
    by_cases q:0<B
    .exact q
    .have:=aDW (show B<=0 by lia) (show b9 n2 a<=0 by lia);lia
   have:=aAy s j;have:=aAy r l
   lia
section
variable{J:List V} (hs:j2 J)
include hs
theorem GK {n w v A B:V}{d:Int}(k:IsFace J n d)(g:A∈o6 n d J)(h:B∈o6 n d J)(j:b9 n v=d)(c:cr (A-v) (B-v)≠0)(a:0<b9 w (A-v))(b:b9 w (B-v)<0):∃y,b9 w y=0/\b9 n y=0/\∀m e,IsFace J m e->b9 m v=e->(m,e)≠(n,d)->b9 m y<0:=by
 have f:∀{X:V},X∈o6 n d J->b9 n (X-v)=0:=λl=>by rw[d6,(c5.mp l).2,j];lia
 refine⟨(-b9 w (B-v))*(A-v)+b9 w (A-v)*(B-v),by rw[x4,f9,f9];grind,by rw[x4,f9,f9,f g,f h];simp,λm e i mv ne=>?_⟩;rw[x4,f9,f9];have o:b9 m (A-v)<=0:=by have:=i.sup A (c5.mp g).1;rw[d6];lia
 have p:b9 m (B-v)<=0:=by have:=i.sup B (c5.mp h).1;rw[d6];lia
 have x:=aAv (show 0<=-b9 w (B-v)by lia) o;have C:=aAv (show 0<=b9 w (A-v)by lia) p;by_cases z:b9 m (A-v)=0/\b9 m (B-v)=0
 .exfalso;have r:=B0 z.1 z.2;have s:=B0 (f g) (f h);exact ne (aD hs i k mv j<|gH c s r)
 .by_cases t:b9 m (A-v)=0
  .have u:b9 m (B-v)<0:=by
    have:b9 m (B-v)≠0:=λq=>z ⟨t,q⟩
    lia
   have:=aAy a u
   lia
  .have:=aAy (show 0< -b9 w (B-v)by lia) (show b9 m (A-v)<0 by lia)
   lia
end
def iW (w:V)(J:List V)(v:V)(f:V×Int):Prop:=∃P Q,EdgeOf f.1 (λX=>X∈o6 f.1 f.2 J) P v/\EdgeOf f.1 (λX=>X∈o6 f.1 f.2 J) v Q/\((0<b9 w (P-v)/\b9 w (Q-v)<0)\/(b9 w (P-v)<0/\0<b9 w (Q-v)))
section
variable{J:List V} (hs:j2 J) (ho:J.Pairwise (λa b=>d8 (b-a)))
include hs ho
theorem iW.way {w v:V}{f:V×Int}(g:IsFace J f.1 f.2)(h:iW w J v f):b9 f.1 v=f.2/\∃y,b9 w y=0/\b9 f.1 y=0/\∀m e,IsFace J m e->b9 m v=e->(m,e)≠f->b9 m y<0:=by
 obtain⟨P,Q,d,i,c⟩:=h;have j:=(c5.mp d.q).2;have k:=(eF hs ho g d i).1;have l:cr (Q-v) (P-v)≠0:=λz=>by unfold f8 at k;rw[z,C0]at k;lia
 have n:cr (P-v) (Q-v)≠0:=λz=>l (by have o:=i5 V.x z;have r:=i5 V.y z;have s:=i5 V.z z;simp at o r s;apply ext<;>simp<;>grind)
 refine⟨j,?_⟩;rcases c with⟨a,b⟩|⟨a,b⟩
 .exact GK hs g d.p i.q j n a b
 .exact GK hs g i.q d.p j l b a
theorem UV {w v:V}{f g k:V×Int}(o:w≠0)(a:IsFace J f.1 f.2)(b:IsFace J g.1 g.2)(d:IsFace J k.1 k.2)(p:iW w J v f)(mg:iW w J v g)(mk:iW w J v k)(e:f≠g)(h:f≠k)(i:g≠k):False:=by obtain⟨v1,y,q,r,j⟩:=p.way hs ho a;obtain⟨l,z,s,t,m⟩:=mg.way hs ho b;obtain⟨v3,A,u,x,n⟩:=mk.way hs ho d;exact LW o q s u r t x (m _ _ a v1 e) (n _ _ a v1 h) (j _ _ b l e.symm) (n _ _ b l i) (j _ _ d v3 h.symm) (m _ _ d v3 i.symm)
end
theorem sZ {α:Type}(a b:α->Int):∀l:List α,l≠[]->(∀x∈l,0<b x)->∃x∈l,∀y∈l,a x*b y<=a y*b x
 |[x],_,_=>⟨x,.head _,λy d=>by rw[aAV.mp d];exact aBV _⟩
 |x::z::l,_,h=>by
  obtain⟨u,e,m⟩:=sZ a b (z::l) (by simp) λy d=>h y (.tail _ d);by_cases q:a x*b u<=a u*b x
  .refine⟨x,.head _,λy d=>?_⟩;rcases aAd.mp d with rfl|d
   .exact aBV _
   .have g:=aAS q (aAM<|h y<|.tail _ d);have i:=aAS (m y d) (aAM<|h x<|.head _);have f:b u*(a x*b y)<=b u*(a y*b x):=by
     have j:b u*(a x*b y)=a x*b u*b y:=by grind
     have k:b u*(a y*b x)=a y*b u*b x:=by grind
     have n:a u*b x*b y=a u*b y*b x:=by grind
     lia
    exact aFf f (h u<|.tail _ e)
  .refine⟨u,.tail _ e,λy d=>?_⟩;rcases aAd.mp d with rfl|d
   .lia
   .exact m y d
section
variable{J:List V} (hs:j2 J) (ho:J.Pairwise (λa b=>d8 (b-a)))
include hs ho
theorem yT {v:V}(q:∃f:V×Int,IsFace J f.1 f.2/\v∈d7 J f){n:V}{d:Int}(r:IsFace J n d)(e:b9 n v=d):v∈d7 J (n,d):=by
 obtain⟨f,h,l⟩:=q;obtain⟨i,j,o,p,s,t,u,w,x,y⟩:=T5 hs ho h l;have z:=(c5.mp<|(h.aa2 ho).aa3 l).1;refine(r.aa2 ho).top (m:=f.1+i.1+j.1) (c5.mpr ⟨z,e⟩) λY g ne=>?_;have g:=(c5.mp g).1;have a:=h.sup Y g;have b:=o.sup Y g;have c:=p.sup Y g;have k:=TN hs ho h o p w x y s t u g ne;have ad:∀Z:V,b9 (f.1+i.1+j.1) Z=b9 f.1 Z+b9 i.1 Z+b9 j.1 Z:=λZ=>by simp[b9];grind
 rw[ad,ad]
 lia
theorem YK {w v y:V}{g:V×Int}(hc:∃f:V×Int,IsFace J f.1 f.2/\v∈d7 J f)(i:∀X∈J,X≠v->b9 w (X-v)≠0)(h:IsFace J g.1 g.2)(n:b9 g.1 v=g.2)(t:b9 g.1 y=0)(wy:b9 w y=0)(y0:y≠0)(u:∀m e,IsFace J m e->b9 m v=e->b9 m y<=0):iW w J v g:=by
 have S:=h.aa2 ho;have C:=yT hs ho hc h n;obtain⟨Q,hQ⟩:=P6 S C;obtain⟨P,hP⟩:=nV S (l:=j9 g.1 (o6 g.1 g.2 J)) C;have b:=S.aa1.mp hQ;have d:=S.aa1.mp hP;obtain⟨j,c⟩:=eF hs ho h d b;have E:=c y t;have a:∀{A B:V} {m:V} {e:Int},IsFace J m e->b9 m A=e->b9 m v=e->(m,e)≠g->A∈o6 g.1 g.2 J->B∈o6 g.1 g.2 J->cr (A-v) (B-v)≠0->b9 m (A-v)=0/\b9 m (B-v)<0:=λ{A B m e} H mA mv ne hA I cn=>by
  have k:b9 m (A-v)=0:=by rw[d6];lia
  refine⟨k,?_⟩;have mB:b9 m (B-v)<=0:=by have:=H.sup B (c5.mp I).1;rw[d6];lia
  by_cases o:b9 m (B-v)=0
  .exfalso;have L:∀{X:V},X∈o6 g.1 g.2 J->b9 g.1 (X-v)=0:=λhX=>by rw[d6,(c5.mp hX).2,n];lia
   exact ne (aD hs H h mv n<|gH cn (B0 (L hA)<|L I)<|B0 k o)
  .lia
 have N:cr (Q-v) (P-v)≠0:=λz=>by unfold f8 at j;rw[z,C0]at j;lia
 have c2:cr (P-v) (Q-v)≠0:=λz=>N (by have x1:=i5 V.x z;have x2:=i5 V.y z;have x3:=i5 V.z z;simp at x1 x2 x3;apply ext<;>simp<;>grind)
 obtain⟨O,e1,T,r,p1,v1⟩:=pU hs ho h d;obtain⟨U,e2,Y,s,v2,q2⟩:=pU hs ho h b;obtain⟨k,l1⟩:=a T p1 v1 (λq=>r q.symm) d.p b.q c2;obtain⟨o,l2⟩:=a Y q2 v2 (λq=>s q.symm) b.q d.p N;have k1:=i5 (b9 O) E;have k2:=i5 (b9 U) E;rw[f9,x4,f9,f9]at k1 k2;rw[k,aBP,aGI]at k1;rw[o,aBP,Int.zero_add]at k2;have y1:=u O e1 T v1;have y2:=u U e2 Y v2;have A:0<=f8 g.1 y (P-v):=by
  by_cases q:0<=f8 g.1 y (P-v)
  .exact q
  .have u1:=aBG (show f8 g.1 y (P-v)<0 by lia) l1;have u2:=aAv (aAM j) y1
   lia
 have B:0<=f8 g.1 (Q-v) y:=by
  by_cases q:0<=f8 g.1 (Q-v) y
  .exact q
  .have u1:=aBG (show f8 g.1 (Q-v) y<0 by lia) l2;have u2:=aAv (aAM j) y2
   lia
 exact⟨P,Q,d,b,CU hs ho h d b t y0 wy A B (i P (c5.mp d.p).1 d.ne) (i Q (c5.mp b.q).1 (aBW b.ne))⟩
theorem TU {w v n o:V}(w0:w≠0){fs:List (V×Int)}(I:∀f,f∈fs↔IsFace J f.1 f.2)(hc:∃f:V×Int,IsFace J f.1 f.2/\v∈d7 J f)(Q:∀X∈J,X≠v->b9 w (X-v)≠0)(h1:n∈J)(h2:o∈J)(a:0<b9 w (n-v))(b:b9 w (o-v)<0):∃g∈fs,iW w J v g:=by
 obtain⟨f,L,hr⟩:=id hc;obtain⟨g1,g2,f1,f2,n1,n2,n3,x1,x2,x3⟩:=T5 hs ho L hr;have T:=dQ hs L f1 f2 x1 x2 x3 n1 n2 n3;obtain⟨d,r⟩:∃y,y=(-b9 w (o-v))*(n-v)+b9 w (n-v)*(o-v):=⟨_,rfl⟩;have wy:b9 w d=0:=by rw[r,x4,f9,f9];grind
 have up:∀{m:V} {e:Int},IsFace J m e->b9 m v=e->b9 m d<=0:=λ{m e} B mv=>by
  rw[r,x4,f9,f9];have mA:b9 m (n-v)<=0:=by have:=B.sup n h1;rw[d6];lia
  have mB:b9 m (o-v)<=0:=by have:=B.sup o h2;rw[d6];lia
  have u1:=aAv (show 0<=-b9 w (o-v)by lia) mA;have u2:=aAv (show 0<=b9 w (n-v)by lia) mB
  lia
 have C:d≠0:=λz=>by
  have e:=dG hs ho L hr h1 h2 (a:=-b9 w (o-v)) (b:=b9 w (n-v)) (by lia) a (by
   rw[z]at r;have p:=i5 V.x r;have N:=i5 V.y r;have O:=i5 V.z r;simp only[LQ,QC,OP,qM,nF,oH,FW,EZ,EF]at p N O;have z1:(0:V).x=0:=rfl;have z2:(0:V).y=0:=rfl;have z3:(0:V).z=0:=rfl;apply ext
   .simp only[LQ,qM];grind
   .simp only[QC,nF];grind
   .simp only[OP,oH];grind)
  rw[e,u7,C0]at a;lia
 obtain⟨i,U⟩:∃t,t=cr w d:=⟨_,rfl⟩;have Y:b9 w i=0:=by rw[U];simp[b9];grind
 have yt:b9 d i=0:=by rw[U];simp[b9];grind
 have tne:i≠0:=λz=>by
  rw[U]at z;obtain⟨k,m,hk,q⟩:=v5 w0 z;have p:=i5 (b9 w) q;rw[f9,f9,wy,aBP]at p;have ww:=u5 w0;rcases aAo.mp p.symm with s|s
  .rw[s]at q;have p1:=i5 V.x q;have p2:=i5 V.y q;have p3:=i5 V.z q;simp only[qM,nF,oH,aGH]at p1 p2 p3;have kk:∀t:Int,k*t=0->t=0:=λt ht=>(aAo.mp ht).resolve_left (by lia);exact C (ext (kk _ p1) (kk _ p2) (kk _ p3))
  .lia
 have some:∃t,b9 w t=0/\b9 d t=0/\∃h:V×Int,IsFace J h.1 h.2/\b9 h.1 v=h.2/\0<b9 h.1 t:=by
  have j:∀{h:V×Int},IsFace J h.1 h.2->b9 h.1 v=h.2->b9 h.1 i≠0->∃t,b9 w t=0/\b9 d t=0/\∃h:V×Int,IsFace J h.1 h.2/\b9 h.1 v=h.2/\0<b9 h.1 t:=λ{h} A hv q=>by
   have ng:∀u:V,b9 u (-i)=-b9 u i:=λu=>by simp[b9];grind
   rcases aDp q with l|l
   .exact⟨-i,by rw[ng];lia,by rw[ng];lia,h,A,hv,by rw[ng];lia⟩
   .exact⟨i,Y,yt,h,A,hv,l⟩
  by_cases p:b9 f.1 i=0
  .by_cases N:b9 g1.1 i=0
   .by_cases O:b9 g2.1 i=0
    .exact absurd (P8 T p N O) tne
    .exact j f2 x3 O
   .exact j f1 x2 N
  .exact j L x1 p
 obtain⟨t,Y,yt,h0,hh0,hv0,ht0⟩:=some;obtain⟨h,B,mn⟩:=sZ (λh:V×Int=>-b9 h.1 d) (λh=>b9 h.1 t) (fs.filter λh=>decide (b9 h.1 v=h.2)&&decide (0<b9 h.1 t)) (λz=>by
  have:h0∈fs.filter λh=>decide (b9 h.1 v=h.2)&&decide (0<b9 h.1 t):=aAK.mpr ⟨(I h0).mpr hh0,by simp[hv0,ht0]⟩;rw[z]at this;cases this) λx hx=>by have:=(aAK.mp hx).2;simp at this;exact this.2
 have A:=(I h).mp (aAK.mp B).1;have E:=(aAK.mp B).2;simp only[aAJ,decide_eq_true_eq]at E;refine⟨h,(I h).mpr A,YK hs ho hc Q A E.1 (y:=b9 h.1 t*d+(-b9 h.1 d)*t) (by rw[x4,f9,f9];grind) (by rw[x4,f9,f9,wy,Y];simp) (λz=>?_) λm e H mv=>?_⟩
 .have q:=i5 (b9 d) z;rw[x4,f9,f9,yt,C0,aBP,aGI]at q;have yy:=u5 C;have:=aBm E.2 yy
  lia
 .rw[x4,f9,f9];have u:=up H mv;have un:=up A E.1;by_cases l:0<b9 m t
  .have k:=mn (m,e) (aAK.mpr ⟨(I (m,e)).mpr H,by simp[mv,l]⟩);dsimp only at k;have e1:-b9 m d*b9 h.1 t=-(b9 h.1 t*b9 m d):=by grind
   lia
  .have k1:=aAv (aAM E.2) u;have k2:=aAv (show 0<=-b9 h.1 d by lia) (show b9 m t<=0 by lia)
   lia
end
section
open Classical
def cnt {α:Type} (p:α->Prop) (l:List α):Nat:=(l.filter λy=>decide (p y)).length
def U8 {α:Type}{p q:α->Prop}{l:List α}(h:∀x∈l,p x↔q x):cnt p l=cnt q l:=by unfold cnt;rw[List.filter_congr λx a=>decide_eq_decide.mpr (h x a)]
def UR {α:Type}{p:α->Prop}{l:List α}(h:∀x∈l,p x):cnt p l=l.length:=by unfold cnt;rw[List.filter_eq_self.mpr λx a=>decide_eq_true (h x a)]
def ZH {α:Type}{p:α->Prop}{l:List α}(h:∀x∈l,¬p x):cnt p l=0:=by unfold cnt;rw[aEc.mpr λx a=>by rw[decide_eq_true_eq];exact h x a];rfl
def mW {α:Type}{l:List α}{p:α->Prop}{x:α}(e:l.Nodup)(f:x∈l)(g:p x)(u:∀y∈l,p y->y=x):cnt p l=1:=by
 have sub:∀y,y∈l.filter (λy=>decide (p y))↔y∈[x]:=λy=>by rw[aAK,aAV,decide_eq_true_eq];exact⟨λh=>u y h.1 h.2,λh=>by rw[h];exact⟨f,g⟩⟩
 have a:=q8 (e.sublist aBj) (m:=[x]) λy d=>(sub y).mp d;have b:=q8 (l:=[x]) (by simp) (m:=l.filter λy=>decide (p y)) λy d=>(sub y).mpr d;rw[aFP]at a b;unfold cnt
 lia
def cnt_cons {α:Type}{p:α->Prop}(x:α)(l:List α):cnt p (x::l)=(if p x then 1 else 0)+cnt p l:=by
 unfold cnt;by_cases h:p x
 .rw[aFv (by rw[decide_eq_true_eq];exact h),h9 h,aAt];lia
 .rw[aFw (by rw[decide_eq_true_eq];exact h),ib h];lia
theorem bO {α:Type}{p q:α->Prop}:∀l:List α,cnt p l=cnt (λy=>p y/\q y) l+cnt (λy=>p y/\¬q y) l
 |[]=>rfl
 |x::l=>by
  have d:=bO (p:=p) (q:=q) l;rw[cnt_cons,cnt_cons,cnt_cons,d];by_cases a:p x
  .by_cases b:q x
   .simp[a,b];lia
   .simp[a,b];lia
  .simp[a]
theorem pH (h:V->Int):∀l:List V,l≠[]->∃x∈l,∀y∈l,h y<=h x
 |[x],_=>⟨x,.head _,λy a=>by rw[aAV.mp a];exact aBV _⟩
 |x::z::l,_=>by
  obtain⟨u,b,m⟩:=pH h (z::l) (by simp);by_cases q:h u<=h x
  .refine⟨x,.head _,λy a=>?_⟩;rcases aAd.mp a with rfl|a
   .exact aBV _
   .have:=m y a;lia
  .refine⟨u,.tail _ b,λy a=>?_⟩;rcases aAd.mp a with rfl|a
   .lia
   .exact m y a
def JN {α β:Type}(R:α->β->Prop)(e:List α):∀bs:List β,(e.map λa=>cnt (R a) bs).sum=(bs.map λb=>cnt (λa=>R a b) e).sum:=by
 intro bs;induction e with
 |nil=>
  induction bs with
  |nil=>rfl
  |cons b bs d=>rw[aAr,aCa,<-d];rfl
 |cons a e d=>
  rw[aAr,aCa,d];clear d;induction bs with
  |nil=>rfl
  |cons b bs d=>
   simp only[aAr,aCa,cnt_cons]at d⊢
   lia
def Nu (w:V)(J:List V)(v:V)(f:V×Int):Prop:=∃Q,EdgeOf f.1 (λX=>X∈o6 f.1 f.2 J) v Q/\0<b9 w (Q-v)
def Pu (w:V)(J:List V)(v:V)(f:V×Int):Prop:=∃P,EdgeOf f.1 (λX=>X∈o6 f.1 f.2 J) P v/\0<b9 w (P-v)
structure Hgt (w:V)(J:List V):Prop where
 ne:w≠0
 inj:∀X∈J,∀Y∈J,X≠Y->b9 w (X-Y)≠0
section
variable{J:List V} {w:V} (hs:j2 J) (ho:J.Pairwise (λa b=>d8 (b-a))) (hw:Hgt w J)
include hs ho hw
theorem aQ {f:V×Int}(h:IsFace J f.1 f.2){v:V}(d:v∈d7 J f):∃P Q,EdgeOf f.1 (λX=>X∈o6 f.1 f.2 J) P v/\EdgeOf f.1 (λX=>X∈o6 f.1 f.2 J) v Q/\(Nu w J v f↔0<b9 w (Q-v))/\(Pu w J v f↔0<b9 w (P-v))/\b9 w (P-v)≠0/\b9 w (Q-v)≠0:=by have S:=h.aa2 ho;obtain⟨Q,i⟩:=P6 S d;obtain⟨P,j⟩:=nV S (l:=j9 f.1 (o6 f.1 f.2 J)) d;have b:=S.aa1.mp i;have a:=S.aa1.mp j;have g:=(c5.mp a.q).1;refine⟨P,Q,a,b,⟨λ⟨m,e,l⟩=>by rw[<-e.next b];exact l,λl=>⟨Q,b,l⟩⟩,⟨λ⟨k,e,l⟩=>?_,λl=>⟨P,a,l⟩⟩,hw.inj P (c5.mp a.p).1 v g a.ne,hw.inj Q (c5.mp b.q).1 v g (aBW b.ne)⟩;have:k=P:=e.prev a;rw[<-this];exact l
theorem iD {f:V×Int}(d:IsFace J f.1 f.2){v:V}(e:v∈d7 J f):iW w J v f↔(Nu w J v f↔¬Pu w J v f):=by
 obtain⟨P,Q,a,b,n,p,i,j⟩:=aQ hs ho hw d e;rw[n,p];constructor
 .rintro⟨k,l,g,h,c⟩;rw[g.prev a,h.next b]at c
  lia
 .intro c;exact⟨P,Q,a,b,by lia⟩
theorem DD {f:V×Int}(d:IsFace J f.1 f.2):(d7 J f).length=2+cnt (λv=>iW w J v f) (d7 J f):=by
 have S:=d.aa2 ho;have E:(d7 J f).Nodup:=S.aa4;obtain⟨I,L,N,_,_⟩:=S.aa9;have ne:d7 J f≠[]:=λz=>by rw[show d7 J f=I::L from N]at z;cases z
 have sub:∀v∈d7 J f,v∈o6 f.1 f.2 J:=λv m=>S.aa3 m;have l:∀X Y:V,b9 w (X-Y)=b9 w X-b9 w Y:=λX Y=>d6 ..;have s:∀X Y:V,b9 (-w) (X-Y)=-b9 w (X-Y):=λX Y=>by simp[b9];grind
 obtain⟨a,o,t⟩:=pH (λv=>-b9 w v) _ ne;obtain⟨b,r,u⟩:=pH (λv=>b9 w v) _ ne;have O:cnt (λv=>Nu w J v f/\Pu w J v f) (d7 J f)=1:=by
  refine mW E o ?_ λy g z=>?_
  .obtain⟨P,Q,i,j,n,p,A,B⟩:=aQ hs ho hw d o;have T:=t P (S.ab0 i);have C:=t Q (X6 S<|S.aa1.mpr j).2;rw[n,p];have:=l P a;have:=l Q a
   lia
  .obtain⟨P,Q,i,j,n,p,A,B⟩:=aQ hs ho hw d g;have k:=xF hs ho d i j (w:=w) (by have:=p.mp z.2;lia) (by have:=n.mp z.1;lia) (sub a o);have C:=t y g;by_cases e:y=a
   .exact e
   .have:=hw.inj a (c5.mp<|sub a o).1 y (c5.mp<|sub y g).1 (aBW e);have:=l a y
    lia
 have H:cnt (λv=>¬Nu w J v f/\¬Pu w J v f) (d7 J f)=1:=by
  refine mW E r ?_ λy g z=>?_
  .obtain⟨P,Q,i,j,n,p,A,B⟩:=aQ hs ho hw d r;have T:=u P (S.ab0 i);have C:=u Q (X6 S<|S.aa1.mpr j).2;rw[n,p];have:=l P b;have:=l Q b
   lia
  .obtain⟨P,Q,i,j,n,p,A,B⟩:=aQ hs ho hw d g;rw[n,p]at z;have k:=xF hs ho d i j (w:=-w) (by rw[s];lia) (by rw[s];lia) (sub b r);rw[s]at k;have C:=u y g;by_cases e:y=b
   .exact e
   .have:=hw.inj b (c5.mp<|sub b r).1 y (c5.mp<|sub y g).1 (aBW e);have:=l b y
    lia
 have U:=bO (p:=λv=>True) (q:=λv=>iW w J v f) (d7 J f);have c2:=bO (p:=λv=>True/\¬iW w J v f) (q:=λv=>Nu w J v f) (d7 J f);have e0:cnt (λ_=>True) (d7 J f)=(d7 J f).length:=UR λ_ _=>trivial;have e1:cnt (λy=>True/\iW w J y f) (d7 J f)=cnt (λv=>iW w J v f) (d7 J f):=U8 λv _=>⟨λh=>h.2,λh=>⟨trivial,h⟩⟩;have e2:cnt (λy=>(True/\¬iW w J y f)/\Nu w J y f) (d7 J f)=cnt (λv=>Nu w J v f/\Pu w J v f) (d7 J f):=U8 λv m=>by rw[iD hs ho hw d m];by_cases x:Nu w J v f<;>by_cases y:Pu w J v f<;>simp[x,y]
 have e3:cnt (λy=>(True/\¬iW w J y f)/\¬Nu w J y f) (d7 J f)=cnt (λv=>¬Nu w J v f/\¬Pu w J v f) (d7 J f):=U8 λv m=>by rw[iD hs ho hw d m];by_cases x:Nu w J v f<;>by_cases y:Pu w J v f<;>simp[x,y]
 lia
omit hs ho hw in
theorem mY {α β:Type}(T:α->β->Prop){l:List α}{m:List β}(f:l.Nodup)(h:∀a∈l,∃b∈m,T a b)(inj:∀a∈l,∀o∈l,∀b,T a b->T o b->a=o):l.length<=m.length:=by
 match l,f,h,inj with
 |[],_,_,_=>exact aAX _
 |x::l,f,h,inj=>
  obtain⟨p,_,_⟩:=h x (.head _)
  let φ:α->β:=λa=>if q:∃b∈m,T a b then q.choose else p
  have g:∀a∈x::l,φ a∈m/\T a (φ a):=λa i=>by have q:=h a i;have e:φ a=q.choose:=dif_pos q;rw[e];exact q.choose_spec
  have j:((x::l).map φ).Nodup:=by
   have n:∀k:List α,(∀a∈k,a∈x::l)->k.Nodup->(k.map φ).Nodup:=λk=>by
    induction k with
    |nil=>intro _ _;exact .nil
    |cons a k r=>intro sub s;obtain⟨t,u⟩:=aAE.mp s;refine aAE.mpr ⟨λz=>?_,r (λb d=>sub b (.tail _ d)) u⟩;obtain⟨b,d,e⟩:=aAi.mp z;have:=inj a (sub a<|.head _) b (sub b<|.tail _ d) (φ a) (g a<|sub a<|.head _).2 (by rw[<-e];exact(g b<|sub b<|.tail _ d).2);exact t (this▸d)
   exact n _ (λ_ h=>h) f
  have:=q8 j (m:=m) λb d=>by obtain⟨a,i,rfl⟩:=aAi.mp d;exact(g a i).1
  rw[aAj]at this;exact this
theorem yY {f:V×Int}(a:IsFace J f.1 f.2){P Q:V}(h:EdgeOf f.1 (λX=>X∈o6 f.1 f.2 J) P Q):P∈d7 J f/\Q∈d7 J f:=by have S:=a.aa2 ho;exact X6 S (S.aa1.mpr h)
theorem tL {f g:V×Int}(a:IsFace J f.1 f.2)(b:IsFace J g.1 g.2){P Q:V}(d:EdgeOf f.1 (λX=>X∈o6 f.1 f.2 J) P Q)(e:EdgeOf g.1 (λX=>X∈o6 g.1 g.2 J) P Q):f=g:=pE hs ho a b ((a.aa2 ho).aa1.mpr d) ((b.aa2 ho).aa1.mpr e)
theorem mz {fs:List (V×Int)}(t:fs.Nodup)(h:∀f,f∈fs↔IsFace J f.1 f.2)(v:V):cnt (λf=>v∈d7 J f/\Nu w J v f) fs=cnt (λf=>v∈d7 J f/\Pu w J v f) fs:=by
 have d:∀{p:V×Int->Prop} {f:V×Int},f∈fs.filter (λy=>decide (p y))↔f∈fs/\p f:=λ{p f}=>by rw[aAK,decide_eq_true_eq]
 unfold cnt;refine aEE ?_ ?_
 .refine mY (λf g=>∃Q,EdgeOf f.1 (λX=>X∈o6 f.1 f.2 J) v Q/\EdgeOf g.1 (λX=>X∈o6 g.1 g.2 J) Q v/\IsFace J g.1 g.2) (t.sublist aBj) (λf i=>?_) λf i m n g ⟨Q,a,b,_⟩ ⟨o,q,r,_⟩=>?_
  .obtain⟨s,u,Q,e,l⟩:=d.mp i;obtain⟨j,k⟩:=Y9 hs ho ((h f).mp s) e;exact⟨_,d.mpr ⟨(h _).mpr j,(yY hs ho hw j k).2,Q,k,l⟩,Q,e,k,j⟩
  .have:Q=o:=b.prev r;subst this;exact tL hs ho hw ((h f).mp (d.mp i).1) ((h m).mp (d.mp n).1) a q
 .refine mY (λf g=>∃P,EdgeOf f.1 (λX=>X∈o6 f.1 f.2 J) P v/\EdgeOf g.1 (λX=>X∈o6 g.1 g.2 J) v P/\IsFace J g.1 g.2) (t.sublist aBj) (λf i=>?_) λf i m n g ⟨Q,a,b,_⟩ ⟨o,q,r,_⟩=>?_
  .obtain⟨s,u,P,e,l⟩:=d.mp i;obtain⟨j,k⟩:=Y9 hs ho ((h f).mp s) e;exact⟨_,d.mpr ⟨(h _).mpr j,(yY hs ho hw j k).1,P,k,l⟩,P,e,k,j⟩
  .have:Q=o:=b.next r;subst this;exact tL hs ho hw ((h f).mp (d.mp i).1) ((h m).mp (d.mp n).1) a q
omit hs ho hw in
theorem VN {α:Type}{p:α->Prop}{l:List α}(i:l.Nodup)(h:∀a∈l,∀b∈l,∀c∈l,p a->p b->p c->a≠b->a≠c->b≠c->False):cnt p l<=2:=by
 have f:∀k:List α,k.Nodup->(∀a∈k,a∈l/\p a)->k.length<=2:=λk d e=>by
  match k,d,e with
  |[],_,_=>simp
  |[_],_,_=>simp
  |[_,_],_,_=>simp
  |a::b::c::k,d,e=>
   exfalso;obtain⟨j,m⟩:=e a (by simp);obtain⟨n,o⟩:=e b (by simp);obtain⟨q,r⟩:=e c (by simp);refine h a j b n c q m o r ?_ ?_ ?_
   .rintro rfl;simp at d
   .rintro rfl;simp at d
   .rintro rfl;simp at d
 exact f _ (i.sublist aBj) λa g=>by rw[aAK,decide_eq_true_eq]at g;exact g
omit hs ho hw in
theorem RX {α:Type}{p:α->Prop}{l:List α}{x:α}(b:x∈l)(d:p x):1<=cnt p l:=aDl (a:=x) (aAK.mpr ⟨b,decide_eq_true d⟩)
theorem BD {fs:List (V×Int)}(l:fs.Nodup)(d:∀f,f∈fs↔IsFace J f.1 f.2){v n o:V}(r:∃f:V×Int,IsFace J f.1 f.2/\v∈d7 J f)(s:n∈J)(t:o∈J)(a:0<b9 w (n-v))(b:b9 w (o-v)<0):cnt (λf=>v∈d7 J f/\iW w J v f) fs=2:=by
 have u:v∈J:=by obtain⟨f,i,z⟩:=r;exact(c5.mp<|(i.aa2 ho).aa3 z).1
 have e:=mz hs ho hw l d v;have O:=bO (p:=λf=>v∈d7 J f/\Nu w J v f) (q:=λf=>Pu w J v f) fs;have T:=bO (p:=λf=>v∈d7 J f/\Pu w J v f) (q:=λf=>Nu w J v f) fs;have U:=bO (p:=λf=>v∈d7 J f/\iW w J v f) (q:=λf=>Nu w J v f) fs;have Y:cnt (λf=>(v∈d7 J f/\Nu w J v f)/\Pu w J v f) fs=cnt (λf=>(v∈d7 J f/\Pu w J v f)/\Nu w J v f) fs:=U8 λf _=>⟨λh=>⟨⟨h.1.1,h.2⟩,h.1.2⟩,λh=>⟨⟨h.1.1,h.2⟩,h.1.2⟩⟩;have e2:cnt (λf=>(v∈d7 J f/\iW w J v f)/\Nu w J v f) fs=cnt (λf=>(v∈d7 J f/\Nu w J v f)/\¬Pu w J v f) fs:=U8 λf i=>by
  by_cases q:v∈d7 J f
  .rw[iD hs ho hw ((d f).mp i) q];by_cases x:Nu w J v f<;>by_cases y:Pu w J v f<;>simp[x,y,q]
  .simp[q]
 have e3:cnt (λf=>(v∈d7 J f/\iW w J v f)/\¬Nu w J v f) fs=cnt (λf=>(v∈d7 J f/\Pu w J v f)/\¬Nu w J v f) fs:=U8 λf i=>by
  by_cases q:v∈d7 J f
  .rw[iD hs ho hw ((d f).mp i) q];by_cases x:Nu w J v f<;>by_cases y:Pu w J v f<;>simp[x,y,q]
  .simp[q]
 have le:cnt (λf=>v∈d7 J f/\iW w J v f) fs<=2:=VN l λf i g j k A B C E H I L=>UV hs ho hw.ne ((d f).mp i) ((d g).mp j) ((d k).mp A) B.2 C.2 E.2 H I L;have ge:1<=cnt (λf=>v∈d7 J f/\iW w J v f) fs:=by obtain⟨g,j,m⟩:=TU hs ho hw.ne d r (λX N ne=>hw.inj X N v u ne) s t a b;obtain⟨P,Q,p,q,_⟩:=id m;exact RX j ⟨(yY hs ho hw ((d g).mp j) p).2,m⟩
 lia
end
end
section
open Classical
def UC {α:Type}{p:α->Prop}{l m:List α}(f:l.Nodup)(g:m.Nodup)(sub:∀x∈l,x∈m):cnt p l=cnt (λx=>x∈l/\p x) m:=by
 have a:∀{q:α->Prop} {k:List α} {x:α},x∈k.filter (λy=>decide (q y))↔x∈k/\q x:=λ{q k x}=>by rw[aAK,decide_eq_true_eq]
 unfold cnt;refine aEE (q8 (f.sublist aBj) λx d=>?_) (q8 (g.sublist aBj) λx d=>?_)
 .obtain⟨b,e⟩:=a.mp d;exact a.mpr ⟨sub x b,b,e⟩
 .obtain⟨_,b,e⟩:=a.mp d;exact a.mpr ⟨b,e⟩
theorem DQ {α:Type}(g:α->Nat)(p:α->Prop):∀l:List α,(∀x∈l,p x->g x=0)->(∀x∈l,¬p x->g x=2)->(l.map g).sum+2*cnt p l=2*l.length
 |[],_,_=>rfl
 |x::l,b,d=>by
  have e:=DQ g p l (λy a=>b y (.tail _ a)) λy a=>d y (.tail _ a);rw[aAr,aCa,cnt_cons,aAt];by_cases q:p x
  .rw[b x (.head _) q,h9 q];lia
  .rw[d x (.head _) q,ib q];lia
def dj (J:List V)(d:j2 J):∃w,Hgt w J:=by
 obtain⟨w,h⟩:=JS (J.flatMap λX=>J.map λY=>X-Y);have k:∀X∈J,∀Y∈J,d8 (X-Y)->0<b9 w (X-Y):=λX a Y b p=>h _ (aBc.mpr ⟨X,a,aBq b⟩) p;have inj:∀X∈J,∀Y∈J,X≠Y->b9 w (X-Y)≠0:=λX a Y b ne=>by
  have j:b9 w (X-Y)=-b9 w (Y-X):=by simp[b9];grind
  rcases C7 X Y with e|e|e
  .exact absurd e ne
  .have:=k X a Y b e;lia
  .have:=k Y b X a e;lia
 refine⟨w,λz=>?_,inj⟩;obtain⟨A,f,B,g,C,l,E,m,e⟩:=d;have i:B≠A:=λq=>e (by rw[q,u7];simp[f8,b9]);exact inj B g A f i (by rw[z];simp[b9])
variable{J:List V} (hs:j2 J) (ho:J.Pairwise (λa b=>d8 (b-a)))
include hs ho
theorem tH {fs:List (V×Int)}(U:fs.Nodup)(H:∀f,f∈fs↔IsFace J f.1 f.2)(ne:fs≠[]){c:List V}(nc:c.Nodup)(I:∀X,X∈c↔∃f:V×Int,IsFace J f.1 f.2/\X∈d7 J f):(fs.map λf=>(d7 J f).length).sum+4=2*fs.length+2*c.length:=by
 obtain⟨w,u⟩:=dj J hs;have B:∀X∈c,X∈J:=λX hX=>by obtain⟨f,o,hr⟩:=(I X).mp hX;exact(c5.mp<|(o.aa2 ho).aa3 hr).1
 have E:∀X Y:V,b9 w (X-Y)=b9 w X-b9 w Y:=λX Y=>d6 ..;obtain⟨d,hf0⟩:∃d,d∈fs:=by
  match fs,ne with
  |f::_,_=>exact⟨f,.head _⟩
 have A:=(H d).mp hf0;obtain⟨r,s,t,l,er⟩:=K8 ho A;have L:r∈c:=(I r).mpr ⟨d,A,by show r∈j9 d.1 (o6 d.1 d.2 J);rw[er];simp⟩;have sc:s∈c:=(I s).mpr ⟨d,A,by show s∈j9 d.1 (o6 d.1 d.2 J);rw[er];simp⟩;have rs:r≠s:=λq=>by have:=(A.aa2 ho).aa4;rw[er,q]at this;simp at this
 have cne:c≠[]:=λz=>by rw[z]at L;cases L
 obtain⟨a,ha,N⟩:=pH (λv=>-b9 w v) c cne;obtain⟨b,hb,O⟩:=pH (λv=>b9 w v) c cne;have ab:a≠b:=λq=>by
  have e:∀x∈c,b9 w x=b9 w a:=λx j=>by
   have:=N x j;have:=O x j;rw[<-q]at this
   lia
  exact u.inj r (B r L) s (B s sc) rs (by rw[E,e r L,e s sc];lia)
 have xg:∀f∈fs,∀x∈d7 J f,x∈c:=λf o x j=>(I x).mpr ⟨f,(H f).mp o,j⟩;have s1:(fs.map λf=>(d7 J f).length).sum=2*fs.length+(fs.map λf=>cnt (λv=>v∈d7 J f/\iW w J v f) c).sum:=by
  have key:∀C:List (V×Int),(∀f∈C,f∈fs)->(C.map λf=>(d7 J f).length).sum=2*C.length+(C.map λf=>cnt (λv=>v∈d7 J f/\iW w J v f) c).sum:=λC=>by
   induction C with
   |nil=>intro _;rfl
   |cons f C ih=>
    intro h;have i:=ih λg hg=>h g (.tail _ hg);have o:=(H f).mp (h f<|.head _);have k:=DD hs ho u o;have U:(d7 J f).Nodup:=(o.aa2 ho).aa4;rw[UC (l:=d7 J f) (p:=λv=>iW w J v f) U nc (xg f<|h f<|.head _)]at k;rw[aAr,aCa,aAr,aCa,aAt,i,k]
    lia
  exact key fs λ_ h=>h
 have s2:=JN (λ(f:V×Int) v=>v∈d7 J f/\iW w J v f) fs c;have no:∀x∈c,(x=a\/x=b)->cnt (λf=>x∈d7 J f/\iW w J x f) fs=0:=λx j q=>ZH λf o ⟨h1,h2⟩=>by
  have T:=(H f).mp o;obtain⟨P,Q,e1,e2,n,p,p0,q0⟩:=aQ hs ho u T h1;have hP:=xg f o P (yY hs ho u T e1).1;have hQ:=xg f o Q (yY hs ho u T e2).2;have m:=(iD hs ho u T h1).mp h2;rw[n,p]at m;have d1:=E P x;have d2:=E Q x;rcases q with rfl|rfl
  .have:=N P hP;have:=N Q hQ;lia
  .have:=O P hP;have:=O Q hQ;lia
 have yes:∀x∈c,¬(x=a\/x=b)->cnt (λf=>x∈d7 J f/\iW w J x f) fs=2:=λx j q=>by have n1:=u.inj b (B b hb) x (B x j) (λz=>q (.inr z.symm));have n2:=u.inj a (B a ha) x (B x j) (λz=>q (.inl z.symm));have:=O x j;have:=N x j;rw[E]at n1 n2;exact BD hs ho u U H ((I x).mp j) (B b hb) (B a ha) (by rw[E];lia) (by rw[E];lia)
 have s3:=DQ (λv=>cnt (λf=>v∈d7 J f/\iW w J v f) fs) (λx=>x=a\/x=b) c no yes;have two:cnt (λx=>x=a\/x=b) c=2:=by
  have k:=bO (p:=λx=>x=a\/x=b) (q:=λx=>x=a) c;have k1:cnt (λy=>(y=a\/y=b)/\y=a) c=1:=mW nc ha ⟨.inl rfl,rfl⟩ λy _ h=>h.2;have k2:cnt (λy=>(y=a\/y=b)/\¬y=a) c=1:=mW nc hb ⟨.inr rfl,λq=>ab q.symm⟩ λy _ h=>h.1.resolve_left h.2
  lia
 lia
end
section
open Classical
def LJ {W:List (V×V)}(l:W.Nodup)(j:∀P Q,(P,Q)∈W->(Q,P)∈W)(ne:∀P Q,(P,Q)∈W->P≠Q){E:List (V×V)}(g:E.Nodup)(f:∀P Q,(P,Q)∈E↔(P,Q)∈W/\d8 (Q-P)):W.length=2*E.length:=by
 have inj:∀a b:V×V,(a.2,a.1)=(b.2,b.1)->a=b:=λ⟨a,b⟩ ⟨c,d⟩ h=>by cases h;rfl
 have m:(E++E.map λe=>(e.2,e.1)).Nodup:=aCD.mpr ⟨g,List.Pairwise.map _ (λa b h n=>h (inj a b n)) g,λa o b p q=>by subst q;obtain⟨⟨P,Q⟩,h,rfl⟩:=aAi.mp p;exact n8 ((f _ _).mp h).2 ((f _ _).mp o).2⟩
 have r:(E++E.map λe=>(e.2,e.1)).length<=W.length:=q8 m λx i=>by
  obtain⟨P,Q⟩:=x;rcases aAU.mp i with h|h
  .exact((f _ _).mp h).1
  .obtain⟨⟨R,S⟩,k,e⟩:=aAi.mp h;cases e;exact j _ _ ((f R S).mp k).1
 have s:W.length<=(E++E.map λe=>(e.2,e.1)).length:=q8 l λx i=>by
  obtain⟨P,Q⟩:=x;rcases C7 P Q with e|e|e
  .exact absurd e (ne _ _ i)
  .exact aAG _ (aAi.mpr ⟨(Q,P),(f _ _).mpr ⟨j _ _ i,e⟩,rfl⟩)
  .exact aBs _ ((f _ _).mpr ⟨i,e⟩)
 rw[aAB,aAj]at r s
 lia
variable{J:List V} (hs:j2 J) (ho:J.Pairwise (λa b=>d8 (b-a))) {fs:List (V×Int)} (bf:∀f,f∈fs↔IsFace J f.1 f.2)
include hs ho bf
theorem Q9 {P Q:V}:(P,Q)∈Z4 J fs↔∃f:V×Int,IsFace J f.1 f.2/\EdgeOf f.1 (λX=>X∈o6 f.1 f.2 J) P Q:=by
 unfold Z4;rw[aBc];constructor
 .rintro⟨f,a,h⟩;exact⟨f,(bf f).mp a,(((bf f).mp a).aa2 ho).aa1.mp h⟩
 .rintro⟨f,a,h⟩;exact⟨f,(bf f).mpr a,(a.aa2 ho).aa1.mpr h⟩
theorem U7 {P Q:V}(h:(P,Q)∈Z4 J fs):(Q,P)∈Z4 J fs:=by obtain⟨f,a,e⟩:=(Q9 hs ho bf).mp h;obtain⟨b,d⟩:=Y9 hs ho a e;exact(Q9 hs ho bf).mpr ⟨_,b,d⟩
theorem uH {P Q:V}(h:(P,Q)∈Z4 J fs):P≠Q:=by obtain⟨f,a,e⟩:=(Q9 hs ho bf).mp h;exact e.ne
theorem jH (a:fs.Nodup){E:List (V×V)}(b:E.Nodup)(d:∀P Q,(P,Q)∈E↔(P,Q)∈Z4 J fs/\d8 (Q-P)):(Z4 J fs).length=2*E.length:=
 LJ (V9 hs ho a λf e=>(bf f).mp e) (λ_ _=>U7 hs ho bf) (λ_ _=>uH hs ho bf) b d
theorem yz (a:fs.Nodup)(ne:fs≠[]){c:List V}(b:c.Nodup)(d:∀X,X∈c↔∃f:V×Int,IsFace J f.1 f.2/\X∈d7 J f){E:List (V×V)}(e:E.Nodup)(g:∀P Q,(P,Q)∈E↔(P,Q)∈Z4 J fs/\d8 (Q-P)):c.length+fs.length=E.length+2:=by
 have i:=tH hs ho a bf ne b d;have h:=jH hs ho bf a e g;rw[pK]at h
 lia
theorem tN (a:fs.Nodup)(ne:fs≠[]){c:List V}(b:c.Nodup)(d:∀X,X∈c↔∃f:V×Int,IsFace J f.1 f.2/\X∈d7 J f):fs.length+4<=2*c.length/\(fs.map λf=>(d7 J f).length).sum+12<=6*c.length:=by have g:=tH hs ho a bf ne b d;have h:=lH hs ho (fs:=fs) λf e=>(bf f).mp e;constructor<;>lia
theorem JU (d:fs.Nodup)(ne:fs≠[]){E:List (V×V)}(e:E.Nodup)(g:∀P Q,(P,Q)∈E↔(P,Q)∈Z4 J fs/\d8 (Q-P)):E.length+6<=3*J.length/\fs.length+4<=2*J.length:=by
 have i:J.Nodup:=ho.imp λ{a b} h q=>by rw[q]at h;exact n8 h h
 have j:∀X,X∈J.filter (λX=>decide (∃f:V×Int,IsFace J f.1 f.2/\X∈d7 J f))↔∃f:V×Int,IsFace J f.1 f.2/\X∈d7 J f:=λX=>by rw[aAK,decide_eq_true_eq];exact⟨λh=>h.2,λh=>⟨by obtain⟨f,k,l⟩:=h;exact(c5.mp<|(k.aa2 ho).aa3 l).1,h⟩⟩
 have n:=tN hs ho bf d ne (i.sublist aBj) j;have m:=jH hs ho bf d e g;rw[pK]at m;have:=aEj (λX=>decide (∃f:V×Int,IsFace J f.1 f.2/\X∈d7 J f)) J;constructor<;>lia
theorem zG (z:fs.Nodup){E:List (V×V)}(A:E.Nodup)(j:∀P Q,(P,Q)∈E↔(P,Q)∈Z4 J fs/\d8 (Q-P))(v:V):cnt (λe=>v=e.1\/v=e.2) E=cnt (λf=>v∈d7 J f) fs:=by
 have b:∀{α:Type} {l:List α} {p:α->Prop} {x:α},x∈l.filter (λy=>decide (p y))↔x∈l/\p x:=λ{α l p x}=>by rw[aAK,decide_eq_true_eq]
 unfold cnt;refine aEE ?_ ?_
 .
  refine mY (λe f=>∃Q,EdgeOf f.1 (λX=>X∈o6 f.1 f.2 J) v Q/\(e=(v,Q)\/e=(Q,v))) (A.sublist aBj) (λe n=>?_) λe n t B f h o=>?_
  .obtain⟨P,Q⟩:=e;obtain⟨h,q⟩:=b.mp n;have h:=((j _ _).mp h).1;rcases q with q|q
   .have q:v=P:=q;subst q;obtain⟨f,d,a⟩:=(Q9 hs ho bf).mp h;exact⟨f,b.mpr ⟨(bf f).mpr d,(X6 (d.aa2 ho)<|(d.aa2 ho).aa1.mpr a).1⟩,Q,a,.inl rfl⟩
   .have q:v=Q:=q;subst q;obtain⟨f,d,a⟩:=(Q9 hs ho bf).mp (U7 hs ho bf h);exact⟨f,b.mpr ⟨(bf f).mpr d,(X6 (d.aa2 ho)<|(d.aa2 ho).aa1.mpr a).1⟩,P,a,.inr rfl⟩
  .obtain⟨Q,a,q⟩:=h;obtain⟨u,r,g⟩:=o;have:=a.next r;subst this;have l:=((j e.1 e.2).mp (b.mp n).1).2;have w:=((j t.1 t.2).mp (b.mp B).1).2;rcases q with rfl|rfl<;>rcases g with rfl|rfl
   .rfl
   .exact(n8 l w).elim
   .exact(n8 l w).elim
   .rfl
 .refine mY (λf e=>∃Q,EdgeOf f.1 (λX=>X∈o6 f.1 f.2 J) v Q/\(e=(v,Q)\/e=(Q,v))) (z.sublist aBj) (λf d=>?_) λf d C H e h o=>?_
  .obtain⟨k,m⟩:=b.mp d;have s:=(bf f).mp k;obtain⟨Q,I⟩:=P6 (s.aa2 ho) (l:=d7 J f) m;have a:=(s.aa2 ho).aa1.mp I;have i:(v,Q)∈Z4 J fs:=(Q9 hs ho bf).mpr ⟨f,s,a⟩;rcases C7 v Q with q|q|q
   .exact absurd q (uH hs ho bf i)
   .exact⟨(Q,v),b.mpr ⟨(j _ _).mpr ⟨U7 hs ho bf i,q⟩,.inr rfl⟩,Q,a,.inr rfl⟩
   .exact⟨(v,Q),b.mpr ⟨(j _ _).mpr ⟨i,q⟩,.inl rfl⟩,Q,a,.inl rfl⟩
  .obtain⟨Q,a,q⟩:=h;obtain⟨u,r,g⟩:=o;have:Q=u:=by rcases q with rfl|rfl<;>rcases g with g|g<;>cases g<;>rfl
   subst this;have k:=(bf f).mp (b.mp d).1;have m:=(bf C).mp (b.mp H).1;exact pE hs ho k m ((k.aa2 ho).aa1.mpr a) ((m.aa2 ho).aa1.mpr r)
end
section
open Classical
variable{J:List V} (hs:j2 J) (ho:J.Pairwise λa b=>d8 (b-a)) {fs:List (V×Int)} (bf:∀f,f∈fs↔IsFace J f.1 f.2)
include hs ho bf
theorem nH (d:fs.Nodup)(ne:fs≠[]):fs.length+4<=2*J.length/\(fs.map λf=>(d7 J f).length).sum+12<=6*J.length:=by
 have e:J.Nodup:=ho.imp λ{a b} h q=>by rw[q]at h;exact n8 h h
 have g:∀X,X∈J.filter (λX=>decide (∃f:V×Int,IsFace J f.1 f.2/\X∈d7 J f))↔∃f:V×Int,IsFace J f.1 f.2/\X∈d7 J f:=λX=>by rw[aAK,decide_eq_true_eq];exact⟨λh=>h.2,λh=>⟨by obtain⟨f,i,j⟩:=h;exact(c5.mp<|(i.aa2 ho).aa3 j).1,h⟩⟩
 have k:=tN hs ho bf d ne (e.sublist aBj) g;have:=aEj (λX=>decide (∃f:V×Int,IsFace J f.1 f.2/\X∈d7 J f)) J;constructor<;>lia
end
end G
namespace ST
open PySem PySem.SetTable
def GX (Y:Array Nat):Prop:=∀(i k:Nat) (a:i<Y.size) (b:k<Y.size),i<k->Y[i]<Y[k]
theorem uI (Y:Array Nat)(j:Nat)(d:GX Y):∀(a lo b:Nat),lo<=b->b<=Y.size->b-lo<=a->(∀i (h:i<Y.size),i<lo->Y[i]<j)->(∀i (h:i<Y.size),b<=i->j<=Y[i])->
  below.go Y j a lo b<=Y.size/\(∀i (h:i<Y.size),i<below.go Y j a lo b->Y[i]<j)/\(∀i (h:i<Y.size),below.go Y j a lo b<=i->j<=Y[i])
 |0,lo,b,o,f,p,g,k=>by
  have:lo=b:=by lia
  subst this;unfold below.go;exact⟨f,g,k⟩
 |a+1,lo,b,o,f,p,g,k=>by
  unfold below.go;by_cases n:lo<b
  .rw[h9 n];have m:(lo+b)/2<Y.size:=by lia
   have e:Y.getD ((lo+b)/2) j=Y[(lo+b)/2]:=by simp[aFl,m]
   dsimp only;rw[e];by_cases l:Y[(lo+b)/2]<j
   .rw[h9 l];refine uI Y j d a _ _ (by lia) f (by lia) (λi h r=>?_) k;by_cases q:i=(lo+b)/2
    .subst q;exact l
    .exact aGJ (d i _ h m (by lia)) l
   .rw[ib l];refine uI Y j d a _ _ (by lia) (by lia) (by lia) g (λi h r=>?_);by_cases q:i=(lo+b)/2
    .subst q;lia
    .have:=d _ i m h (by lia);lia
  .rw[ib n];have:lo=b:=by lia
   subst this;exact⟨f,g,k⟩
def bN (a:GX Y)(j:Nat):below Y j<=Y.size/\(∀i (h:i<Y.size),i<below Y j->Y[i]<j)/\(∀i (h:i<Y.size),below Y j<=i->j<=Y[i]):=
 uI Y j a Y.size 0 Y.size (aAX _) (aAh _) (by lia) (λi h b=>by lia) (λi h b=>by lia)
def PC (a:GX Y)(h:Y[i]?=some j):below Y j=i:=by
 obtain⟨b,e⟩:=aCj.mp h;obtain⟨k,f,g⟩:=bN a j;rcases Nat.lt_trichotomy (below Y j) i with q|q|q
 .have d:below Y j<Y.size:=by lia
  have l:=g _ d (aAh _);have m:=a _ _ d b q
  lia
 .exact q
 .have:=f i b q;lia
structure Tab (t:SetTable):Prop where
 asc:GX t.place
 le:∀j∈t.place.toList,j<=t.mask
 nod:t.dummies=#[]
def L7 (T:Tab t)(h:t.place[i]?=some j):t.slot j=.live i:=by unfold slot;rw[PC T.asc h];dsimp only;rw[h];simp
def AZ (T:Tab t)(h:j∉t.place.toList):t.slot j=.empty:=by
 unfold slot;have a:¬(t.place[below t.place j]?==some j)=true:=λz=>h (by have:=beq_iff_eq.mp z;obtain⟨b,e⟩:=aCj.mp this;rw[<-e];simp)
 dsimp only;rw[ib a,T.nod];rw[ib (by unfold has;simp)]
def DF (T:Tab t)(j:Nat):(t.slot j=.empty/\j∉t.place.toList)\/∃i,t.slot j=.live i/\t.place[i]?=some j:=by
 by_cases h:j∈t.place.toList
 .obtain⟨i,a,e⟩:=aBp h;have:t.place[i]?=some j:=by rw[<-aAF,aAg a,e]
  exact .inr ⟨i,L7 T this,this⟩
 .exact .inl ⟨AZ T h,h⟩
def RB (mask:Nat)(p:Probe):Probe:=if p.more>0 then{p with j:=p.j+1,more:=p.more-1}else{p with j:=(leap mask p.i p.perturb).1,more:=runEnd mask (leap mask p.i p.perturb).1-(leap mask p.i p.perturb).1,i:=(leap mask p.i p.perturb).1,perturb:=(leap mask p.i p.perturb).2}
def nC (t:eQ)(p:Probe):t.advance p=RB t.mask p:=rfl
def start (mask:Nat)(h:Int):Probe:={j:=bits h%(mask+1),more:=runEnd mask (bits h%(mask+1))-bits h%(mask+1),i:=bits h%(mask+1),perturb:=bits h,dummy:=none}
def l9 (mask:Nat)(h:Int):Nat->Probe
 |0=>start mask h
 |n+1=>RB mask (l9 mask h n)
theorem nA (mask:Nat)(h:Int):∀n,(l9 mask h n).dummy=none
 |0=>rfl
 |n+1=>by have:=nA mask h n;show(RB mask _).dummy=none;unfold RB;split<;>exact this
def C8 (mask:Nat)(h:Int):Nat->Nat×Nat
 |0=>(bits h%(mask+1),bits h)
 |k+1=>leap mask (C8 mask h k).1 (C8 mask h k).2
def len (mask i:Nat):Nat:=runEnd mask i-i
def iz (mask i:Nat):len mask i<=9:=by unfold len runEnd;split<;>lia
def off (mask:Nat)(h:Int):Nat->Nat
 |0=>0
 |k+1=>off mask h k+len mask (C8 mask h k).1+1
theorem PP (mask:Nat)(h:Int):∀k,off mask h k<=10*k
 |0=>aAh _
 |k+1=>by have:=PP mask h k;have:=iz mask (C8 mask h k).1;show off mask h k+_+1<=_;lia
theorem W9 (mask:Nat)(h:Int):∀k r,r<=len mask (C8 mask h k).1->
  l9 mask h (off mask h k+r)={j:=(C8 mask h k).1+r,more:=len mask (C8 mask h k).1-r,i:=(C8 mask h k).1,perturb:=(C8 mask h k).2,dummy:=none}
 |0,0,_=>rfl
 |0,r+1,b=>by
  have a:=W9 mask h 0 r (by lia);have e:off mask h 0+(r+1)=(off mask h 0+r)+1:=by lia
  rw[e,l9,a];unfold RB;rw[h9 (show len mask (C8 mask h 0).1-r>0 by lia)];simp
  lia
 |k+1,0,_=>by have a:=W9 mask h k (len mask (C8 mask h k).1) (aAh _);have e:off mask h (k+1)+0=(off mask h k+len mask (C8 mask h k).1)+1:=rfl;rw[e,l9,a];unfold RB;rw[ib (by simp)];simp[C8,len]
 |k+1,r+1,b=>by
  have a:=W9 mask h (k+1) r (by lia);have e:off mask h (k+1)+(r+1)=(off mask h (k+1)+r)+1:=by lia
  rw[e,l9,a];unfold RB;rw[h9 (show len mask (C8 mask h<|k+1).1-r>0 by lia)];simp
  lia
def NE (mask:Nat)(h:Int)(k:Nat):(l9 mask h (off mask h k)).j=(C8 mask h k).1:=by have:=W9 mask h k 0 (aAX _);rw[Nat.add_zero]at this;rw[this];rfl
theorem iE (mask:Nat)(h:Int):∀k,(C8 mask h k).2<2^64/32^k+1
 |0=>by
  show bits h<_;unfold bits;have:=Int.emod_lt_of_pos h (show(0:Int)<2^64 by decide)
  lia
 |k+1=>by
  have a:=iE mask h k;show(C8 mask h k).2/32<_;have e:∀N,N/32^(k+1)=N/32^k/32:=λN=>by rw[Nat.div_div_eq_div_mul];rfl
  rw[e]
  lia
theorem uC (mask:Nat)(h:Int):∀k,(C8 mask h (13+k)).2=0
 |0=>by have:=iE mask h 13;simp at this;exact this
 |k+1=>by have:=uC mask h k;show(C8 mask h<|13+k).2/32=0;rw[this]
def lcg (m:Nat)(i:Nat):Nat:=(i*5+1)%m
def y7 (m:Nat):Nat->Nat->Nat
 |0,i=>i
 |n+1,i=>lcg m (y7 m n i)
theorem oA (mask:Nat)(h:Int):∀k,(C8 mask h (13+k)).1=y7 (mask+1) k (C8 mask h 13).1
 |0=>rfl
 |k+1=>by have a:=oA mask h k;show((C8 mask h<|13+k).1*5+1+(C8 mask h<|13+k).2/32)%(mask+1)=_;rw[uC,a];rfl
theorem iC (m:Nat):∀a b i,y7 m (a+b) i=y7 m a (y7 m b i)
 |0,b,i=>by rw[aEX];rfl
 |a+1,b,i=>by rw[show a+1+b=(a+b)+1 by lia];show lcg m _=lcg m _;rw[iC m a b i]
def mG (m:Nat):Prop:=y7 m m 0=0/\∀j<m,∃n<m,y7 m n 0=j
def rX (F:mG m)(f:i<m)(g:j<m):∃n<m,y7 m n i=j:=by
 obtain⟨a,k,d⟩:=F.2 i f;obtain⟨b,l,e⟩:=F.2 j g;by_cases h:a<=b
 .exact⟨b-a,by lia,by rw[<-d,<-iC,show b-a+a=b by lia,e]⟩
 .refine⟨b+(m-a),by lia,?_⟩;rw[<-d,<-iC,show b+(m-a)+a=b+m by lia,iC,F.1,e]
instance(m:Nat):Decidable (mG m):=inferInstanceAs (Decidable<|_/\_)
def zj:mG 8:=by decide+kernel
def YC:mG 32:=by decide+kernel
def UP:mG 128:=by decide+kernel
theorem FU (mask:Nat)(h:Int):∀k,(C8 mask h k).1<mask+1
 |0=>aEe _ (by lia)
 |k+1=>aEe _ (by lia)
def DB {mask:Nat}(F:mG (mask+1))(h:Int){j:Nat}(a:j<=mask):∃n,n<=10*(mask+14)/\(l9 mask h n).j=j:=by
 obtain⟨k,b,e⟩:=rX F (FU mask h 13) (show j<mask+1 by lia);refine⟨off mask h (13+k),?_,?_⟩
 .have:=PP mask h (13+k);lia
 .rw[NE,oA,e]
def wA {α β:Type}{l:List α}{m:List β}{p:Nat}{a:α×β}(h:a∈(l.take p).zip (m.take p)):a∈l.zip m:=by
 obtain⟨i,b⟩:=aDw.mp h;rw[aBH]at b;refine aAu (i:=i) ?_;rw[aBH];have q:∀{γ:Type} {l:List γ} {c:γ},(l.take p)[i]?=some c->l[i]?=some c:=λ{γ l c} h=>by
  rw[List.getElem?_take]at h;split at h
  .exact h
  .cases h
 exact⟨q b.1,q b.2⟩
def vV {α β:Type}{l:List α}{m:List β}{p:Nat}{a:α×β}(h:a∈(l.drop p).zip (m.drop p)):a∈l.zip m:=by obtain⟨i,b⟩:=aDw.mp h;rw[aBH,List.getElem?_drop,List.getElem?_drop]at b;refine aAu (i:=p+i) ?_;rw[aBH];exact b
theorem FX (mask:Nat)(h:Int):∀n,(l9 mask h n).j+(l9 mask h n).more<=mask
 |0=>by have:=aEe (bits h) (show 0<mask+1 by lia);show bits h%(mask+1)+(runEnd mask (bits h%(mask+1))-bits h%(mask+1))<=mask;unfold runEnd;split<;>lia
 |n+1=>by
  have a:=FX mask h n;show(RB mask<|l9 mask h n).j+(RB mask<|l9 mask h n).more<=mask;unfold RB;split
  .dsimp only;lia
  .dsimp only;have:(leap mask (l9 mask h n).i (l9 mask h n).perturb).1<mask+1:=aEe _ (by lia);unfold runEnd;split<;>lia
def vM (mask:Nat)(h:Int)(n:Nat):(l9 mask h n).j<=mask:=by have:=FX mask h n;lia
theorem P4 {α:Type}[DecidableEq α]:∀{l m:List α},l.Nodup->(∀x∈l,x∈m)->l.length<=m.length
 |[],_,_,_=>aAX _
 |x::l,m,h,a=>by
  have b:=a x (by simp);have d:=aAE.mp h;have:=P4 (l:=l) (m:=m.erase x) d.2 (λy f=>by
   have ne:y≠x:=λe=>by subst e;exact d.1 f
   exact(aFZ ne).mpr (a y<|aAe _ f))
  rw[aFk b]at this;have:0<m.length:=aDl b;simp only[aAt]
  lia
def IA {t:eQ}(h:t.place.size<=t.mask):∃j≤t.mask,j∉t.place.toList:=by
 by_cases z:∃j≤t.mask,j∉t.place.toList
 .exact z
 .exfalso;have:=P4 (l:=aBy (t.mask+1)) (m:=t.place.toList) List.nodup_range (λj a=>by
   by_cases q:j∈t.place.toList
   .exact q
   .exact absurd ⟨j,by have:=aCB.mp a;lia,q⟩ z)
  simp at this
  lia
theorem least {P:Nat->Prop}[DecidablePred P]:∀n,P n->∃m≤n,P m/\∀k<m,¬P k
 |0,h=>⟨0,aAh _,h,λk b=>by lia⟩
 |n+1,h=>by
  by_cases z:∃k≤n,P k
  .obtain⟨k,b,a⟩:=z;obtain⟨m,f,d,e⟩:=least k a;exact⟨m,by lia,d,e⟩
  .exact⟨n+1,aAh _,h,λk b a=>z ⟨k,by lia,a⟩⟩
termination_by n=>n
def U9 (t:eQ)(h:Int)(n0:Nat):Prop:=n0<=10*(t.mask+14)/\(l9 t.mask h n0).j∉t.place.toList/\∀m<n0,(l9 t.mask h m).j∈t.place.toList
def CN {t:eQ}(F:mG (t.mask+1))(a:t.place.size<=t.mask)(h:Int):∃n0,U9 t h n0:=by obtain⟨j,b,d⟩:=IA a;obtain⟨n,l,e⟩:=DB F h b;obtain⟨m,o,f,g⟩:=least (P:=λn=>(l9 t.mask h n).j∉t.place.toList) n (by rw[e];exact d);exact⟨m,by lia,f,λk i=>by have:=g k i;simpa using this⟩
theorem xT (T:Tab t)(hashAt:Nat->Int)(h:Int)(l:U9 t h n0):∀(d n:Nat),n<=n0->n0-n<d->
  ∃f,n<=f/\f<=n0/\(∀m,n<=m->m<f->∃i,t.place[i]?=some (l9 t.mask h m).j/\hashAt i≠h)/\
   ((f=n0/\probe.go t hashAt h d (l9 t.mask h n)=some (.empty (l9 t.mask h n0).j none))\/
    (f<n0/\∃i,t.place[i]?=some (l9 t.mask h f).j/\hashAt i=h/\probe.go t hashAt h d (l9 t.mask h n)=some (.candidate (l9 t.mask h f).j i (l9 t.mask h (f+1)))))
 |0,n,_,o=>by lia
 |d+1,n,w,o=>by
  unfold probe.go;rcases DF T (l9 t.mask h n).j with⟨e,p⟩|⟨i,e,g⟩
  .have:n=n0:=by
     by_cases q:n<n0
     .exact absurd (l.2.2 n q) p
     .lia
   subst this;refine⟨n,aAh _,aAh _,λm a b=>by lia,.inl ⟨rfl,?_⟩⟩;rw[e];dsimp only;rw[nA]
  .have x:n≠n0:=λq=>by subst q;refine l.2.1 ?_;rw[<-aAF]at g;exact aAu g
   rw[e];dsimp only;by_cases k:hashAt i=h
   . refine⟨n,aAh _,by lia,λm a b=>by lia,.inr ⟨by lia,i,g,k,?_⟩⟩
     rw[h9 (by simpa using k),nC];rfl
   . rw[ib (by simpa using k),nC]
     obtain⟨f,y,r,s,u⟩:=xT T hashAt h l d (n+1) (by lia) (by lia);refine⟨f,by lia,r,λm z v=>?_,u⟩;by_cases q:m=n
     .subst q;exact⟨i,g,k⟩
     .exact s m (by lia) v
def NW (T:Tab t)(hashAt:Nat->Int)(h:Int)(b:U9 t h n0)(n:Nat)(d:n<=n0):
  ∃a,n<=a/\a<=n0/\(∀m,n<=m->m<a->∃i,t.place[i]?=some (l9 t.mask h m).j/\hashAt i≠h)/\
   ((a=n0/\t.probe hashAt h (l9 t.mask h n)=some (.empty (l9 t.mask h n0).j none))\/
    (a<n0/\∃i,t.place[i]?=some (l9 t.mask h a).j/\hashAt i=h/\t.probe hashAt h (l9 t.mask h n)=some (.candidate (l9 t.mask h a).j i (l9 t.mask h (a+1))))):=
 xT T hashAt h b _ n d (by have:=b.1;unfold turns;lia)
def Reach (mask:Nat)(a:Nat->Prop)(h:Int)(j:Nat):Prop:=∃n,(l9 mask h n).j=j/\∀m<n,a (l9 mask h m).j
def Reach.mono {mask:Nat}{o a:Nat->Prop}{h:Int}{j:Nat}(r:Reach mask o h j)(i:∀k,o k->a k):Reach mask a h j:=by obtain⟨n,e,q⟩:=r;exact⟨n,e,λm b=>i _ (q m b)⟩
def Reach.before (a:U9 t h n0)(b:j∈t.place.toList)(r:Reach t.mask (λk=>k∈t.place.toList) h j):∃n<n0,(l9 t.mask h n).j=j:=by
 obtain⟨n,e,q⟩:=r;refine⟨n,?_,e⟩;by_cases z:n<n0
 .exact z
 .exfalso;by_cases y:n=n0
  .subst y;exact a.2.1 (by rw[e];exact b)
  .exact a.2.1 (q n0 (by lia))
def fL {α:Type}(Y:Array α)(p:Nat)(x:α):(insertAt Y p x).toList=Y.toList.take p++x::Y.toList.drop p:=by
 unfold insertAt;simp[Array.toList_extract,List.extract_eq_drop_take];have:Y.size-p=(Y.toList.drop p).length:=by simp
 rw[this,List.take_length]
def wR (t:eQ)(es:List (Int×ae)):List (Nat×Int×ae):=t.place.toList.zip es
structure SOk (t:SetTable)(es:List (Int×Value)):Prop where
 tab:Tab t
 full:mG (t.mask+1)
 len:t.place.size=es.length
 room:t.place.size<=t.mask
 reach:∀e∈wR t es,Reach t.mask (λk=>k∈t.place.toList) e.2.1 e.1
def UY {t:eQ}{es:List (Int×ae)}(b:t.place.size=es.length){i:Nat}{e:Int×ae}(h:es[i]?=some e):∃j,t.place[i]?=some j/\(j,e)∈wR t es:=by
 have d:i<es.length:=(aAC.mp h).1;have a:i<t.place.toList.length:=by simpa[b]using d
 refine⟨t.place.toList[i],by rw[<-aAF,aAg a],?_⟩;unfold wR;refine aAu (i:=i) ?_;rw[aBH];exact⟨aAg a,h⟩
def gw {t:eQ}{es:List (Int×ae)}(S:SOk t es){h:Int}{x:ae}{n0:Nat}(A:U9 t h n0)(E:t.place.size+1<=t.mask):
  SOk (t.put (l9 t.mask h n0).j).1 (es.take (t.put (l9 t.mask h n0).j).2++(h,x)::es.drop (t.put (l9 t.mask h n0).j).2):=by
 have v:=vM t.mask h n0;obtain⟨Y,H,I⟩:=bN S.tab.asc (l9 t.mask h n0).j;generalize B:(l9 t.mask h n0).j=J at*
 have w:J∉t.place.toList:=by rw[<-B];exact A.2.1
 have C:(t.put J).2=below t.place J:=rfl;have em:(t.put J).1.mask=t.mask:=rfl;have d:(t.put J).1.place=insertAt t.place (below t.place J) J:=rfl;have f:=fL t.place (below t.place J) J;have l:∀k,k∈(t.put J).1.place.toList↔k∈t.place.toList\/k=J:=λk=>by
  rw[d,f,aAU,aAd];constructor
  .rintro(q|q|q)
   .exact .inl (aEx q)
   .exact .inr q
   .exact .inl (aDH q)
  .rintro(q|q)
   .rw[<-aFQ (below t.place J) t.place.toList,aAU]at q;rcases q with q|q
    .exact .inl q
    .exact .inr (.inr q)
   .exact .inr (.inl q)
 have o:(t.put J).1.place.size=t.place.size+1:=by
  rw[<-aBd,d,f,aAB,aBT,aAt,aDO,aBd]
  lia
 refine⟨⟨?_,λj L=>?_,?_⟩,S.full,?_,by rw[o];exact E,λe u=>?_⟩
 .
  have p:t.place.toList.Pairwise (· <·):=by rw[aCl];intro i j g v N;simpa using S.tab.asc i j (by simpa using g) (by simpa using v) N
  have r:∀a∈t.place.toList.take (below t.place J),a<J:=λa n=>by
   obtain⟨i,g,e⟩:=aBp n;rw[aBT]at g;rw[List.getElem_take]at e;have:=H i (by simp at g;lia) (by lia);simp at e
   lia
  have s:∀a∈t.place.toList.drop (below t.place J),J<a:=λa n=>by
   obtain⟨i,g,e⟩:=aBp n;rw[aDO]at g;rw[List.getElem_drop]at e;have h1:=I (below t.place J+i) (by simp at g;lia) (by lia);simp at e;have h2:J≠a:=λq=>w (by rw[q];exact aDH n)
   lia
  have O:(t.put J).1.place.toList.Pairwise (· <·):=by
   rw[d,f,List.pairwise_append];refine⟨p.sublist (List.take_sublist _ _),aAz.mpr ⟨s,p.sublist (List.drop_sublist _ _)⟩,λa n b Q=>?_⟩;rcases aAd.mp Q with q|q
   .subst q;exact r a n
   .exact aGJ (r a n) (s b q)
  intro i k g y z;have:=aCl.mp O i k (by simpa using g) (by simpa using y) z;simpa using this
 .rcases(l j).mp L with q|q
  .exact S.tab.le j q
  .subst q;exact v
 .show(if has t.dummies J then _ else t.dummies)=#[];rw[S.tab.nod,ib (by unfold has;simp)]
 .rw[o,C,aAB,aBT,aAt,aDO];have:=S.len
  lia
 .have T:e∈wR t es\/e=(J,h,x):=by
   unfold wR at u;rw[d,f,C]at u;rw[List.zip_append (by rw[aBT,aBT,aBd,S.len])]at u;rcases aAU.mp u with q|q
   .left;unfold wR;exact wA q
   .rw[aBK]at q;rcases aAd.mp q with q|q
    .exact .inr q
    .left;unfold wR;exact vV q
  rcases T with q|q
  .exact(S.reach e q).mono λk y=>(l k).mpr (.inl y)
  .subst q;exact⟨n0,B,λm U=>(l _).mpr (.inl (A.2.2 m U))⟩
def Q4 (owner:Array (Option Nat))(j:Nat):Prop:=(owner.getD j<|some 0).isNone=false
theorem tR {mask:Nat}(h:Int)(owner:Array (Option Nat)):∀(fuel k:Nat),(∃kk,k<=kk/\kk<k+fuel/\¬Q4 owner (C8 mask h kk).1)->
  ∃n,off mask h k<=n/\layClean.free mask owner fuel (C8 mask h k).1 (C8 mask h k).2=some (l9 mask h n).j/\¬Q4 owner (l9 mask h n).j/\∀m,off mask h k<=m->m<n->Q4 owner (l9 mask h m).j
 |0,k,⟨kk,i,l,_⟩=>by lia
 |fuel+1,k,⟨kk,i,l,d⟩=>by
  have o:runEnd mask (C8 mask h k).1+1-(C8 mask h k).1=len mask (C8 mask h k).1+1:=by unfold len runEnd;split<;>lia
  unfold layClean.free;rw[o];cases e:(aBy<|len mask (C8 mask h k).1+1).find? λr=>(owner.getD ((C8 mask h k).1+r)<|some 0).isNone with
  |some r=>
   have q:=List.find?_some e;have f:r<len mask (C8 mask h k).1+1:=aCB.mp (List.mem_of_find?_eq_some e);have g:(l9 mask h<|off mask h k+r).j=(C8 mask h k).1+r:=by rw[W9 mask h k r (by lia)]
   refine⟨off mask h k+r,by lia,by rw[g],by rw[g];unfold Q4;rw[q];simp,λm a b=>?_⟩;have em:(l9 mask h m).j=(C8 mask h k).1+(m-off mask h k):=by have:=W9 mask h k (m-off mask h k) (by lia);rw[show off mask h k+(m-off mask h k)=m by lia]at this;rw[this]
   rw[em];unfold Q4;rw[List.find?_range_eq_some]at e;have:=e.2.2 (m-off mask h k) (by lia);simpa using this
  |none=>
   have all:∀r<len mask (C8 mask h k).1+1,Q4 owner ((C8 mask h k).1+r):=λr f=>by have:=List.find?_eq_none.mp e r (aCB.mpr f);unfold Q4;exact Bool.not_eq_true _▸this
   have v:kk≠k:=λq=>by subst q;have:=all 0 (by lia);rw[Nat.add_zero]at this;exact d this
   obtain⟨n,w,p,s,t⟩:=tR h owner fuel (k+1) ⟨kk,by lia,by lia,d⟩;have x:off mask h (k+1)=off mask h k+len mask (C8 mask h k).1+1:=rfl;refine⟨n,by lia,p,s,λm y u=>?_⟩;by_cases q:off mask h (k+1)<=m
   .exact t m q u
   .have em:(l9 mask h m).j=(C8 mask h k).1+(m-off mask h k):=by have:=W9 mask h k (m-off mask h k) (by lia);rw[show off mask h k+(m-off mask h k)=m by lia]at this;rw[this]
    rw[em];exact all _ (by lia)
def mI {mask:Nat}(F:mG (mask+1))(h:Int)(owner:Array (Option Nat)){j:Nat}(i:j<=mask)(a:¬Q4 owner j):
  ∃n,layClean.free mask owner (turns mask) (aDZ h%(mask+1)) (aDZ h)=some (l9 mask h n).j/\¬Q4 owner (l9 mask h n).j/\∀m<n,Q4 owner (l9 mask h m).j:=by
 obtain⟨k,l,e⟩:=rX F (FU mask h 13) (show j<mask+1 by lia);obtain⟨n,o,b,d,f⟩:=tR h owner (turns mask) 0 ⟨13+k,aAX _,by unfold turns;lia,by rw[oA,e];exact a⟩;exact⟨n,b,d,λm g=>f m (aAX _) g⟩
structure Laid (mask:Nat)(hs:List Int)(owner:Array (Option Nat))(k:Nat):Prop where
 size:owner.size=mask+1
 lt:∀(j i:Nat),owner[j]?=some (some i)->i<k
 inj:∀(j j' i:Nat),owner[j]?=some (some i)->owner[j']?=some (some i)->j=j'
 sur:∀i<k,∃j:Nat,owner[j]?=some (some i)
 reach:∀(j i:Nat) (h:Int),owner[j]?=some (some i)->hs[i]?=some h->Reach mask (λl=>∃i,owner[l]?=some (some i)) h j
def kK {owner:Array (Option Nat)}{mask j:Nat}(b:owner.size=mask+1)(d:j<=mask):Q4 owner j↔∃i,owner[j]?=some (some i):=by
 unfold Q4;have a:j<owner.size:=by lia
 have e:owner.getD j (some 0)=owner[j]:=by simp[aFl,a]
 rw[e,aAL a];cases owner[j]with
 |none=>simp
 |some i=>simp
def Laid.room {mask k:Nat}{r:List Int}{owner:Array (Option Nat)}(L:Laid mask r owner k)(t:k<=mask):∃j≤mask,¬Q4 owner j:=by
 by_cases z:∃j≤mask,¬Q4 owner j
 .exact z
 .exfalso;have all:∀j≤mask,∃i,owner[j]?=some (some i):=λj b=>by
   by_cases q:Q4 owner j
   .exact(kK L.size b).mp q
   .exact absurd ⟨j,b,q⟩ z
  have d:∀n,n<=mask+1->∃l:List Nat,l.length=n/\l.Nodup/\(∀i∈l,i<k)/\∀i∈l,∃j<n,owner[j]?=some (some i):=λn=>by
   induction n with
   |zero=>exactλ_=>⟨[],rfl,aCP,by simp,by simp⟩
   |succ n s=>
    intro u;obtain⟨l,o,f,g,p⟩:=s (by lia);obtain⟨i,h⟩:=all n (by lia);refine⟨i::l,by simp[o],aAE.mpr ⟨λq=>?_,f⟩,λx a=>?_,λx a=>?_⟩
    .obtain⟨j,b,e⟩:=p i q;have:=L.inj j n i e h
     lia
    .rcases aAd.mp a with q|q
     .subst q;exact L.lt _ _ h
     .exact g x q
    .rcases aAd.mp a with q|q
     .subst q;exact⟨n,by lia,h⟩
     .obtain⟨j,b,e⟩:=p x q;exact⟨j,by lia,e⟩
  obtain⟨l,o,f,g,_⟩:=d (mask+1) (aAh _);have:=P4 (m:=aBy k) f (λx a=>aCB.mpr (g x a));simp at this
  lia
def AM (mask:Nat)(b:List Int):Laid mask b (aEF (mask+1) none) 0:=by
 have a:∀(j i:Nat),(aEF (mask+1) (none:Option Nat))[j]?=some (some i)->False:=λj i h=>by rw[Array.getElem?_replicate]at h;split at h<;>cases h
 exact⟨by simp,λj i h=>(a j i h).elim,λj d i h=>(a j i h).elim,λi e=>by lia,λj i _ h=>(a j i h).elim⟩
def Laid.step {mask k:Nat}{g:List Int}{owner:Array (Option Nat)}(L:Laid mask g owner k){h:Int}(t:g[k]?=some h){n:Nat}(u:¬Q4 owner (l9 mask h n).j)(v:∀m<n,Q4 owner (l9 mask h m).j):
  Laid mask g (owner.setIfInBounds (l9 mask h n).j (some k)) (k+1):=by
 have w:=vM mask h n;have o:(l9 mask h n).j<owner.size:=by rw[L.size];lia
 have get:∀(j i:Nat),(owner.setIfInBounds (l9 mask h n).j (some k))[j]?=some (some i)↔(j=(l9 mask h n).j/\i=k)\/(j≠(l9 mask h n).j/\owner[j]?=some (some i)):=λj i=>by
  rw[Array.getElem?_setIfInBounds];by_cases q:(l9 mask h n).j=j
  .rw[h9 q,h9 o];simp[q,eq_comm]
  .rw[ib q];constructor
   .intro z;exact .inr ⟨λy=>q y.symm,z⟩
   .rintro(⟨z,_⟩|⟨_,z⟩)
    .exact absurd z.symm q
    .exact z
 have x:∀i,owner[(l9 mask h n).j]?≠some (some i):=λi z=>u ((kK L.size w).mpr ⟨i,z⟩);have grow:∀l:Nat,(∃i:Nat,owner[l]?=some (some i))->∃i:Nat,(owner.setIfInBounds (l9 mask h n).j (some k))[l]?=some (some i):=λl A=>by
  obtain⟨i,z⟩:=A;by_cases q:l=(l9 mask h n).j
  .exact⟨k,(get l k).mpr (.inl ⟨q,rfl⟩)⟩
  .exact⟨i,(get l i).mpr (.inr ⟨q,z⟩)⟩
 refine⟨by simp[L.size],λj i z=>?_,λj p i z s=>?_,λi C=>?_,λj i r z e=>?_⟩
 .rcases(get j i).mp z with⟨_,q⟩|⟨_,q⟩
  .lia
  .have:=L.lt j i q;lia
 .rcases(get j i).mp z with⟨d,a⟩|⟨d,a⟩
  .rcases(get p i).mp s with⟨f,b⟩|⟨f,b⟩
   .rw[d,f]
   .subst a;have:=L.lt _ _ b;lia
  .rcases(get p i).mp s with⟨f,b⟩|⟨f,b⟩
   .subst b;have:=L.lt _ _ a;lia
   .exact L.inj j p i a b
 .by_cases q:i=k
  .subst q;exact⟨_,(get _ _).mpr (.inl ⟨rfl,rfl⟩)⟩
  .obtain⟨j,z⟩:=L.sur i (by lia);exact⟨j,(get j i).mpr (.inr ⟨λy=>by subst y;exact x i z,z⟩)⟩
 .rcases(get j i).mp z with⟨d,a⟩|⟨d,a⟩
  .subst d a;have:r=h:=Option.some.inj (e.symm.trans t);subst this;exact⟨n,rfl,λm B=>grow _ ((kK L.size<|vM mask r m).mp (v m B))⟩
  .exact(L.reach j i r a e).mono grow
def xY {mask:Nat}(F:mG (mask+1))(b:Array Int)(z:b.size<=mask):∃owner,layClean mask b=some owner/\Laid mask b.toList owner b.size:=by
 have g:∀(post a:List Int) (owner:Array (Option Nat)),b.toList=a++post->Laid mask b.toList owner a.length->
   ∃d,post.foldl (λB h=>do
    let(owner,k)<-B
    let j<-layClean.free mask owner (turns mask) (aDZ h%(mask+1)) (aDZ h)
    pure (owner.setIfInBounds j (some k),k+1)) (some (owner,a.length))=some (d,b.size)/\Laid mask b.toList d b.size:=λpost=>by
  induction post with
  |nil=>
   intro a owner e L;have:a.length=b.size:=by rw[<-aBd,e];simp
   exact⟨owner,by rw[List.foldl_nil,this],by rw[<-this];exact L⟩
  |cons h post i=>
   intro a owner e L;have f:a.length<b.size:=by rw[<-aBd,e];simp
   obtain⟨j,l,m⟩:=L.room (by lia);obtain⟨n,o,p,q⟩:=mI F h owner l m;have r:b.toList[a.length]?=some h:=by rw[e];simp
   have s:=L.step r p q;rw[aEG];have t:b.toList=(a++[h])++post:=by rw[e];simp
   obtain⟨d,u,v⟩:=i (a++[h]) _ t (by rw[aAB];exact s);refine⟨d,?_,v⟩;rw[<-u];congr 1;simp[o]
 obtain⟨owner,w,x⟩:=g b.toList [] (aEF (mask+1) none) rfl (AM mask b.toList);refine⟨owner,?_,x⟩;unfold layClean;rw[<-Array.foldl_toList];have y:List.foldl (λB h=>do
    let(owner,k)<-B
    let j<-layClean.free mask owner (turns mask) (aDZ h%(mask+1)) (aDZ h)
    pure (owner.setIfInBounds j (some k),k+1)) (some (aEF (mask+1) none,0)) b.toList=some (owner,b.size):=w
 rw[y];rfl
def D8 (mask:Nat)(owner:Array (Option Nat)):List (Nat×Nat):=(aBy<|mask+1).filterMap λj=>(owner.getD j none).map (j,·)
def Q0 {mask:Nat}{owner:Array (Option Nat)}(g:owner.size=mask+1){j i:Nat}:(j,i)∈D8 mask owner↔owner[j]?=some (some i):=by
 unfold D8;rw[aCb];constructor
 .rintro⟨l,a,e⟩;have f:l<owner.size:=by rw[g];exact aCB.mp a
  have b:owner.getD l none=owner[l]:=by simp[aFl,f]
  rw[b,aDm]at e;obtain⟨k,d,h⟩:=e;cases h;rw[aAL f,d]
 .intro e;obtain⟨a,d⟩:=aCj.mp e;have b:owner.getD j none=owner[j]:=by simp[aFl,a]
  exact⟨j,aCB.mpr (by lia),by rw[b,d];rfl⟩
def xN (mask:Nat)(owner:Array (Option Nat)):((D8 mask owner).map (·.1)).Pairwise (· <·):=by unfold D8;rw[aBN];have:(aBy<|mask+1).Pairwise (· <·):=List.pairwise_lt_range;refine List.Pairwise.filterMap _ (R:=(· <·)) ?_ this;intro a g f b d h e;rw[aDm]at d e;obtain⟨_,_,rfl⟩:=d;obtain⟨_,_,rfl⟩:=e;exact f
def KS {mask finger moves:Nat}{led plain:Bool}(F:mG (mask+1))(es:Array (Int×ae))(B:es.size<=mask):
  ∃t' f,laid mask finger moves led plain (es.map (·.1))=some (t',f)/\(f.filterMap (es[·]?)).size=es.size/\(f.filterMap (es[·]?)).toList.Perm es.toList/\SOk t' (f.filterMap (es[·]?)).toList/\
   t'.mask=mask/\t'.dummies=#[]/\t'.led=led/\t'.plain=plain/\t'.moves=moves:=by
 obtain⟨d,J,L⟩:=xY F (es.map (·.1)) (by simpa using B);have n:(es.map (·.1)).size=es.size:=by simp
 rw[n]at L;refine⟨{mask,place:=((D8 mask d).map (·.1)).toArray,dummies:=#[],finger,led,moves,plain},((D8 mask d).map (·.2)).toArray,?_,?_⟩
 .unfold laid;rw[J];rfl
 have o:(D8 mask d).Nodup:=by have:=xN mask d;rw[aBN]at this;exact aCi.mpr (this.imp λ{a b} h e=>by subst e;exact aBf _ h)
 have p:((D8 mask d).map (·.2)).Nodup:=by rw[aCi,aBN];refine List.Pairwise.imp_of_mem (R:=(· ≠·)) ?_ (aCi.mp o);rintro⟨j,i⟩ ⟨r,s⟩ N O Q e;dsimp only at e;subst e;have:=L.inj j r i ((Q0 L.size).mp N) ((Q0 L.size).mp O);subst this;exact Q rfl
 have C:((D8 mask d).map (·.2)).Perm (aBy es.size):=by
  rw[aCM p List.nodup_range];intro i;rw[aCB,aAi];constructor
  .rintro⟨⟨j,s⟩,h,rfl⟩;exact L.lt _ _ ((Q0 L.size).mp h)
  .intro t;obtain⟨j,u⟩:=L.sur i t;exact⟨(j,i),(Q0 L.size).mpr u,rfl⟩
 have E:(((D8 mask d).map (·.2)).toArray.filterMap (es[·]?)).toList=(D8 mask d).filterMap (λx=>es[x.2]?):=by rw[Array.toList_filterMap,aDq];rfl
 have T:((D8 mask d).filterMap (λx=>es[x.2]?)).Perm es.toList:=by
  have U:(D8 mask d).filterMap (λx=>es[x.2]?)=((D8 mask d).map (·.2)).filterMap (λi=>es[i]?):=by rw[aDq];rfl
  rw[U];refine(C.filterMap _).trans (List.Perm.of_eq ?_);apply aEf;intro i;have:(aBy es.size).filterMap (λi=>es[i]?)=es.toList:=by
   have q:∀l:List (Int×ae),(aBy l.length).filterMap (λi=>l[i]?)=l:=λl=>by
    induction l with
    |nil=>rfl
    |cons a l w=>
     rw[aAt,aFK,aCF];simp only[aCx];rw[aDq];have:((λi=>(a::l)[i]?)∘Nat.succ)=λi=>l[i]?:=by funext i;simp
     rw[this,w]
   have:=q es.toList;simpa using this
  rw[this]
 have Y:∀l:List (Nat×Nat),(∀x∈l,x.2<es.size)->(l.map (·.1)).zip (l.filterMap<|λx=>es[x.2]?)=l.filterMap (λx=>es[x.2]?.map (x.1,·))/\(l.filterMap<|λx=>es[x.2]?).length=l.length:=λl=>by
  induction l with
  |nil=>intro _;exact⟨rfl,rfl⟩
  |cons x l w=>intro h;obtain⟨i1,i2⟩:=w (λy hy=>h y (aAe _ hy));have z:=h x (by simp);have e:es[x.2]?=some es[x.2]:=aAL z;rw[aAr,aCF,e];dsimp only;rw[aCF,e];dsimp only[Option.map_some];rw[aBK,i1];exact⟨rfl,by simp[i2]⟩
 obtain⟨z1,H⟩:=Y (D8 mask d) (λx z=>L.lt x.1 x.2 ((Q0 L.size).mp z));have g:(D8 mask d).length=es.size:=by have:=C.length_eq;simpa using this
 rw[E];refine⟨by rw[<-aBd,E,H,g],T,⟨⟨?_,λj u=>?_,rfl⟩,F,?_,?_,λe m=>?_⟩,rfl,rfl,rfl,rfl,rfl⟩
 .intro i k t n A;have:=aCl.mp (xN mask d) i k (by simpa using t) (by simpa using n) A;simpa using this
 .have wo:j∈(D8 mask d).map (·.1):=by simpa using u
  obtain⟨⟨r,i⟩,h,rfl⟩:=aAi.mp wo;have:=(aCj.mp<|(Q0 L.size).mp h).1;rw[L.size]at this;show r<=mask
  lia
 .rw[H];simp
 .simp only[aAn,aAj,g];exact B
 .unfold wR at m;dsimp only at m;rw[z1,aCb]at m;obtain⟨⟨j,i⟩,h,I⟩:=m;rw[aDm]at I;obtain⟨⟨hh,v⟩,e2,rfl⟩:=I;have ho:=(Q0 L.size).mp h;have:=L.reach j i hh ho (by rw[aAF,Array.getElem?_map,e2];rfl);refine this.mono λl z9=>?_;obtain⟨s,dh⟩:=z9;show l∈(D8 mask d).map (·.1);exact aAi.mpr ⟨(l,s),(Q0 L.size).mpr dh,rfl⟩
end ST
namespace TS
open PySem PyProof.Rows
abbrev tupK:Bool->SortKind:=sortPriv%PySem.Builtin.KeyKind.tuples
structure TB (f:Bool)(a5:Array Keyed)(st:SortSt):Prop where
 perm:(arrOf st).Perm a5
 kind:kindOf st=tupK f
 failed:failedOf st=none
 pend:pendingOf st=#[]
def TB.size {f:Bool}{a5:Array Keyed}{st:SortSt}(h:TB f a5 st):(arrOf st).size=a5.size:=h.perm.size_eq
def TB.setArr {f:Bool}{a5:Array Keyed}{st:SortSt}(h:TB f a5 st){Y:Array Keyed}(a:Y.Perm (arrOf st)):TB f a5 (PyProof.Rows.setArr st Y):=
 ⟨a.trans h.perm,h.kind,h.failed,h.pend⟩
def VS (f:Bool)(A:cf)(s:a9)(κ:KeyKind):Prop:=
 ∀(d:be) (w:cp) (E:A4) (x y:ae) (a b:κ.α) {Q:wO},
  κ.keyOf x=some a->κ.keyOf y=some b->Q (κ.blt a b) s->ag (bc d w) A (keyLt' (tupK f) x y) Q E s
def TB.atK {f:Bool}{κ:KeyKind}{a5:Array Keyed}{st:SortSt}(h:TB f a5 st)(h0:KeysOf κ a5){i:Nat}(d:i<a5.size):∃x p a,(arrOf st)[i]?=some (x,p)/\κ.keyOf x=some a/\KK κ (arrOf st) i=a:=by
 have g:i<(arrOf st).size:=by rw[h.size];exact d
 obtain⟨a,b⟩:=h0 _ ((aEQ.mp h.perm).mem_iff.mp (show(arrOf st)[i]∈(arrOf st).toList by simp));have e:(arrOf st)[i]?=some (arrOf st)[i]:=getElem?_pos _ i g;exact⟨(arrOf st)[i].1,(arrOf st)[i].2,a,by rw[e],b,by unfold KK;rw[e];simp[b]⟩
section
def zk (f:Bool){prog:be}{w:cp}{A:cf}{E:A4}{s:a9}{a5:Array Keyed}{κ:KeyKind}{st:SortSt}{i j:Nat}{Q:Option Bool->SortSt->Prop}(e:VS f A s κ)(d:TB f a5 st)(h0:KeysOf κ a5)(g:i<a5.size)(k:j<a5.size)
  (h:Q (some (κ.blt (KK κ (arrOf st) i) (KK κ (arrOf st) j))) st):wpS (bc prog w) A E s (ltAt' i j) Q st:=by
 obtain⟨x,p,a,l,m,n⟩:=d.atK h0 g;obtain⟨y,q,b,o,r,t⟩:=d.atK h0 k;rw[n,t]at h;rw[ltAt'_eq];refine aBz (wpS_get ?_);show wpS _ _ _ _ (do let x<-elem' (arrOf st) i;let y<-elem' (arrOf st) j;lt' x y) Q st;rw[elem'_eq,elem'_eq,l,o];refine aBz (aCm<|aBz<|aCm ?_);rw[lt'_eq];refine aBz (wpS_get ?_);rw[d.kind];refine aBz (wpS_lift<|aEz<|e prog w _ x y a b m r ⟨rfl,?_⟩);exact aCm h
def up1 (S:SortedToK κ Y x)(h:1<=x->κ.kle (KK κ Y (x-1)) (KK κ Y x)):SortedToK κ Y (x+1):=λi j a b=>by
 rcases aDr (aFm b)with d|rfl
 .exact S i j a d
 .rcases aDr a with e|rfl
  .exact KeyOrd.kle_trans (S i (j-1) (by lia) (by lia)) (h (by lia))
  .exact KeyOrd.kle_refl _
def xx (S:NonIncK κ Y x)(h:1<=x->κ.kle (KK κ Y x) (KK κ Y (x-1))):NonIncK κ Y (x+1):=λi j a b=>by
 rcases aDr (aFm b)with d|rfl
 .exact S i j a d
 .rcases aDr a with e|rfl
  .exact KeyOrd.kle_trans (h (by lia)) (S i (j-1) (by lia) (by lia))
  .exact KeyOrd.kle_refl _
def PQ (S:NonIncK κ Y x)(e:∀k,KK κ a k=KK κ Y k):NonIncK κ a x:=λi j b d=>by rw[e,e];exact S i j b d
def BM (κ:KeyKind)(Y:Array Keyed)(x c:Nat):Prop:=c+1<=x/\∀k,x-(c+1)<=k->k<x->KK κ Y k=KK κ Y (x-1)
def BM.one (h:1<=x):BM κ Y x 0:=⟨h,λk a b=>by rw[show k=x-1 by lia]⟩
variable{st:SortSt}
def KQ (i:VS f A s κ)(h0:KeysOf κ a5)(l:m<=a5.size)(B:TB f a5 st)(o:1<=a)(b:a<=m)(S:SortedToK κ (arrOf st) a){Q:AscSt->SortSt->Prop}(q:∀n,a<=n->n<=m->SortedToK κ (arrOf st) n->(n<m->κ.klt (KK κ (arrOf st) n) (KK κ (arrOf st) (n-1)))->Q (none,n) st):wpS (bc prog w) A E s (ascLoop a m) Q st:=by
 refine aEk (I:=λn r t=>t=st/\r=(none,n)/\SortedToK κ (arrOf st) n) (λn r t j p k=>?_) (λr t ⟨g,h,d⟩=>?_) ⟨rfl,rfl,S⟩
 .obtain⟨g,h,d⟩:=k;subst g h;refine aBz (zk f i B h0 (by lia) (by lia) ?_);cases z:κ.blt (KK κ (arrOf t) n) (KK κ (arrOf t)<|n-1)with
  |true=>exact aCm (q n j (by lia) d λ_=>z)
  |false=>exact aCm ⟨rfl,rfl,up1 d λ_=>z⟩
 .subst g h;have e:max a m=m:=Nat.max_eq_right b;rw[e]at d⊢;exact q m b (aAh _) d λz=>absurd z (aBf _)
abbrev Told (f:Bool)(κ:KeyKind)(a5:Array Keyed)(m:Nat)(Q:Option Nat->SortSt->Prop):Prop:=∀n t,TB f a5 t->1<=n->n<=m->SortedToK κ (arrOf t) n->Q (some n) t
def xJ (h:VS f A s κ)(h0:KeysOf κ a5)(a:m<=a5.size)(B:TB f a5 st)(b:1<=n)(d:n<=m)(S:NonIncK κ (arrOf st) n){Q:Option Nat->SortSt->Prop}(q:Told f κ a5 m Q):
  wpS (bc prog w) A E s (tail3 n m) Q st:=by
 have g:=B.setArr (aGl (arrOf st) 0 n<|(n-0)/2);have l:n<=(arrOf st).size:=by rw[B.size];exact aAs d a
 refine aBz (aGm<|aBz<|KQ h h0 a g b d (λi j v o=>?_) λk p r t _=>aCm (q k _ g (aAs b p) r t));have e:∀k,k<n->KK κ (arrOf<|setArr st<|mirror (arrOf st) 0 n<|(n-0)/2) k=KK κ (arrOf st) (0+n-1-k):=λk u=>(KK_mirror l k).trans (h9 ⟨aAX _,u⟩);rw[e i (by lia),e j o];exact S _ _ (by lia) (by lia)
def LA (g:VS f A s κ)(h0:KeysOf κ a5)(C:m<=a5.size)(B:TB f a5 st)(h:1<=n)(j:n<=m)(S:NonIncK κ (arrOf st) n){Q:DescSt->SortSt->Prop}(q:∀k c t,TB f a5 t->1<=k->k<=m->NonIncK κ (arrOf t) k->BM κ (arrOf t) k c->Q (none,k,c) t):wpS (bc prog w) A E s (descLoop n m) Q st:=by
 refine aEk (I:=λk r t=>∃c,r=(none,k,c)/\TB f a5 t/\NonIncK κ (arrOf t) k/\BM κ (arrOf t) k c) (λk r t H J p=>?_) (λr t ⟨c,e,a,d,b⟩=>?_) ⟨0,rfl,B,S,BM.one h⟩
 .obtain⟨c,e,a,d,b⟩:=p;subst e;have u:k<=(arrOf t).size:=by rw[a.size];lia
  dsimp only;refine aBz (zk f g a h0 (by lia) (by lia) ?_);cases z:κ.blt (KK κ (arrOf t) k) (KK κ (arrOf t)<|k-1)with
  |true=>
   have l:NonIncK κ (arrOf t) (k+1):=xx d λ_=>KeyOrd.kle_of_klt z;show wpS _ _ _ _ (if c>0 then _ else _) _ t;by_cases o:c>0
   .rw[h9 o];exact aBz (aGm (aCm ⟨0,rfl,a.setArr (aGl _ _ _ _),PQ l (aFR u b.2),BM.one (by lia)⟩))
   .rw[ib o];exact aCm ⟨0,rfl,a,l,BM.one (by lia)⟩
  |false=>
   dsimp only;simp only[aAq,if_false];refine aBz (zk f g a h0 (by lia) (by lia) ?_);cases v:κ.blt (KK κ (arrOf t)<|k-1) (KK κ (arrOf t) k)with
   |true=>exact aCm (q k c t a (by lia) (by lia) d b)
   |false=>
    have e:KK κ (arrOf t) k=KK κ (arrOf t) (k-1):=KeyOrd.kle_antisymm v z;refine aCm ⟨c+1,rfl,a,xx d λ_=>by rw[e];exact KeyOrd.kle_refl _,by have:=b.1;lia,λi L x=>?_⟩;show KK κ (arrOf t) i=KK κ (arrOf t) k;rcases aDr (aFm x)with y|rfl
    .rw[e];exact b.2 i (by lia) y
    .rfl
 .subst e;have e:max n m=m:=Nat.max_eq_right j;rw[e]at d b⊢;exact q m c t a (aAs h j) (aAh _) d b
def xU (a:VS f A s κ)(h0:KeysOf κ a5)(b:m<=a5.size)(B:TB f a5 st)(j:n+1<=m)(S:NonIncK κ (arrOf st) (n+1)){Q:Option Nat->SortSt->Prop}(q:Told f κ a5 m Q):
  wpS (bc prog w) A E s (descPart n m) Q st:=by
 refine aBz (wpS_lift<|aDD ⟨rfl,aBz (LA a h0 b B (aGK n) j S λk c t d e g h l=>?_)⟩);have o:k<=(arrOf t).size:=by rw[d.size];lia
 show wpS _ _ _ _ (if c>0 then _ else _) _ t;by_cases i:c>0
 .rw[h9 i];exact aBz (aGm<|xJ a h0 b (d.setArr<|aGl _ _ _ _) e g (PQ h<|aFR o l.2) q)
 .rw[ib i];exact xJ a h0 b d e g h q
def HJ (a:VS f A s κ)(h0:KeysOf κ a5)(b:m<=a5.size)(l:1<=m)(B:TB f a5 st){Q:Option Nat->SortSt->Prop}(q:Told f κ a5 m Q):wpS (bc prog w) A E s (countRun' 0 m) Q st:=by
 rw[countRun0_eq];refine aBz (KQ a h0 b B (aAh 1) l (up1 (λ_ _ _ z=>absurd z (aFS _)) λz=>absurd z (by decide)) λn d e S o=>?_);show wpS _ _ _ _ (if(n==m)=true then _ else _) _ st;by_cases g:n=m
 .rw[h9 (beq_iff_eq.mpr g)];exact aCm (q n st B d e S)
 .rw[ib λz=>g (beq_iff_eq.mp z)];have lt:=o (by lia);by_cases h:n>1
  .rw[h9 h];refine aBz (zk f a B h0 (by lia) (by lia) ?_);cases z:κ.blt (KK κ (arrOf st) 0) (KK κ (arrOf st)<|n-1)with
   |true=>exact aCm (q n st B d e S)
   |false=>
    have p:n<=(arrOf st).size:=by rw[B.size];lia
    have same:∀k,0<=k->k<n->KK κ (arrOf st) k=KK κ (arrOf st) (n-1):=λk _ r=>KeyOrd.kle_antisymm (S k (n-1) (by lia) (by lia)) (KeyOrd.kle_trans z<|S 0 k (aAX _) r);have t:NonIncK κ (arrOf st) n:=λi j v u=>by rw[same i (aAX _) (by lia),same j (aAX _) u];exact KeyOrd.kle_refl _
    exact aBz (aGm (xU a h0 b (B.setArr<|aGl _ _ _ _) (by lia) (PQ (xx t λ_=>KeyOrd.kle_of_klt lt)<|aFR p same) q))
  .rw[ib h];obtain rfl:n=1:=by lia
   exact xU a h0 b B (by lia) (xx (xx (λ_ _ _ z=>absurd z (aFS _)) λz=>absurd z (by decide)) λ_=>KeyOrd.kle_of_klt lt) q
def pW (hO:VS f A s κ)(h0:KeysOf κ a5)(hn:n<=a5.size)(hk:k<=n)(B:TB f a5 st)(S:SortedToK κ (arrOf st) k){Q:Bool->SortSt->Prop}(q:∀t,TB f a5 t->SortedToK κ (arrOf t) n->Q true t):
  wpS (bc prog w) A E s (binarySort' 0 n k) Q st:=by
 rw[binarySort'_eq];simp only[aEX];have S0:SortedToK κ (arrOf st) (min (max k 1) n):=λi j H N=>by
  rcases Nat.eq_or_lt_of_le H with rfl|ao
  .exact KeyOrd.kle_refl _
  .exact S i j H (by lia)
 refine aBz (wpS_mono (Q:=λr t=>r=(none,())/\TB f a5 t/\SortedToK κ (arrOf t) n) (aEk (I:=λx r t=>r=(none,())/\TB f a5 t/\SortedToK κ (arrOf t) (min x n)) (λx r t l1 l2 ⟨e,h,g⟩=>?step) (λr t ⟨e,h,g⟩=>⟨e,h,?fin⟩) ⟨rfl,B,S0⟩) λr t ⟨e,h,g⟩=>?post)
 case step=>
  subst e;rw[aFT (aDx l2)]at g;have O:x<a5.size:=by lia
  let p (l:Nat):Prop:=∀i,i<l->κ.kle (KK κ (arrOf t) i) (KK κ (arrOf t) x)
  let Top (r:Nat):Prop:=∀i,r<=i->i<x->κ.klt (KK κ (arrOf t) x) (KK κ (arrOf t) i)
  refine aBz (wpS_mono (Q:=λd u=>u=t/\∃l r,d=(none,l,r)/\l<=x/\p l/\Top l) (aEk (I:=λy d u=>u=t/\∃l r,d=(none,l,r)/\l<=r/\r<=x/\r-l<=x-y/\p l/\Top r) (λy d u _ y2 ⟨e,l,r,v,T,J,L,lo,o⟩=>?istep) (λd u ⟨e,l,r,v,T,J,L,lo,o⟩=>?ifin)
   ⟨rfl,0,x,rfl,aAX _,aAh _,aAh _,λ_ z=>absurd z (aFS _),λi a b=>absurd (aDs a b) (aBf _)⟩) λd u ⟨e,l,r,v,lx,lo,o⟩=>?ipost)
  case istep=>
   subst e v;show wpS _ _ _ _ (if l>=r then _ else _) _ u;by_cases m:l>=r
   .rw[h9 m];obtain rfl:l=r:=aEE T m;exact aCm ⟨rfl,l,l,rfl,J,lo,o⟩
   .rw[ib m];dsimp only;refine aBz (zk f hO h h0 O (by lia) ?_);cases z:κ.blt (KK κ (arrOf u) x) (KK κ (arrOf u)<|(l+r)/2)with
    |true=>exact aCm ⟨rfl,l,(l+r)/2,rfl,by lia,by lia,by lia,lo,λi a b=>KeyOrd.klt_of_klt_of_kle z (g _ i a b)⟩
    |false=>exact aCm ⟨rfl,(l+r)/2+1,r,rfl,by lia,by lia,by lia,λi a=>KeyOrd.kle_trans (g i ((l+r)/2) (by lia) (by lia)) z,o⟩
  case ifin=>
   subst e v;obtain rfl:l=r:=by lia
   exact⟨rfl,l,l,rfl,J,lo,o⟩
  case ipost=>
   subst e v;have hz:x<(arrOf u).size:=by rw[h.size];exact O
   show wpS _ _ _ _ (do moveDown' x l;pure (aCn (none,()))) _ u;rw[moveDown'_eq];refine aBz (wpS_modify<|aCm ⟨rfl,h.setArr (bubble_perm _ _ _),λi j H N=>?_⟩);have e:∀k,KK κ (arrOf<|setArr u<|bubble (arrOf u) x<|x-l) k=if k=l then KK κ (arrOf u) x else if l<k/\k<=x then KK κ (arrOf u) (k-1)else KK κ (arrOf u) k:=λk=>by have:=KK_bubble (κ:=κ) hz (Nat.sub_le x l) k;rw[show x-(x-l)=l by lia]at this;exact this
   have N:j<x+1:=by lia
   rw[e,e];by_cases U:i=l
   .rw[h9 U];by_cases C:j=l
    .rw[h9 C];exact KeyOrd.kle_refl _
    .rw[ib C,h9 ⟨by lia,by lia⟩];exact KeyOrd.kle_of_klt (o _ (by lia) (by lia))
   .rw[ib U];by_cases C:j=l
    .rw[h9 C,ib λz=>by lia];exact lo i (by lia)
    .rw[ib C];by_cases Y:l<i/\i<=x
     .rw[h9 Y,h9 ⟨by lia,by lia⟩];exact g _ _ (by lia) (by lia)
     .rw[ib Y];by_cases c4:l<j/\j<=x
      .rw[h9 c4];exact g _ _ (by lia) (by lia)
      .rw[ib c4];exact g _ _ H (by lia)
 case fin=>rw[show min (max (max k 1) n) n=n by lia]at g;exact g
 case post=>subst e;exact aCm (q t h g)
def lW (f:Bool)(h:VS f A s κ)(h0:KeysOf κ a5)(B:TB f a5 st)(y:2<=a5.size)(d:a5.size<64){Q:Unit->SortSt->Prop}(q:∀t,(arrOf t).Perm a5->failedOf t=none->SortedToK κ (arrOf t) a5.size->Q () t):wpS (bc prog w) A E s sortRuns' Q st:=by
 have l:minRun' a5.size a5.size 0=a5.size:=by
  generalize C:a5.size=N at*
  cases N with
  |zero=>lia
  |succ N=>rw[minRun'_succ,h9 d]
 let TJ (t:SortSt):Prop:=(arrOf t).Perm a5/\failedOf t=none/\pendingOf t=#[(0,a5.size,0)]/\SortedToK κ (arrOf t) a5.size
 have done:∀t,TB f a5 t->SortedToK κ (arrOf t) a5.size->TJ (setPending t<|(pendingOf t).push (0,a5.size,0)):=λt a m=>⟨a.perm,a.failed,(i5 (·.push (0,a5.size,0)) a.pend),m⟩;rw[sortRuns'_eq];refine aBz (wpS_get ?_);dsimp only;simp only[B.size,l];refine aBz (wpS_mono (Q:=λr t=>r=(none,a5.size)/\TJ t) (aEk (I:=λx r t=>(x=0/\r=(none,0)/\TB f a5 t)\/(0<x/\r=(none,a5.size)/\TJ t)) (λx r t _ H I=>?step) (λr t I=>?fin)<|.inl ⟨rfl,rfl,B⟩) λr t ⟨e,D⟩=>?post)
 case step=>
  rcases I with⟨rfl,rfl,a⟩|⟨J,rfl,D⟩
  .show wpS _ _ _ _ (if 0>=a5.size then _ else _) _ t;rw[ib (by lia)];simp only[Nat.sub_zero,Nat.min_self,aEX];have fin:∀u,TB f a5 u->(pendingOf u).back?=none:=λu b=>by rw[b.pend];rfl
   refine aBz (HJ h h0 (aAh _) (by lia) a λn u b L o i=>?_);show wpS _ _ _ _ (if n<a5.size then _ else _) _ u;by_cases j:n<a5.size
   .rw[h9 j];refine aBz (wpS_lift<|aDD ⟨rfl,aBz (pW h h0 (aAh _) o b i λv k p=>?_)⟩);simp only[aDe,aAq,if_false];refine aBz (wpS_get ?_);rw[fin v k];exact aBz (wpS_modify<|aCm<|.inr ⟨aGK _,rfl,done v k p⟩)
   .rw[ib j];obtain rfl:n=a5.size:=by lia
    refine aBz (wpS_get ?_);rw[fin u b];exact aBz (wpS_modify<|aCm<|.inr ⟨aGK _,rfl,done u b i⟩)
  .show wpS _ _ _ _ (if a5.size>=a5.size then _ else _) _ t;rw[h9 (aAh _)];exact aCm ⟨rfl,D⟩
 case fin=>
  rcases I with⟨z,_⟩|⟨_,e,D⟩
  .lia
  .exact⟨e,D⟩
 case post=>
  subst e;refine aBz (wpS_mono (Q:=λr u=>u=t/\r=(none,())) (aEk (I:=λ_ r u=>u=t/\r=(none,())) (λ_ r u _ _ ⟨e,g⟩=>?istep) (λ_ _ z=>z) ⟨rfl,rfl⟩) λr u ⟨e,g⟩=>?ipost)
  case istep=>subst e g;refine aBz (wpS_get ?_);rw[h9 (by rw[D.2.2.1];exact aAh 1)];exact aCm ⟨rfl,rfl⟩
  case ipost=>subst e g;exact aCm (q _ D.1 D.2.1 D.2.2.2)
end
section
def kj (a:bb)(s d:a9):Prop:=∀b o,b≠a->s.heap.get? b=some o->d.heap.get? b=some o
def zT {P:Fin->a9->Prop}(q:s.heap.get? a=some (seqObj "list" vs.toArray n))(h0:KeysOf κ (pairsOf vs))(y:∀k,kj a s k->VS f A k κ)(t:2<=vs.length->∀k,kj a s k->∀{Q:SortKind->a9->Prop},Q (tupK f) k->ag (bc prog w) A (keyKind' vs.toArray) Q E k)(u:vs.length<64)(h:∀d:SortSt,(arrOf d).Perm (pairsOf vs)->SortedToK κ (arrOf d) (pairsOf vs).size->P (.done (.ret .none)) {s with heap:=sortedHeap s.heap a vs ((arrOf d).map (·.2))}):
  ag (bc prog w) A (Builtin.«list.sort» ⟨[.ref a],[]⟩) P E s:=by
 rw[list_sort_plain];have z:a<s.heap.objs.size:=aAf q;refine aAa (aEm q rfl ?_);refine aAa (listUpdate_at q rfl ?_);obtain⟨v,l⟩:∃v,(s.heap.update a<|aBI λ_=>#[]).get? a=some (seqObj "list" #[] v):=⟨_,get?_update_seq q _⟩;refine aAa (seqEpoch_at l rfl<|aAa<|aGg<|aAa<|wpAny_newList<|aAR ?_);have B:a≠(s.heap.update a<|aBI λ_=>#[]).objs.size:=by rw[Heap.size_update];exact aAm z
 have m:kj a s {s with heap:=((s.heap.update a<|aBI λ_=>#[]).push (seqObj "tuple" vs.toArray 0)).push (seqObj "list" #[] 0)}:=λb o C e=>aAc _ (aAc _<|(aAx _ _<|aBW C).trans e)
 have g:(((s.heap.update a<|aBI λ_=>#[]).push (seqObj "tuple" vs.toArray 0)).push (seqObj "list" #[] 0)).get? a=some (seqObj "list" #[] v):=aAc _ (aAc _ l);show ag (bc prog w) A _ P E {s with heap:=((s.heap.update a<|aBI λ_=>#[]).push (seqObj "tuple" vs.toArray 0)).push (seqObj "list" #[] 0)};dsimp only;have H:vs.toArray.size=vs.length:=by simp
 have p:=h;by_cases r:vs.toArray.size<2
 .rw[h9 r,h9 r];refine aAa (aAb ?_);rw[StateT.run_pure];refine aAa (aAb ?_);dsimp only;refine aAa (seqEpoch_at g rfl (aAa (listUpdate_at g rfl ?_ (hsz2:=by rw[Array.size_map];show(pairsOf vs).size<=_;rw[aEY,aFx];lia))));simp only[bne_self_eq_false,aAq,if_false];refine aAb (p (SortSt.mk' general' (vs.toArray.zip vs.toArray) #[] 7 none) (aGN _) λi j U I=>?_);have:i=j:=by rw[aEY]at I;lia
  subst this;exact KeyOrd.kle_refl _
 .rw[ib r,ib r];refine aAa (t (by lia) _ m ?_);refine aAa (aCs (lW f (κ:=κ) (y _ m) (a5:=pairsOf vs) (st:=SortSt.mk' (tupK f) (vs.toArray.zip vs.toArray) #[] 7 none) (Q:=λ_ d=>(arrOf d).Perm (pairsOf vs)/\failedOf d=none/\SortedToK κ (arrOf d) (pairsOf vs).size)
   h0 ⟨aGN _,rfl,rfl,rfl⟩ (by rw[aEY];lia) (by rw[aEY];exact u) λd J L N=>⟨J,L,N⟩) ?_ λ_ _ e=>e)
  rintro⟨⟨⟩,d⟩ Y ⟨rfl,x,O,T⟩;dsimp only;refine aAa (seqEpoch_at g rfl (aAa (listUpdate_at g rfl ?_ (hsz2:=by refine aAs (aEn<|(Array.size_map ..).trans (x.size_eq.trans<|aEY _)) ?_;rw[aFx];lia))));rw[O];simp only[bne_self_eq_false,aAq,if_false];exact aAb (p d x T)
end
end TS
namespace L2
open PySem PySem.Spec PyProof.Rows
abbrev yD:=Sum Int Str
def OB:yD->ae->Bool
 |.inl k,v=>Value.isInt k v
 |.inr x,v=>Value.isStrOf x v
def a2j (w:cp):yD->Int
 |.inl k=>hashInt k
 |.inr x=>hashStr w x
theorem A3:∀{k:yD} {v:ae},OB k v=true->(∃i t,k=aGy i/\v=aGO i t)\/(∃x t,k=aGz x/\v=Value.str x t)
 |.inl i,v,h=>by obtain⟨t,e⟩:=Value.isInt_shape (k:=i) (v:=v) h;exact .inl ⟨i,t,rfl,e⟩
 |.inr x,v,h=>by obtain⟨t,e⟩:=Value.isStrOf_shape (x:=x) (v:=v) h;exact .inr ⟨x,t,rfl,e⟩
def ZG (a b:Int):decide ((aGy a:yD)=aGy b)=(a==b):=by
 by_cases e:a=b
 .subst e;simp
 .have h:¬(aGy a:yD)=aGy b:=λq=>e (Sum.inl.inj q);rw[decide_eq_false h];exact(beq_eq_false_iff_ne.mpr e).symm
def bj (a b:Str):decide ((aGz a:yD)=aGz b)=decide (a=b):=by
 by_cases e:a=b
 .subst e;simp
 .have h:¬(aGz a:yD)=aGz b:=λq=>e (Sum.inr.inj q);rw[decide_eq_false h,decide_eq_false e]
def iy (a:Int)(b:Str):decide ((aGy a:yD)=aGz b)=false:=decide_eq_false (λq=>nomatch q)
def jk (a:Str)(b:Int):decide ((aGz a:yD)=aGy b)=false:=decide_eq_false (λq=>nomatch q)
def wG (prog:be)(w:cp):PySem.KeyKind prog w yD where
 is:=OB
 hash:=a2j w
 inj:=λv a b l g=>by
  rcases A3 l with⟨i,t,rfl,rfl⟩|⟨x,t,rfl,rfl⟩
  .rcases A3 g with⟨j,u,rfl,e⟩|⟨y,u,rfl,e⟩
   .injection e with d _;rw[d]
   .exact nomatch e
  .rcases A3 g with⟨j,u,rfl,e⟩|⟨y,u,rfl,e⟩
   .exact nomatch e
   .injection e with d _;rw[d]
 byValue:=λk v h=>by rcases A3 h with⟨i,t,rfl,rfl⟩|⟨x,t,rfl,rfl⟩<;>rfl
 pyHash:=λf h=>by
  rcases A3 f with⟨i,t,rfl,rfl⟩|⟨x,t,rfl,rfl⟩
  .exact wpAny_pyHash_int h
  .exact wpAny_pyHash_str h
 eqBool:=λm f h=>by
  rcases A3 m with⟨i,t,rfl,rfl⟩|⟨x,t,rfl,rfl⟩
  .rcases A3 f with⟨j,u,rfl,rfl⟩|⟨y,u,rfl,rfl⟩
   .rw[ZG]at h;exact wpAny_eqBool_int h
   .rw[iy]at h;exact aGr i t y u _ _ _ _ h
  .rcases A3 f with⟨j,u,rfl,rfl⟩|⟨y,u,rfl,rfl⟩
   .rw[jk]at h;exact aGs x t j u _ _ _ _ h
   .rw[bj]at h;exact wpAny_eqBool_str h
 «strs»:=λk x t v h=>by
  rcases A3 h with⟨i,u,rfl,e⟩|⟨y,u,rfl,e⟩
  .exact nomatch e
  .injection e with d _;subst d;cases v<;>rfl
def ZZ (prog:be)(w:cp)(k:yD)(v:ae):(wG prog w).is k v=OB k v:=rfl
inductive V where
 |non|bl (b:Bool)|int (i:Int)|str (x:Str)|byt (b:Array UInt8)|flt (b:UInt64)|ref (a:Addr)|ty (n:String)
 deriving DecidableEq
def RelV:V->ae->Prop
 |.non,u=>u=Value.none
 |.bl b,u=>u=aDk b
 |.int i,u=>∃t,u=aGO i t
 |.str x,u=>∃t,u=Value.str x t
 |.byt b,u=>∃t,u=Value.bytes b t
 |.flt b,u=>∃t,u=Value.float b t
 |.ref a,u=>u=aDJ a
 |.ty n,u=>u=aCt n
abbrev l8:List V->List ae->Prop:=Paired RelV
def l8.length {Y:List V}{a:List ae}(r:l8 Y a):Y.length=a.length:=Paired.length r
theorem l8.get:∀{Y:List V} {a:List ae} {i:Nat} {x:V},l8 Y a->Y[i]?=some x->∃u,a[i]?=some u/\RelV x u
 |_,_,_,_,.nil,e=>by simp at e
 |_,_,0,_,.cons r _,e=>by simp at e;subst e;exact⟨_,rfl,r⟩
 |_,_,i+1,x,.cons _ t,e=>by obtain⟨u,b,d⟩:=l8.get (i:=i) (x:=x) t (by simpa using e);exact⟨u,by simpa using b,d⟩
theorem l8.set (r:RelV x u):∀{Y:List V} {a:List ae} (i:Nat),l8 Y a->l8 (Y.set i x) (a.set i u)
 |_,_,_,.nil=>.nil
 |_,_,0,.cons _ t=>.cons r t
 |_,_,i+1,.cons q t=>.cons q (l8.set r i t)
theorem l8.append:∀{Y a:List V} {b ws:List ae},l8 Y b->l8 a ws->l8 (Y++a) (b++ws)
 |_,_,_,_,.nil,s=>s
 |_,_,_,_,.cons r t,s=>.cons r (l8.append t s)
theorem l8.take:∀{Y:List V} {a:List ae} (n:Nat),l8 Y a->l8 (Y.take n) (a.take n)
 |_,_,0,_=>.nil
 |_,_,_+1,.nil=>.nil
 |_,_,n+1,.cons r t=>.cons r (l8.take n t)
theorem l8.drop:∀{Y:List V} {a:List ae} (n:Nat),l8 Y a->l8 (Y.drop n) (a.drop n)
 |_,_,0,r=>r
 |_,_,_+1,.nil=>.nil
 |_,_,n+1,.cons _ t=>l8.drop n t
def xq:Option V->Option ae->Prop
 |some v,some u=>RelV v u
 |none,none=>True
 |_,_=>False
def KV {κ:Type}:List (κ×V)->List (κ×ae)->Prop:=Paired λ(p:κ×V) (q:κ×ae)=>p.1=q.1/\RelV p.2 q.2
def kV:yD->V
 |.inl i=>.int i
 |.inr x=>.str x
inductive HO where
 |lst (Y:List V)
 |tup (Y:List V)
 |dK (N:List (yD×V))|dT (N:List (List yD×V))
 |set (S:Int->Bool) (n:Nat)
 |ins (C dx:Addr) (fs:List (Str×V))
 |own (x:Addr)
 |xd (fs:List (Str×V))
 |met (f x:Addr)
 |rng (lo hi:Int)
 |frz (o:Obj) (u:HO)
 |tbl (tb:List (Pos×Str))
 |ext (φ:Heap->Prop)
abbrev Hp:=bb->Option HO
def upd (H:Hp)(a:bb)(o:HO):Hp:=λb=>if b=a then some o else H b
def j3:upd H a o a=some o:=by unfold upd;rw[h9 rfl]
def k9 (h:b≠a):upd H a o b=H b:=by unfold upd;rw[ib h]
def t5 {H:Hp}{a b:bb}{o:HO}(h:H a=some o)(h':H b=none):a≠b:=by intro e;subst e;rw[h]at h';cases h'
section
variable(P:be) (w:cp)
def ObjOk (H:Hp)(h:cq)(a:bb):HO->Prop
 |.lst Y=>Y.length<=sizeLine/\∃(b:List ae) (n:Nat),l8 Y b/\h.get? a=some {cls:=.type "list",data:=.seq b.toArray n}
 |.tup Y=>Y.length<=sizeLine/\∃b:List ae,l8 Y b/\IsTup h a b.toArray
 |.dK N=>N.length<=sizeLine/\(a==sysModules)=false/\∃e,KV N e/\h.DictOf (wG P w) a e
 |.dT N=>N.length<=sizeLine/\(a==sysModules)=false/\∃Y:List (List yD×bb×ae),
  Paired (λ(p:List yD×V) (q:List yD×bb×ae)=>p.1=q.1/\H q.2.1=some (.tup (p.1.map kV))/\RelV p.2 q.2.2) N Y/\
  ∃o j r,h.get? a=some o/\o.ExactDict/\o.data=.dict j r/\j.toList=Y.map (entryOfKey<|tupleKind<|wG P w)/\(Y.map (·.1)).Nodup
 |.set S n=>h.SetOf (intKind P w) a S n
 |.ins C g fs=>H g=some (.own a)/\fs.length<=1000/\g≠a/\h.get? a=some (PySem.W.instObj C g)/\
  ∃d,h.Ns1 g d/\(∀f,xq (fs.lookup f) (d f))/\PySem.Within d (fs.map (·.1))
 |.own _=>∃o,h.get? a=some o
 |.xd fs=>∃d,h.Ns1 a d/\∀f,xq (fs.lookup f) (d f)
 |.rng lo s=>∃t u v,h.get? a=some {cls:=.type "range",data:=.fields #[.int lo t,.int s u,.int 1 v]}
 |.frz o u=>h.get? a=some o/\ObjOk H h a u
 |.tbl y=>∃i:Array ae,h.get? a=some {cls:=.none,data:=.fields i}/\TriplesOk i.toList/\∀p∈y,eY p.1 i.toList=none\/∃c k e t,eY p.1 i.toList=some (.ref c)/\H c=some (.frz k (.own c))/\k.data=.fields e/\e[1]?=some (.str p.2 t)
 |.met f x=>h.get? a=some (PySem.W.methodObj (.ref f)<|.ref x)
 |.ext φ=>φ h/\(∃o,h.get? a=some o)/\∀l m:cq,φ l->(∀o,l.get? a=some o->m.get? a=some o)->φ m
def XG:HO->Prop
 |.tup _=>True
 |.frz o _=>∃a,o.data=.fields a
 |_=>False
def fD (H:Hp)(h:cq):Prop:=∀a o,H a=some o->ObjOk P w H h a o
end
section
variable{P:be} {w:cp} {H H':Hp} {h h':cq} {a:bb} {o:HO}
def ObjOk.lt (x:ObjOk P w H h a o):a<h.objs.size:=by
 cases o with
 |lst Y=>obtain⟨_,_,_,_,e⟩:=x;exact aAf e
 |tup Y=>obtain⟨_,_,_,p⟩:=x;exact p.lt
 |dK N=>obtain⟨_,_,_,_,o,_,_,e,_⟩:=x;exact aAf e
 |dT N=>obtain⟨_,_,_,_,o,_,_,e,_⟩:=x;exact aAf e
 |set S n=>obtain⟨o,_,_,_,e,_⟩:=x;exact aAf e
 |ins C b fs=>obtain⟨_,_,_,e,_⟩:=x;exact aAf e
 |own y=>obtain⟨_,e⟩:=x;exact aAf e
 |xd fs=>obtain⟨_,⟨_,_,_,e,_⟩,_⟩:=x;exact aAf e
 |rng lo d=>obtain⟨_,_,_,e⟩:=x;exact aAf e
 |frz g u=>obtain⟨e,_⟩:=x;exact aAf e
 |tbl i=>obtain⟨_,e,_⟩:=x;exact aAf e
 |met f y=>exact aAf (show h.get? a=some _ from x)
 |ext φ=>obtain⟨_,⟨_,e⟩,_⟩:=x;exact aAf e
theorem Paired.af5 {α β:Type}{F G:α->β->Prop}:∀{l₁:List α} {l₂:List β},Paired F l₁ l₂->(∀a b,F a b->G a b)->Paired G l₁ l₂
 |_,_,.nil,_=>.nil
 |_,_,.cons r t,f=>.cons (f _ _ r) (Paired.af5 t f)
def ObjOk.ab8 (x:ObjOk P w H h a o)(k:∀b u,(b=a\/H b=some (.own a))->h.get? b=some u->h'.get? b=some u)
  (J:∀b,H b=some (.own a)->H' b=some (.own a)) (E:∀b u,XG u->H b=some u->H' b=some u):ObjOk P w H' h' a o:=by
 induction o with
 |lst Y=>obtain⟨z,l,n,r,e⟩:=x;exact⟨z,l,n,r,k _ _ (.inl rfl) e⟩
 |tup Y=>obtain⟨z,l,r,g,e,c⟩:=x;exact⟨z,l,r,g,k _ _ (.inl rfl) e,c⟩
 |dK N=>obtain⟨z,y,m,r,g,i,j,e,c⟩:=x;exact⟨z,y,m,r,g,i,j,k _ _ (.inl rfl) e,c⟩
 |dT N=>obtain⟨z,y,Y,r,g,i,j,e,c⟩:=x;exact⟨z,y,Y,Paired.af5 r λp q z=>⟨z.1,E _ _ trivial z.2.1,z.2.2⟩,g,i,j,k _ _ (.inl rfl) e,c⟩
 |set S n=>obtain⟨g,i,j,t,e,c⟩:=x;exact⟨g,i,j,t,k _ _ (.inl rfl) e,c⟩
 |ins C dx fs=>obtain⟨d,z,ne,e,s,⟨A,i,j,B,c⟩,r⟩:=x;exact⟨J _ d,z,ne,k _ _ (.inl rfl) e,s,⟨A,i,j,k _ _ (.inr d) B,c⟩,r⟩
 |own y=>obtain⟨g,e⟩:=x;exact⟨g,k _ _ (.inl rfl) e⟩
 |xd fs=>obtain⟨s,⟨A,i,j,e,c⟩,r⟩:=x;exact⟨s,⟨A,i,j,k _ _ (.inl rfl) e,c⟩,r⟩
 |rng lo hi=>obtain⟨t,u,v,e⟩:=x;exact⟨t,u,v,k _ _ (.inl rfl) e⟩
 |frz g u L=>obtain⟨e,q⟩:=x;exact⟨k _ _ (.inl rfl) e,L q⟩
 |tbl tb=>obtain⟨O,e,t,f⟩:=x;exact⟨O,k a _ (.inl rfl) e,t,λp Q=>(f p Q).imp id λ⟨c,T,m,t,U,B,I⟩=>⟨c,T,m,t,U,E _ _ ⟨m,I.1⟩ B,I⟩⟩
 |met f y=>have e:h.get? a=some (PySem.W.methodObj (.ref f)<|.ref y):=x;show h'.get? a=some (PySem.W.methodObj (.ref f)<|.ref y);exact k a _ (.inl rfl) e
 |ext φ=>obtain⟨p,⟨o,e⟩,st⟩:=x;exact⟨st _ _ p λo q=>k _ _ (.inl rfl) q,⟨o,k _ _ (.inl rfl) e⟩,st⟩
def fD.lt (x:fD P w H h)(e:H a=some o):a<h.objs.size:=(x a o e).lt
def fD.fresh (x:fD P w H h)(e:h.objs.size<=a):H a=none:=by
 cases q:H a with
 |none=>rfl
 |some u=>exact absurd (aAw (x.lt q) e) (aBf _)
def fD.kept (x:fD P w H h)(k:∀b u,h.get? b=some u->h'.get? b=some u):fD P w H h':=λa o e=>(x a o e).ab8 (λb u _ q=>k b u q) (λ_ q=>q) λ_ _ _ q=>q
def fD.laid (x:fD P w H h)(k:∀b u,h.get? b=some u->h'.get? b=some u)(i:h.objs.size<=a)(d:ObjOk P w (upd H a o) h' a o):fD P w (upd H a o) h':=λb u e=>by
 have f:=x.fresh i;by_cases g:b=a
 .subst g;rw[j3]at e;cases e;exact d
 .rw[k9 g]at e;exact(x b u e).ab8 (λc v _ q=>k c v q) (λc q=>by rw[k9 (t5 q f)];exact q) λc Y _ q=>by rw[k9 (t5 q f)];exact q
end
def Rd (H:Hp)(a:bb)(u:HO):Prop:=H a=some u\/∃o,H a=some (.frz o u)
def Rd.ok (r:Rd H a u)(x:fD P w H h):ObjOk P w H h a u:=by
 rcases r with r|⟨o,r⟩
 .exact x a u r
 .obtain⟨_,q⟩:=x a _ r;exact q
def Mut:Option HO->Prop
 |some (.lst _)=>True
 |some (.dK _)=>True
 |some (.dT _)=>True
 |some (.set _ _)=>True
 |some (.ins _ _ _)=>True
 |some (.ext _)=>True
 |_=>False
section
variable{P:be} {w:cp} {H:Hp} {h h':cq} {x e:bb} {o':HO}
def fD.write (ok:fD P w H h)(g:Mut (H x))(o:e=x\/H e=some (.own x))(k:∀b u,b≠e->h.get? b=some u->h'.get? b=some u)(m:∃u,h'.get? e=some u)
  (n:ObjOk P w (upd H x o') h' x o'):fD P w (upd H x o') h':=λb u q=>by
 have a:∀c y,H c=some (.own y)->c≠x:=λc y r z=>by subst z;rw[r]at g;exact g
 have d:∀c u,XG u->H c=some u->c≠x:=λc u f r z=>by subst z;rw[r]at g;cases u<;>first|exact g|exact f
 by_cases i:b=x
 .subst i;rw[j3]at q;cases q;exact n
 .rw[k9 i]at q;by_cases j:b=e
  .have p:H b=some (.own x):=by
    rcases o with z|z
    .exact absurd (j.trans z) i
    .rw[j];exact z
   rw[q]at p;cases p;obtain⟨v,s⟩:=m;exact⟨v,by rw[j];exact s⟩
  .refine(ok b u q).ab8 (λc v l r=>k c v ?_ r) (λc r=>by rw[k9 (a c b r)];exact r) λc Y f r=>by rw[k9 (d c Y f r)];exact r
   rcases l with rfl|l
   .exact j
   .rintro rfl;rcases o with z|z
    .exact a c b l z
    .rw[l]at z;cases z;exact i rfl
end
structure Un (fs ex:List Addr)(H H':Hp)(h h':Heap):Prop where
 keep:∀b o,h.get? b=some o->H b=none->b∉fs->b∉ex->h'.get? b=some o
 slot:∀b o,h.get? b=some o->H b=none->b∈fs->b∉ex->∃sl,h'.get? b=some {o with slots:=sl}
 free:∀b o,h.get? b=some o->H b=none->b∉ex->H' b=none
 there:∀b o,h.get? b=some o->b∉ex->∃o',h'.get? b=some o'
 tups:∀b Y,H b=some (.tup Y)->H' b=some (.tup Y)
 frzs:∀b o u,H b=some (.frz o u)->H' b=some (.frz o u)
 tbls:∀b tb,H b=some (.tbl tb)->H' b=some (.tbl tb)
section
variable{fs yi ex ex':List bb} {H H1 H2:Hp} {h h1 h2 h':cq} {a x e:bb} {o:HO}
def Un.any (u:Un fs ex H H1 h h1)(q:h.get? b=some d)(n:H b=none)(f:b∉ex):∃sl,h1.get? b=some {d with slots:=sl}:=by
 by_cases g:b∈fs
 .exact u.slot b d q n g f
 .exact⟨d.slots,u.keep b d q n g f⟩
def Un.kept (k:∀b u,h.get? b=some u->h'.get? b=some u):Un fs ex H H h h':=
 ⟨λb d q _ _ _=>k b d q,λb d q _ _ _=>⟨d.slots,k b d q⟩,λ_ _ _ n _=>n,λb d q _=>⟨d,k b d q⟩,λ_ _ q=>q,λ_ _ _ q=>q,λ_ _ q=>q⟩
def Un.refl:Un fs ex H H h h:=Un.kept λ_ _ q=>q
def Un.laid (k:∀b u,h.get? b=some u->h'.get? b=some u)(f:h.objs.size<=a)(d:H a=none):Un fs ex H (upd H a o) h h' where
 keep:=λb u q _ _ _=>k b u q
 slot:=λb u q _ _ _=>⟨u.slots,k b u q⟩
 free:=λb u q n _=>by rw[k9 (aAm<|aAw (aAf q) f)];exact n
 there:=λb u q _=>⟨u,k b u q⟩
 tups:=λb Y q=>by rw[k9 (t5 q d)];exact q
 frzs:=λb u Y q=>by rw[k9 (t5 q d)];exact q
 tbls:=λb g q=>by rw[k9 (t5 q d)];exact q
def Un.write (d:Mut (H x))(m:e=x\/H e=some (.own x))(k:∀b u,b≠e->h.get? b=some u->h'.get? b=some u)(f:∃u,h'.get? e=some u):Un fs ex H (upd H x o) h h':=by
 have i:∀b,H b=none->b≠x:=λb n z=>by subst z;rw[n]at d;exact d
 have j:∀b,H b=none->b≠e:=λb n z=>by
  subst z;rcases m with r|r
  .exact i b n r
  .rw[n]at r;cases r
 have g:∀b u,H b=some u->¬Mut (some u)->b≠x:=λb u q p z=>by subst z;rw[q]at d;exact p d
 refine⟨λb u q n _ _=>k b u (j b n) q,λb u q n _ _=>⟨u.slots,k b u (j b n) q⟩,λb u q n _=>by rw[k9 (i b n)];exact n,λb u q _=>?_,
  λb Y q=>by rw[k9 (g b _ q λz=>z)];exact q,λb u Y q=>by rw[k9 (g b _ q λz=>z)];exact q,λb s q=>by rw[k9 (g b _ q λz=>z)];exact q⟩
 by_cases l:b=e
 .subst l;exact f
 .exact⟨u,k b u l q⟩
end
def trk (h:cq)(H:Hp):List bb:=(aBy h.objs.size).filter λa=>(H a).isSome
def rN (h:cq)(H:Hp):cq:=PySem.W.hideAll h (trk h H)
def JR (h:cq)(H:Hp):(rN h H).objs.size=h.objs.size:=PySem.W.hideAll_size _ _
def MY (e:h.get? b=some o)(n:H b=none):(rN h H).get? b=some o:=
 PySem.W.hideAll_get _ e λa=>by have q:(H b).isSome=true:=(aAK.mp a).2;rw[n]at q;simp at q
def WH (e:(rN h H).get? b=some o):h.get? b=some o/\H b=none:=by
 have a:h.get? b=some o:=PySem.W.of_hideAll (trk h H) e;refine⟨a,?_⟩;cases q:H b with
 |none=>rfl
 |some x=>have d:b∈trk h H:=aAK.mpr ⟨aCB.mpr (aAf a),by simp[q]⟩;have z:(rN h H).get? b=none:=PySem.W.hideAll_none (trk h H) d;rw[z]at e;cases e
def RN (g h:cq)(L:bb):List (bb×Obj):=(aBy h.objs.size).filterMap λa=>if a=L\/(g.get? a).isSome=true then none else(h.get? a).map λo=>(a,o)
def rest (g h:cq)(L d:bb):List (bb×Obj):=(RN g h L).filter λp=>decide (p.1≠d)
structure Mod (K:PySem.W.Frag)(mg:cH)(base:Heap):Prop where
 kin:K.In base
 glob:base.Ns mainGlobals mg
 blt:∃mb,base.Ns builtinsNs mb/\∀x:Str,x≠ "__name__"->mb x=bootBuiltins x
 nolimit:base.NoLimit
structure Cx where
 prog:Program
 w:World
 K:PySem.W.Frag
 mg:Str->Option Value
 base:Heap
 A:Around
 N:List Str
 s9:Shared
 H9:Hp
 env:Env
 outer:List Env
 stack:List Env
 ex:List Addr
 fn:Str->Bool
 calm:Bool
 pn:List (Addr×Obj)
 xe:Value->Shared->Prop
def wZ (l:List Env):List bb:=l.filterMap (·.frame)
abbrev Cx.fs (X:Cx):List bb:=wZ X.outer
def BN (sc:hH)(x:Str):Prop:=sc.names.lookup x=some .local\/sc.names.lookup x=some .cell\/sc.names.lookup x=some .free
def Loc (sc:hH)(x:Str):Prop:=sc.names.lookup x=some .local\/sc.names.lookup x=some .cell
def Look (env:Env)(h:cq)(m:cH)(x:Str)(u:ae):Prop:=
 (env.kindOf x=some .local/\m x=some u)\/((env.kindOf x=some .cell\/env.kindOf x=some .free)/\∃c,env.cells.lookup x=some c/\h.IsCell c (some u))
structure Cx.Ok (X:Cx):Prop where
 mod:Mod X.K X.mg X.base
 kind:X.env.scope.kind=.function
 glob:X.env.globals=mainGlobals
 blt:X.env.builtins=builtinsNs
 above:X.s9.heap.objs.size<=X.env.locals
 inj:∀x y c,X.env.cells.lookup x=some c->X.env.cells.lookup y=some c->x=y
 has:∀x,(X.env.kindOf x=some .cell\/X.env.kindOf x=some .free)->∃c,X.env.cells.lookup x=some c
 cab:∀x c,X.fn x=true->X.env.cells.lookup x=some c->X.s9.heap.objs.size<=c
 hd:X.calm=true->X.A.handled=none
 frames:X.A.frames=some X.stack
 stk:X.stack=X.outer\/(X.stack=X.env::X.outer/\X.env.frame=some X.env.locals)
 exf:∀b∈X.ex,b≠X.env.locals/\∀x c,X.env.cells.lookup x=some c->c≠b
 bs:∀b o,X.base.get? b=some o->X.s9.heap.get? b=some o/\X.H9 b=none
 bsz:X.base.objs.size<=X.s9.heap.objs.size
 noex:∀b o,X.base.get? b=some o->b∉X.ex
 exfs:∀b∈X.ex,b∉X.fs
 funs:X.s9.heap.FunFrames X.base X.outer
 frf:∀b∈X.fs,X.H9 b=none
structure Inv (X:Cx)(pins:N4)(σ:List (Option V))(H:Hp)(s:Shared):Prop where
 ok:X.Ok
 os:s.os=X.s9.os
 bare:AllBare s.gens
 base:Un X.fs X.ex X.H9 H X.s9.heap s.heap
 loc:∃m,s.heap.Ns X.env.locals m/\∀(i:Nat) (x:Str) (v:V),X.N[i]?=some x->σ[i]?=some (some v)->BN X.env.scope x->∃u,RelV v u/\Look X.env s.heap m x u
 cell:∀x c,X.env.cells.lookup x=some c->∃v,s.heap.IsCell c v
 free:H X.env.locals=none
 freeC:∀x c,X.env.cells.lookup x=some c->H c=none
 pin:∀p∈X.pn++pins,s.heap.get? p.1=some p.2/\H p.1=none/\p.1≠X.env.locals/\p.1∉X.fs/\∀v,p.2.data≠.cell v
 hok:fD X.prog X.w H s.heap
 len:σ.length=X.N.length
section
variable{X:Cx} {pins:N4} {σ:List (Option V)} {H H':Hp} {s:a9} {h':cq}
def Cx.Ok.nofr (ok:X.Ok)(e:X.base.get? b=some o):b∉X.fs:=λa=>by have:=(ok.funs.mem a).1;rw[e]at this;cases this
def Inv.bs (I:Inv X pins σ H s):∀b o,X.base.get? b=some o->s.heap.get? b=some o/\H b=none:=λb o e=>⟨I.base.keep b o (I.ok.bs b o e).1 (I.ok.bs b o e).2 (I.ok.nofr e) (I.ok.noex b o e),I.base.free b o (I.ok.bs b o e).1 (I.ok.bs b o e).2 (I.ok.noex b o e)⟩
def Inv.bk (I:Inv X pins σ H s):∀b o,X.base.get? b=some o->s.heap.get? b=some o:=λb o e=>(I.bs b o e).1
def Inv.mod (I:Inv X pins σ H s):Mod X.K X.mg X.base:=I.ok.mod
def Inv.kIn (I:Inv X pins σ H s):X.K.In s.heap:=I.ok.mod.kin.keeps I.bk
def Inv.lt (I:Inv X pins σ H s):X.env.locals<s.heap.objs.size:=let⟨_,a,_⟩:=I.loc;a.lt
def Inv.sz (I:Inv X pins σ H s):X.s9.heap.objs.size<=s.heap.objs.size:=aAs I.ok.above (aDx I.lt)
def Inv.ag2 (I:Inv X pins σ H s)(h:s.heap.objs.size<=a):a∉X.fs:=λb=>by obtain⟨_,o,d,_⟩:=I.ok.funs.mem b;exact absurd (aAw (aAf d)<|aAs I.sz h) (aBf _)
def Inv.cne (I:Inv X pins σ H s):∀x c,X.env.cells.lookup x=some c->c≠X.env.locals:=λx c e z=>by obtain⟨v,o,a,b⟩:=I.cell x c e;obtain⟨m,⟨g,h,i,d,f,_⟩,_⟩:=I.loc;rw[z,d]at a;cases a;rw[f]at b;cases b
def Inv.funs (I:Inv X pins σ H s):s.heap.FunFrames X.base X.outer:=by
 have all:∀(l:List Env),(∀b∈wZ l,b∈X.fs)->X.s9.heap.FunFrames X.base l->s.heap.FunFrames X.base l:=by
  intro l;induction l with
  |nil=>intro _ _;trivial
  |cons h r i=>intro g j;obtain⟨k,⟨L,o,a,m,n,p⟩,q⟩:=j;have d:L∈X.fs:=g L (by unfold wZ;rw[aCF,a];exact aAN);obtain⟨t,e⟩:=I.base.slot L o n (I.ok.frf L d) d λz=>I.ok.exfs L z d;exact⟨k,⟨L,_,a,m,e,p⟩,i (λb f=>g b (by unfold wZ;rw[aCF,a];exact aAe _ f)) q⟩
 exact all X.outer (λ_ f=>f) I.ok.funs
def Inv.stack (I:Inv X pins σ H s):s.heap.FunFrames X.base X.stack:=by
 rcases I.ok.stk with e|⟨e,a⟩
 .rw[e];exact I.funs
 .rw[e];obtain⟨m,b,_⟩:=I.loc;refine .cons (by rw[I.ok.kind];decide) a b ?_ I.funs;exact aEy (aAs I.ok.bsz I.ok.above)
def Inv.ab5 (I:Inv X pins σ H s):∀b∈wZ X.stack,b∈X.env.locals::X.fs:=λb a=>by
 rcases I.ok.stk with e|⟨e,d⟩
 .rw[e]at a;exact aAe _ a
 .rw[e]at a;unfold wZ at a;rw[aCF,d]at a;exact a
def Inv.ad3 (I:Inv X pins σ H s):∀b∈wZ X.stack,H b=none:=λb a=>by
 rcases aAd.mp (I.ab5 b a)with e|a
 .rw[e];exact I.free
 .obtain⟨_,o,d,_⟩:=I.ok.funs.mem a;exact I.base.free b o d (I.ok.frf b a) λz=>I.ok.exfs b z a
def Inv.step {g':Array GenState}{t':Nat}{d':Drawn}{ch:List bb}(I:Inv X pins σ H s)
  (E:∀b∈ch,(b∈X.ex\/X.s9.heap.objs.size<=b)/\b≠X.env.locals/\(∀x c,X.env.cells.lookup x=some c->c≠b)/\∀p∈X.pn++pins,p.1≠b)
  (g:∀b o,b≠X.env.locals->b∉X.fs->b∉ch->s.heap.get? b=some o->H b=none->h'.get? b=some o)
  (slot:∀b o,b≠X.env.locals->b∈X.fs->b∉ch->s.heap.get? b=some o->H b=none->∃sl,h'.get? b=some {o with slots:=sl}) (f:∀b o,b∉ch->s.heap.get? b=some o->H b=none->H' b=none)
  (y:∀b o,b∉ch->s.heap.get? b=some o->∃J,h'.get? b=some J)
  (L:∀b Y,H b=some (.tup Y)->H' b=some (.tup Y)) (N:∀b o u,H b=some (.frz o u)->H' b=some (.frz o u)) (O:∀b tb,H b=some (.tbl tb)->H' b=some (.tbl tb))
  (ns:∀m,s.heap.Ns X.env.locals m->h'.Ns X.env.locals m) (T:fD X.prog X.w H' h') (hg:AllBare g'):
  Inv X pins σ H' {s with heap:=h',gens:=g',drawn:=d',toks:=t'}:=by
 have Q:∀b o,X.s9.heap.get? b=some o->b≠X.env.locals:=λb o e=>aAm (aAw (aAf e) I.ok.above);have t:∀b o,X.s9.heap.get? b=some o->b∉X.ex->b∉ch:=λb o e a A=>by
  rcases(E b A).1 with z|z
  .exact a z
  .exact absurd (aAw (aAf e) z) (aBf _)
 have h:∀x c,X.env.cells.lookup x=some c->∀v,s.heap.IsCell c v->h'.IsCell c v:=λx c e v ⟨o,C,U⟩=>by
  have j:c∉ch:=λz=>(E c z).2.2.1 x c e rfl;by_cases hc:c∈X.fs
  .obtain⟨sl,q⟩:=slot c o (I.cne x c e) hc j C (I.freeC x c e);exact⟨_,q,U⟩
  .exact⟨o,g c o (I.cne x c e) hc j C (I.freeC x c e),U⟩
 refine⟨I.ok,I.os,hg,⟨λb o e n A a=>?_,λb o e n A a=>?_,λb o e n a=>?_,λb o e a=>?_,λb Y e=>L b Y (I.base.tups b Y e),λb o Y e=>N b o Y (I.base.frzs b o Y e),λb ps e=>?_⟩,?_,λx c e=>?_,?_,λx c e=>?_,λp hp=>?_,T,I.len⟩
 .exact g b o (Q b o e) A (t b o e a) (I.base.keep b o e n A a) (I.base.free b o e n a)
 .obtain⟨sl,B⟩:=I.base.slot b o e n A a;obtain⟨sl',e2⟩:=slot b _ (Q b o e) A (t b o e a) B (I.base.free b o e n a);exact⟨sl',e2⟩
 .obtain⟨J,B⟩:=I.base.there b o e a;exact f b J (t b o e a) B (I.base.free b o e n a)
 .obtain⟨J,B⟩:=I.base.there b o e a;exact y b J (t b o e a) B
 .exact O b ps (I.base.tbls b ps e)
 .obtain⟨m,hn,hl⟩:=I.loc;refine⟨m,ns m hn,λi x v B e2 e3=>?_⟩;obtain⟨u,r,l⟩:=hl i x v B e2 e3;refine⟨u,r,?_⟩;rcases l with l|⟨k,c,e,z⟩
  .exact .inl l
  .exact .inr ⟨k,c,e,h x c e _ z⟩
 .obtain⟨v,z⟩:=I.cell x c e;exact⟨v,h x c e v z⟩
 .obtain⟨m,⟨o,_,_,C,_⟩,_⟩:=I.loc;exact f _ o (λz=>(E _ z).2.1 rfl) C I.free
 .obtain⟨v,o,C,U⟩:=I.cell x c e;exact f c o (λz=>(E c z).2.2.1 x c e rfl) C (I.freeC x c e)
 .obtain⟨e,n,ne,nf,d⟩:=I.pin p hp;have j:p.1∉ch:=λz=>(E p.1 z).2.2.2 p hp rfl;exact⟨g p.1 p.2 ne nf j e n,f p.1 p.2 j e n,ne,nf,d⟩
def Inv.un {t':Nat}(I:Inv X pins σ H s)(u:Un X.fs [] H H' s.heap h')(a:fD X.prog X.w H' h'):Inv X pins σ H' {s with heap:=h',toks:=t'}:=by
 obtain⟨m,⟨o,p,q,h,r⟩,_⟩:=id I.loc;obtain⟨t,j⟩:=u.any h I.free (by simp);exact I.step (g':=s.gens) (d':=s.drawn) (ch:=[]) (λ_ z=>nomatch z) (λb o _ d _ e n=>u.keep b o e n d (by simp)) (λb o _ d _ e n=>u.slot b o e n d (by simp)) (λb o _ e n=>u.free b o e n (by simp)) (λb o _ e=>u.there b o e (by simp)) u.tups u.frzs u.tbls (λv k=>by obtain⟨x,f,g,i,l⟩:=k;rw[h]at i;cases i;exact⟨_,f,g,j,l⟩) a I.bare
def Inv.call {g':Array GenState}{t':Nat}{d':Drawn}{ch:List bb}(I:Inv X pins σ H s)(u:Un (wZ X.stack) ch H H' s.heap h')(d:fD X.prog X.w H' h')(l:AllBare g')
  (i:∀b∈ch,(b∈X.ex\/X.s9.heap.objs.size<=b)/\b≠X.env.locals/\(∀x c,X.env.cells.lookup x=some c->c≠b)/\∀p∈X.pn++pins,p.1≠b):
  Inv X pins σ H' {s with heap:=h',gens:=g',drawn:=d',toks:=t'}:=by
 obtain⟨m,⟨o,y,A,j,r⟩,_⟩:=id I.loc;obtain⟨B,f⟩:=u.any j I.free λz=>(i _ z).2.1 rfl;exact I.step (ch:=ch) i (λb o f q a e n=>u.keep b o e n (λz=>(aAd.mp<|I.ab5 b z).elim f q) a) (λb o _ _ a e n=>u.any e n a) (λb o a e n=>u.free b o e n a) (λb o a e=>u.there b o e a) u.tups u.frzs u.tbls (λC t=>by obtain⟨E,g,h,k,v⟩:=t;rw[j]at k;cases k;exact⟨_,g,h,f,v⟩) d l
def Inv.turned {t':Nat}{it:bb}(I:Inv X pins σ H s)(k:∀b o,b≠it->s.heap.get? b=some o->h'.get? b=some o)(g:H it=none)(f:it≠X.env.locals)
  (h:it∈X.ex\/X.s9.heap.objs.size<=it) (i:∀x c,X.env.cells.lookup x=some c->c≠it) (j:∀p∈X.pn++pins,p.1≠it):Inv X pins σ H {s with heap:=h',toks:=t'}:=by
 have d:∀b u,H b=some u->b≠it:=λb u e z=>by rw[z,g]at e;cases e
 refine I.step (g':=s.gens) (d':=s.drawn) (ch:=[it]) (λb l=>?_) (λb o _ _ a e _=>k b o (λz=>a (by simp[z])) e) (λb o _ _ a e _=>⟨o.slots,k b o (λz=>a (by simp[z])) e⟩) (λ_ _ _ _ n=>n)
  (λb o a e=>⟨o,k b o (λz=>a (by simp[z])) e⟩) (λ_ _ e=>e) (λ_ _ _ e=>e) (λ_ _ e=>e) (λm t=>?_) (λb u e=>?_) I.bare
 .have e:b=it:=by simpa using l
  subst e;exact⟨h,f,i,j⟩
 .obtain⟨o,w,y,A,r⟩:=t;exact⟨o,w,y,k _ o (aBW f) A,r⟩
 .refine(I.hok b u e).ab8 (λc v a q=>k c v ?_ q) (λ_ q=>q) λ_ _ _ q=>q;rcases a with z|z
  .rw[z];exact d b u e
  .exact d c _ z
def Inv.tok (I:Inv X pins σ H s)(t:Nat):Inv X pins σ H {s with toks:=t}:=I.un (h':=s.heap) (t':=t) Un.refl I.hok
def Inv.kept (I:Inv X pins σ H s)(k:∀b u,s.heap.get? b=some u->h'.get? b=some u):Inv X pins σ H {s with heap:=h',toks:=t'}:=I.un (Un.kept k) (I.hok.kept k)
def Inv.laid (I:Inv X pins σ H s)(k:∀b u,s.heap.get? b=some u->h'.get? b=some u)(d:s.heap.objs.size<=a)(e:ObjOk X.prog X.w (upd H a o) h' a o):
 Inv X pins σ (upd H a o) {s with heap:=h',toks:=t'}:=I.un (Un.laid k d<|I.hok.fresh d) (I.hok.laid k d e)
def Inv.write (I:Inv X pins σ H s)(f:Mut (H x))(g:e=x\/H e=some (.own x))(k:∀b u,b≠e->s.heap.get? b=some u->h'.get? b=some u)(a:∃u,h'.get? e=some u)(d:ObjOk X.prog X.w (upd H x o) h' x o):Inv X pins σ (upd H x o) {s with heap:=h',toks:=t'}:=I.un (Un.write f g k a) (I.hok.write f g k a d)
def Inv.ad5 (I:Inv X pins σ H s)(h:∀p∈a,s.heap.get? p.1=some p.2/\H p.1=none/\p.1≠X.env.locals/\p.1∉X.fs/\∀v,p.2.data≠.cell v):Inv X a σ H s:=
 ⟨I.ok,I.os,I.bare,I.base,I.loc,I.cell,I.free,I.freeC,λp b=>(aAU.mp b).elim (λz=>I.pin p (aBs _ z)) (h p),I.hok,I.len⟩
def yX {N:List Str}(d:N.Nodup){i j:Nat}{x:Str}(a:N[i]?=some x)(b:N[j]?=some x):i=j:=by obtain⟨g,e⟩:=aAC.mp a;obtain⟨h,f⟩:=aAC.mp b;exact(List.getElem_inj d).mp (e.trans f.symm)
def sT {M:Model}{A:cf}{E:A4}{i:Nat}{x:Str}{v:V}{u:ae}{Q:Unit->a9->Prop}(I:Inv X pins σ H s)(hN:X.N.Nodup)(U:X.N[i]?=some x)(B:Loc X.env.scope x)(r:RelV v u)
  (h:∀s',Inv X pins (σ.set i (some v)) H s'->(∃a,Heap.SameBut a s.heap s'.heap/\(a=X.env.locals\/X.env.cells.lookup x=some a))->Q () s') (hf:X.fn x=true\/X.env.scope.names.lookup x=some .local:=by first|exact .inl rfl|exact .inr rfl|assumption):ag M A (storeName X.env x u) Q E s:=by
 obtain⟨m,hn,hl⟩:=id I.loc;have Y:(X.env.scope.kind==.class||(X.env.scope.kind==.module&&X.env.locals !=X.env.globals))=false:=by rw[I.ok.kind];rfl
 have J:i<σ.length:=by rw[I.len];exact(aAC.mp U).1
 have cne:=I.cne;have g:∀{a:bb} {h':cq},(∃o,s.heap.get? a=some o/\H a=none)->Heap.SameBut a s.heap h'->fD X.prog X.w H h':=λ{a h'} ha f b ob e=>by
  obtain⟨_,_,ko⟩:=ha;refine(I.hok b ob e).ab8 (λc w' t q=>(f.2 c ?_).trans q) (λ_ q=>q) λ_ _ _ q=>q;rintro rfl;rcases t with rfl|t
  .rw[ko]at e;cases e
  .rw[ko]at t;cases t
 rcases B with L|L
 .refine wpAny_storeName_local L hn (λh' hn' f=>?_) Y;obtain⟨oL,_,_,hoL,_⟩:=id hn;refine h _ ⟨I.ok,I.os,I.bare,⟨λb o e n O B=>?_,λb o e n O B=>?_,I.base.free,λb o e B=>?_,I.base.tups,I.base.frzs,I.base.tbls⟩,⟨_,hn',λj y v' l C e3=>?_⟩,λy c e=>?_,I.free,I.freeC,λp hp=>?_,g ⟨oL,hoL,I.free⟩ f,by simpa using I.len⟩ ⟨_,f,.inl rfl⟩
  .exact(f.2 b (aAm<|aAw (aAf e) I.ok.above)).trans (I.base.keep b o e n O B)
  .obtain⟨sl,l⟩:=I.base.slot b o e n O B;exact⟨sl,(f.2 b (aAm<|aAw (aAf e) I.ok.above)).trans l⟩
  .obtain⟨o',l⟩:=I.base.there b o e B;exact⟨o',(f.2 b (aAm<|aAw (aAf e) I.ok.above)).trans l⟩
  .by_cases T:j=i
   .subst T;rw[U]at l;cases l;rw[aBJ J]at C;cases C;exact⟨u,r,.inl ⟨L,by simp⟩⟩
   .rw[aCw (aBW T)]at C;obtain⟨u',r',q⟩:=hl j y v' l C e3;refine⟨u',r',?_⟩;rcases q with⟨k,e⟩|⟨k,c,e,z⟩
    .refine .inl ⟨k,?_⟩;have:y≠x:=λe=>T (yX hN l<|e▸U);simp[this,e]
    .exact .inr ⟨k,c,e,z.sameBut f (cne y c e)⟩
  .obtain⟨w',z⟩:=I.cell y c e;exact⟨w',z.sameBut f (cne y c e)⟩
  .obtain⟨e,n,ne,nf,d⟩:=I.pin p hp;exact⟨(f.2 p.1 ne).trans e,n,ne,nf,d⟩
 .have yn:X.fn x=true:=by
   rcases hf with z|z
   .exact z
   .rw[z]at L;cases L
  obtain⟨c,t⟩:=I.ok.has x (.inl L);obtain⟨w',z⟩:=I.cell x c t;refine wpAny_storeName_cell I.ok.kind L t z (λh' yo f=>?_);obtain⟨oc,bu,hocd⟩:=id z;refine h {s with heap:=h'} ⟨I.ok,I.os,I.bare,⟨λb o e n O B=>?_,λb o e n O B=>?_,I.base.free,λb o e B=>?_,I.base.tups,I.base.frzs,I.base.tbls⟩,⟨m,hn.sameBut f (aBW<|cne x c t),λj y v' l C e3=>?_⟩,λy c' e=>?_,I.free,I.freeC,λp hp=>?_,g ⟨oc,bu,I.freeC x c t⟩ f,by simpa using I.len⟩ ⟨c,f,.inr t⟩
  .exact(f.2 b (aAm<|aAw (aAf e)<|I.ok.cab x c yn t)).trans (I.base.keep b o e n O B)
  .obtain⟨sl,l⟩:=I.base.slot b o e n O B;exact⟨sl,(f.2 b (aAm<|aAw (aAf e)<|I.ok.cab x c yn t)).trans l⟩
  .obtain⟨o',l⟩:=I.base.there b o e B;exact⟨o',(f.2 b (aAm<|aAw (aAf e)<|I.ok.cab x c yn t)).trans l⟩
  .by_cases T:j=i
   .subst T;rw[U]at l;cases l;rw[aBJ J]at C;cases C;exact⟨u,r,.inr ⟨.inl L,c,t,yo⟩⟩
   .rw[aCw (aBW T)]at C;obtain⟨u',r',q⟩:=hl j y v' l C e3;refine⟨u',r',?_⟩;rcases q with q|⟨k,c',e,z'⟩
    .exact .inl q
    .refine .inr ⟨k,c',e,z'.sameBut f ?_⟩;rintro rfl;exact T (yX hN l<|I.ok.inj _ _ _ e t▸U)
  .by_cases hcc:c'=c
   .subst hcc;exact⟨_,yo⟩
   .obtain⟨w2,z2⟩:=I.cell y c' e;exact⟨w2,z2.sameBut f hcc⟩
  .obtain⟨e,n,ne,nf,d⟩:=I.pin p hp;refine⟨(f.2 p.1 ?_).trans e,n,ne,nf,d⟩;intro q;rw[q,bu]at e;have q':oc=p.2:=Option.some.inj e;exact d w' (by rw[<-q'];exact hocd)
def Q6 {E:A4}{Q:Unit->a9->Prop}(I:Inv X pins σ H s)(a:X.N.Nodup)(b:X.N[i]?=some x)(d:Loc X.env.scope x)(r:RelV v u)(h:∀s',Inv X pins (σ.set i (some v)) H s'->Q () s')(e:X.fn x=true\/X.env.scope.names.lookup x=some .local:=by first|exact .inl rfl|exact .inr rfl|assumption):ag M A (storeName X.env x u) Q E s:=
 sT I a b d r (λs' f _=>h s' f) e
def Inv.af9 (I:Inv X pins σ H s)(d:s'.os=s.os)(u:Un (wZ X.stack) ch H H' s.heap s'.heap)(a:fD X.prog X.w H' s'.heap)(f:AllBare s'.gens)(g:∀b∈ch,(b∈X.ex\/X.s9.heap.objs.size<=b)/\b≠X.env.locals/\(∀x c,X.env.cells.lookup x=some c->c≠b)/\∀p∈X.pn++pins,p.1≠b):Inv X pins σ H' s':=by obtain⟨h',g',d',t',h⟩:=s';have e:h=s.os:=d;subst e;exact I.call (g':=g') (t':=t') (d':=d') u a f g
end
abbrev XK:=ae->Option bb->Hp->Prop
abbrev St:=List (Option V)
abbrev VK:=V->Hp->Prop
abbrev TE:=St->Hp->VK->Prop
abbrev TT:=St->Hp->(Bool->Hp->Prop)->Prop
abbrev TA:=St->Hp->(List V->Hp->Prop)->Prop
structure Ends where
 nx:St->Hp->Prop
 rt:VK
 bk:St->Hp->Prop:=λ_ _=>False
 ct:St->Hp->Prop:=λ_ _=>False
abbrev TS:=Ends->St->Hp->Prop
def EP (X:Cx)(a:N4)(σ:St)(Q:VK)(u:ae)(s':a9):Prop:=∃v b,Inv X a σ b s'/\RelV v u/\Q v b
def TP (X:Cx)(a:N4)(σ:St)(Q:Bool->Hp->Prop)(b:Bool)(s':a9):Prop:=∃d,Inv X a σ d s'/\Q b d
def AP (X:Cx)(a:N4)(σ:St)(Q:List V->Hp->Prop)(e:List ae)(s':a9):Prop:=∃b d,Inv X a σ d s'/\l8 b e/\Q b d
def SP (X:Cx)(a:N4)(D:Ends)(f:Flow)(s':a9):Prop:=
 match f with
 |.next=>∃d b,Inv X a d b s'/\D.nx d b
 |.brk=>∃d b,Inv X a d b s'/\D.bk d b
 |.cont=>∃d b,Inv X a d b s'/\D.ct d b
 |.ret u=>∃v d b,Inv X a d b s'/\RelV v u/\D.rt v b
def PE (X:Cx)(e:cu)(t:TE):Prop:=
 ∀(a:N4) (s:a9) (σ:St) (H:Hp) (Q:VK),Inv X a σ H s->t σ H Q->ag (bc X.prog X.w) X.A (dm e X.env) (EP X a σ Q) X.xe s
def PT (X:Cx)(e:cu)(t:TT):Prop:=
 ∀(a:N4) (s:a9) (σ:St) (H:Hp) (Q:Bool->Hp->Prop),Inv X a σ H s->t σ H Q->ag (bc X.prog X.w) X.A (isTrue e X.env<|dm e X.env) (TP X a σ Q) X.xe s
def PW (X:Cx)(e:cu)(t:TT):Prop:=
 ∀(b:Sem ae) (a:N4) (s:a9) (σ:St) (H:Hp) (Q:Bool->Hp->Prop),Inv X a σ H s->t σ H Q->ag (bc X.prog X.w) X.A (isTrue e X.env b) (TP X a σ Q) X.xe s
def PW.pt (h:PW X e t):PT X e t:=h _
def PA (X:Cx)(es:List cu)(t:TA):Prop:=
 ∀(b:Pos) (a:N4) (s:a9) (σ:St) (H:Hp) (Q:List V->Hp->Prop),Inv X a σ H s->t σ H Q->ag (bc X.prog X.w) X.A (spliced<|cz b<|ar es X.env) (AP X a σ Q) X.xe s
def PS (X:Cx)(st:df)(t:TS):Prop:=
 ∀(a:N4) (s:a9) (σ:St) (H:Hp) (D:Ends),Inv X a σ H s->t D σ H->ag (bc X.prog X.w) X.A (exec st X.env) (SP X a D) X.xe s
def wE (X:Cx)(st:List df)(t:TS):Prop:=
 ∀(a:N4) (s:a9) (σ:St) (H:Hp) (D:Ends),Inv X a σ H s->t D σ H->ag (bc X.prog X.w) X.A (execs st X.env) (SP X a D) X.xe s
def F7 {α:Type}{t:Sem α}{Q b:α->a9->Prop}{M:Model}{A:cf}{E:A4}{s:a9}(h:ag M A t Q E s)(d:∀a s,Q a s->b a s):ag M A t b E s:=aCs h d λ_ _ x=>x
section
variable{X:Cx}
def qj (i:Nat):TE:=λσ H Q=>∃v,σ[i]?=some (some v)/\Q v H
def tC (v:V):TE:=λ_ H Q=>Q v H
def R6 (k:X.N[i]?=some x)(n:BN X.env.scope x)(f:(x==jh)=false:=by decide)(o:(x==ji)=false:=by decide):PE X (.Name x p) (qj i):=by
 intro d s σ H Q I h;obtain⟨v,e,h⟩:=h;obtain⟨m,q,t⟩:=I.loc;obtain⟨u,r,l⟩:=t i x v k e n;have a:EP X d σ Q u s:=⟨v,H,I,r,h⟩;rcases l with⟨b,w⟩|⟨b,c,g,j⟩
 .exact wpAny_Name (wpAny_loadName_local I.ok.kind b q w a) f
 .rcases b with b|b
  .exact wpAny_Name (wpAny_loadName_cell I.ok.kind b g j a) f
  .exact wpAny_Name (wpAny_loadName_free I.ok.kind b g j a o) f
def ZP {i j a}:PE X (.Constant (.int i) j a) (tC (.int i)):=λ_ _ _ H _ I h=>wpAny_Constant_int ⟨.int i,H,I.tok _,⟨_,rfl⟩,h⟩
def rq {b j a}:PE X (.Constant (.bool b) j a) (tC (.bl b)):=λ_ _ _ H _ I h=>Constant_bool ⟨.bl b,H,I,rfl,h⟩
def YG {j a}:PE X (.Constant .none j a) (tC .non):=λ_ _ _ H _ I h=>Constant_none ⟨.non,H,I,rfl,h⟩
def Gl (X:Cx)(x:Str):Prop:=X.env.kindOf x=some .globalImplicit
def wF {E:A4}{Q:A4}(I:Inv X a σ H s)(b:Gl X x)(d:X.mg x=some u)(h:Q u s)(e:(x==jh)=false:=by decide):ag (bc X.prog X.w) X.A (dm (.Name x f) X.env) Q E s:=
 Calls.Name_function_global I.ok.kind b (Calls.loadGlobal_global (by rw[I.ok.glob];exact I.mod.glob.keeps I.bk) d h) e
def M1 {E:A4}{Q:A4}(I:Inv X a σ H s)(b:Gl X x)(d:X.mg x=none)(e:cv x=some u)(h:Q u s)(f:x≠ "__name__":=by decide)(g:(x==jh)=false:=by decide):ag (bc X.prog X.w) X.A (dm (.Name x i) X.env) Q E s:=by obtain⟨l,j,k⟩:=I.mod.blt;exact Calls.Name_function_global I.ok.kind b (Calls.loadGlobal_builtin (by rw[I.ok.glob];exact I.mod.glob.keeps I.bk) d (by rw[I.ok.blt];exact j.keeps I.bk) ((k x f).trans e) h) g
def VY (a:Gl X x)(b:X.mg x=some u)(r:RelV v u)(d:(x==jh)=false:=by decide):PE X (.Name x e) (tC v):=
 λ_ _ _ H _ I h=>wF I a b ⟨v,H,I,r,h⟩ d
def VT (a:Gl X x)(b:X.mg x=none)(d:cv x=some u)(r:RelV v u)(e:x≠ "__name__":=by decide)(f:(x==jh)=false:=by decide):PE X (.Name x g) (tC v):=
 λ_ _ _ H _ I h=>M1 I a b d ⟨v,H,I,r,h⟩ e f
variable{a b:cu} {ta tb:TE} {pos:Pos}
def tB (t:TE):TT:=λσ H Q=>t σ H λx d=>∃c,x=.bl c/\Q c d
def XX {e:cu}{t:TE}(h:PE X e t)(g:∀whole,isTrue e X.env whole=(do let v<-whole;standAt e.pos;fg [v] (truthy v)):=by intro _;rfl):PT X e (tB t):=by intro f s σ H Q I i;refine isTrue_plain (F7 (h f s σ H _ I i) λv n ⟨x,j,k,l,m⟩=>?_) (g _);obtain⟨d,rfl,q⟩:=m;cases l;exact aBO ⟨j,k,q⟩
variable{tA tB':TT} {rest:List cu}
def a2k (t u:TT):TT:=λσ H Q=>t σ H λc d=>if c=true then u σ d Q else Q false d
def tOr (t u:TT):TT:=λσ H Q=>t σ H λc d=>if c=true then Q true d else u σ d Q
def a0y (t:TT):TT:=λσ H Q=>t σ H λc d=>Q (!c) d
def RW (f:PT X a tA):PW X (.BoolOp .And [a] pos) tA:=by
 intro g d s σ H Q I h;refine isTrue_and (F7 (f d s σ H Q I h) λc i e=>?_);cases c with
 |true=>exact isTrue_and_nil e
 |false=>exact e
def YU (f:PT X a tA):PW X (.BoolOp .Or [a] pos) tA:=by
 intro g d s σ H Q I h;refine isTrue_or (F7 (f d s σ H Q I h) λc i e=>?_);cases c with
 |false=>exact isTrue_or_nil e
 |true=>exact e
def ZS (i:PT X a tA)(j:PW X (.BoolOp .And (b::rest) pos) tB'):PW X (.BoolOp .And (a::b::rest) pos) (a2k tA tB'):=by
 intro k d s σ H Q I h;refine isTrue_and (F7 (i d s σ H _ I h) λc l ⟨e,f,g⟩=>?_);cases c with
 |true=>exact j k d l σ e Q f g
 |false=>exact⟨e,f,g⟩
def my (i:PT X a tA)(j:PW X (.BoolOp .Or (b::rest) pos) tB'):PW X (.BoolOp .Or (a::b::rest) pos) (tOr tA tB'):=by
 intro k d s σ H Q I h;refine isTrue_or (F7 (i d s σ H _ I h) λc l ⟨e,f,g⟩=>?_);cases c with
 |true=>exact⟨e,f,g⟩
 |false=>exact j k d l σ e Q f g
def gq (e:PT X a tA):PT X (.UnaryOp .Not a pos) (a0y tA):=by intro d s σ H Q I h;exact isTrue_not (e d s σ H (λc f=>Q (!c) f) I h)
end
def N2 (K:i6)(H:Hp)(a:bb)(Y:List V):Prop:=
 Rd H a (.lst Y)\/
  ∃(o:Obj) (b:Array ae) (n:Nat),K.lookup a=some o/\o.cls=.type "list"/\o.dict=none/\o.data=.seq b n/\b.size<=sizeLine/\l8 Y b.toList
def U4 (K:i6)(H:Hp)(a:bb)(Y:List V):Prop:=
 Rd H a (.tup Y)\/
  ∃(o:Obj) (b:Array ae) (n:Nat),K.lookup a=some o/\o.cls=.type "tuple"/\o.data=.seq b n/\b.size<=sizeLine/\l8 Y b.toList
def a1w:ae->Option V
 |.none=>some .non
 |.bool b=>some (.bl b)
 |.int i _=>some (.int i)
 |.str x _=>some (.str x)
 |.bytes b _=>some (.byt b)
 |.float b _=>some (.flt b)
 |.ref a=>some (.ref a)
 |.type n=>some (.ty n)
 |_=>none
def RelV.abs (r:RelV x u):a1w u=some x:=by
 cases x with
 |non=>cases r;rfl
 |bl _=>cases r;rfl
 |int _=>obtain⟨t,rfl⟩:=r;rfl
 |str _=>obtain⟨t,rfl⟩:=r;rfl
 |byt _=>obtain⟨t,rfl⟩:=r;rfl
 |flt _=>obtain⟨t,rfl⟩:=r;rfl
 |ref _=>cases r;rfl
 |ty _=>cases r;rfl
def RelV.inj {x y:V}{u:ae}(r:RelV x u)(q:RelV y u):x=y:=Option.some.inj (r.abs.symm.trans q.abs)
theorem l8.inj:∀{Y a:List V} {b:List ae},l8 Y b->l8 a b->Y=a
 |_,_,_,.nil,.nil=>rfl
 |_,_,_,.cons r t,.cons d e=>by rw[r.inj d,l8.inj t e]
section
variable{X:Cx} {pins:N4} {σ:St} {H:Hp} {s:a9} {a:bb} {Y ys:List V}
def N2.of {K:i6}(h:H a=some (.lst Y)):N2 K H a Y:=.inl (.inl h)
def U4.of {K:i6}(h:H a=some (.tup Y)):U4 K H a Y:=.inl (.inl h)
def Inv.list (I:Inv X pins σ H s)(h:N2 X.K H a Y):∃its:List ae,l8 Y its/\PlainL s.heap a its.toArray/\Y.length<=sizeLine:=by
 rcases h with h|⟨o,its,n,b,d,f,g,i,r⟩
 .obtain⟨z,its,n,r,e⟩:=h.ok I.hok;exact⟨its,r,⟨_,n,e,rfl,rfl,rfl⟩,z⟩
 .refine⟨its.toList,r,⟨o,n,I.kIn a o b,d,f,by simpa using g⟩,?_⟩;have e:=r.length;simp only[aBd]at e
  lia
def Inv.tuple (I:Inv X pins σ H s)(h:U4 X.K H a Y):∃its:List ae,l8 Y its/\IsTup s.heap a its.toArray/\Y.length<=sizeLine:=by
 rcases h with h|⟨o,its,n,b,d,f,g,r⟩
 .obtain⟨z,its,r,p⟩:=h.ok I.hok;exact⟨its,r,p,z⟩
 .refine⟨its.toList,r,⟨o,I.kIn a o b,d,n,by simpa using f⟩,?_⟩;have e:=r.length;simp only[aBd]at e
  lia
def Inv.ab3 (I:Inv X pins σ H s)(h:N2 X.K H a Y)(h':N2 X.K H a ys):Y=ys:=by
 obtain⟨f,r,⟨o,n,e,_,_,d⟩,_⟩:=I.list h;obtain⟨b,j,⟨l,m,g,_,_,i⟩,_⟩:=I.list h';rw[e]at g;cases g;rw[d]at i;injection i with k _;have:f=b:=by simpa using i5 aFU k
 subst this;exact r.inj j
def Inv.ab7 (I:Inv X pins σ H s)(h:U4 X.K H a Y)(h':U4 X.K H a ys):Y=ys:=by
 obtain⟨f,r,⟨o,e,_,n,d⟩,_⟩:=I.tuple h;obtain⟨b,j,⟨l,g,_,m,i⟩,_⟩:=I.tuple h';rw[e]at g;cases g;rw[d]at i;injection i with k _;have:f=b:=by simpa using i5 aFU k
 subst this;exact r.inj j
end
abbrev Cx.ac1 (X:Cx)(E:A4):Cx:={X with xe:=E}
abbrev Cx.nox (X:Cx):Cx:=X.ac1 λ_ _=>False
def Cx.Ok.ac1 {X:Cx}(ok:X.Ok)(E:A4):(X.ac1 E).Ok:=
 ⟨ok.mod,ok.kind,ok.glob,ok.blt,ok.above,ok.inj,ok.has,ok.cab,ok.hd,ok.frames,ok.stk,ok.exf,ok.bs,ok.bsz,ok.noex,ok.exfs,ok.funs,ok.frf⟩
def Cx.Ok.aa8 {X:Cx}{E:A4}(ok:(X.ac1 E).Ok):X.Ok:=
 ⟨ok.mod,ok.kind,ok.glob,ok.blt,ok.above,ok.inj,ok.has,ok.cab,ok.hd,ok.frames,ok.stk,ok.exf,ok.bs,ok.bsz,ok.noex,ok.exfs,ok.funs,ok.frf⟩
section
variable{X:Cx} {pins:N4} {σ:St} {H:Hp} {s:a9} {E:A4}
def Inv.ac1 (I:Inv X pins σ H s)(E:A4):Inv (X.ac1 E) pins σ H s:=⟨I.ok.ac1 E,I.os,I.bare,I.base,I.loc,I.cell,I.free,I.freeC,I.pin,I.hok,I.len⟩
def Inv.aa8 (I:Inv (X.ac1 E) pins σ H s):Inv X pins σ H s:=⟨I.ok.aa8,I.os,I.bare,I.base,I.loc,I.cell,I.free,I.freeC,I.pin,I.hok,I.len⟩
def SP.aa8 (h:SP (X.ac1 E) pins D f s'):SP X pins D f s':=by
 cases f with
 |next=>obtain⟨a,b,I,q⟩:=h;exact⟨a,b,I.aa8,q⟩
 |brk=>obtain⟨a,b,I,q⟩:=h;exact⟨a,b,I.aa8,q⟩
 |cont=>obtain⟨a,b,I,q⟩:=h;exact⟨a,b,I.aa8,q⟩
 |ret u=>obtain⟨v,a,b,I,r,q⟩:=h;exact⟨v,a,b,I.aa8,r,q⟩
def wE.nox {st:List df}{t:TS}(h:wE X.nox st t):wE X st t:=λpins s σ H D I a=>aCs (h pins s σ H D (I.ac1 _) a) (λ_ _ q=>q.aa8) λ_ _ z=>aAk z
end
section
variable{X:Cx} {st:df} {rest:List df} {t u:TS} {e:cu} {te:TE} {pos:Pos}
def yk:TS:=λD σ H=>D.nx σ H
def a1k (t u:TS):TS:=λD σ H=>t {D with nx:=u D} σ H
def VX:wE X [] yk:=λ_ _ σ H _ I h=>aEH ⟨σ,H,I,h⟩
def QG (b:PS X st t)(d:wE X rest u):wE X (st::rest) (a1k t u):=by
 intro a s σ H D I h;refine aEs (F7 (b a s σ H {D with nx:=u D} I h) λf g q=>?_);cases f with
 |next=>obtain⟨i,j,k,q⟩:=q;exact d a g i j D k q
 |ret v=>exact q
 |brk=>exact q
 |cont=>exact q
def FG (b:PS X st t):wE X [st] t:=by
 intro a s σ H D I h;refine aEs (F7 (b a s σ H D I h) λf d q=>?_);cases f with
 |next=>exact aEH q
 |ret v=>exact q
 |brk=>exact q
 |cont=>exact q
def Inv.quiet (I:Inv X a σ H s):interactive X.env=false:=by simp[interactive,I.ok.kind]
def nq (te:TE):TS:=λD σ H=>te σ H λ_ a=>D.nx σ a
def mS (b:PE X e te)(d:ek e none pos.line X.env=pure false:=by rfl):PS X (.Expr e pos) (nq te):=by intro a s σ H D I h;exact wpAny_Expr_any (F7 (b a s σ H _ I h) λv j ⟨x,f,g,k,i⟩=>⟨σ,f,g,i⟩) I.quiet d
def a1z (te:TE):TS:=λD σ H=>te σ H D.rt
def QN (b:PE X e te):PS X (.Return (some e) pos) (a1z te):=by intro a s σ H D I h;exact wpAny_Return_some (F7 (b a s σ H _ I h) λv j ⟨x,d,f,g,i⟩=>⟨x,σ,d,f,g,i⟩)
def a1q (c:TT)(t u:TS):TS:=λD σ H=>c σ H λb a=>if b=true then t D σ a else u D σ a
def tw {c:cu}{a b:List df}{g:TT}(m:PT X c g)(n:wE X a t)(o:wE X b u):PS X (.If c a b pos) (a1q g t u):=by
 intro f s σ H D I h;refine wpAny_If (F7 (m f s σ H _ I h) λd i ⟨j,k,l⟩=>?_);cases d with
 |true=>exact n f i σ j D k l
 |false=>exact o f i σ j D k l
def ZY:TS:=λ_ _ _=>False
def LY:PS X st ZY:=λ_ _ _ _ _ _ h=>h.elim
end
abbrev TG:=V->St->Hp->(St->Hp->Prop)->Prop
abbrev YM:=List V->St->Hp->(St->Hp->Prop)->Prop
def PG (X:Cx)(a:cu)(t:TG):Prop:=
 ∀(b:N4) (s:a9) (σ:St) (H:Hp) (v:V) (u:ae) (Q:St->Hp->Prop),Inv X b σ H s->RelV v u->t v σ H Q->
  ag (bc X.prog X.w) X.A (gv a X.env u) (λ_ f=>∃d e,Inv X b d e f/\Q d e) X.xe s
def jw (X:Cx)(g:List cu)(t:YM):Prop:=
 ∀(a:N4) (s:a9) (σ:St) (H:Hp) (b:List V) (d:List ae) (Q:St->Hp->Prop),Inv X a σ H s->l8 b d->t b σ H Q->
  ag (bc X.prog X.w) X.A (assignInOrder ((dq g X.env).map (·.2)) d) (λ_ h=>∃e f,Inv X a e f h/\Q e f) X.xe s
abbrev UA:=V->V->V->Hp->(Hp->Prop)->Prop
def YE (X:Cx)(t:UA):Prop:=
 ∀(a:N4) (s:a9) (σ:St) (H:Hp) (o i v:V) (b d u:ae) (Q:Hp->Prop),Inv X a σ H s->RelV o b->RelV i d->RelV v u->t o i v H Q->
  ag (bc X.prog X.w) X.A (setItem b d u) (λ_ f=>∃e,Inv X a σ e f/\Q e) X.xe s
section
variable{X:Cx} {pos:Pos}
def XT (i:Nat):TG:=λv σ H Q=>Q (σ.set i<|some v) H
def VD (b:X.N.Nodup)(d:X.N[i]?=some x)(e:Loc X.env.scope x)(f:X.fn x=true\/X.env.scope.names.lookup x=some .local:=by first|exact .inl rfl|exact .inr rfl|assumption):PG X (.Name x pos) (XT i):=by intro a s σ H v u Q I r h;exact wpAny_assign_Name (Q6 I b d e r (λj g=>⟨_,H,g,h⟩) f)
def a1r:YM:=λa σ H Q=>a=[]/\Q σ H
def sj (t:TG)(u:YM):YM:=λa σ H Q=>∃v r,a=v::r/\t v σ H λb d=>u r b d Q
def RO:jw X [] a1r:=by intro a s σ H b d Q I r h;obtain⟨e,h⟩:=h;subst e;cases r;exact assignInOrder_nil ⟨σ,H,I,h⟩
def OJ {e:cu}{es:List cu}{t:TG}{u:YM}(d:PG X e t)(f:jw X es u)
  (g:(dq (e::es) X.env).map (·.2)=gv e X.env::(dq es X.env).map (·.2):=by rfl):jw X (e::es) (sj t u):=by
 intro a s σ H o p Q I r h;obtain⟨v,q,i,h⟩:=h;subst i;cases r with
 |cons r j=>rw[g];refine aEZ (F7 (d a s σ H _ _ _ I r h) λ_ k ⟨b,l,m,n⟩=>?_);exact f a k b l _ _ Q m j n
def a2c (a b:TE)(t:UA):TG:=λv σ H Q=>a σ H λo d=>b σ d λi e=>t o i v e λf=>Q σ f
def NK {o i:cu}{e f:TE}{t:UA}(g:PE X o e)(j:PE X i f)(k:YE X t)
  (l:∀v,gv (.Subscript o i pos) X.env v=(do
   let b<-fg [v] (dm o X.env)
   let d<-fg [v,b] (dm i X.env)
   standAt pos
   fg [v,b,d] (setItem b d v)
   release [v,b,d] []):=by intro _;rfl):PG X (.Subscript o i pos) (a2c e f t):=by
 intro a s σ H v u Q I r h;rw[l];refine aAa (aAR<|F7 (g a s σ H _ I h) λb m ⟨x,n,p,q,w⟩=>?_);refine aAa (aAR<|F7 (j a m σ n _ p w) λd z ⟨y,A,B,C,E⟩=>?_);refine aAa (aEA<|aAa<|aAR<|F7 (k a z σ A x y v b d u _ B q C r E) λ_ O ⟨J,L,N⟩=>?_);exact wpAny_release ⟨σ,J,L,N⟩
def qy (a:TE)(g:TG):TS:=λD σ H=>a σ H λx b=>g x σ b D.nx
def AG {b e:cu}{d:TE}{g:TG}(f:PE X e d)(i:PG X b g)(j:gk [b] e pos.line X.env=pure false:=by rfl)(k:gm [b] e X.env=pure none:=by rfl)
  (l:(dq [b] X.env).map (·.2)=[gv b X.env]:=by rfl):PS X (.Assign [b] e pos) (qy d g):=by
 intro a s σ H D I h;refine wpAny_Assign_stores (F7 (f a s σ H _ I h) λv m ⟨x,n,o,p,r⟩=>?_) j k;rw[l];exact F7 (i a m σ n x v _ o p r) λ_ t q=>q
def OT {i:Nat}{x:Str}{e:cu}{d:TE}{a:Pos}(f:X.N.Nodup)(g:X.N[i]?=some x)(j:Loc X.env.scope x)(k:PE X e d)(l:ek e (some (.Name x a)) pos.line X.env=pure false:=by rfl)(m:X.fn x=true\/X.env.scope.names.lookup x=some .local:=by first|exact .inl rfl|exact .inr rfl|assumption):
  PS X (.Assign [.Name x a] e pos) (qy d (XT i)):=by
 intro b s σ H D I h;refine aFn (F7 (k b s σ H _ I h) λv t ⟨y,n,o,p,q⟩=>?_) l;exact Q6 o f g j p (λu r=>⟨_,n,r,q⟩) m
def a2h (i j:Nat)(ta:TA):TS:=λD σ H=>ta σ H λa b=>∃v w,a=[v,w]/\D.nx ((σ.set i<|some v).set j (some w)) b
def ZA {i j:Nat}{x y:Str}{a b:cu}{ta:TA}{l m pt:Pos}{n r zZ}(O:X.calm=true)(B:X.N.Nodup)(Q:X.N[i]?=some x)(T:X.N[j]?=some y)(U:i≠j)
  (C:X.env.scope.names.lookup x=some .local) (E:X.env.scope.names.lookup y=some .local) (Y:PA X [a,b] ta)
  (hw:gm [.Tuple [.Name x l,.Name y m] n pt] (.Tuple [a,b] r zZ) X.env=pure (some [x,y]))
  (hs:gk [.Tuple [.Name x l,.Name y m] n pt] (.Tuple [a,b] r zZ) pos.line X.env=pure false:=by rfl):
  PS X (.Assign [.Tuple [.Name x l,.Name y m] n pt] (.Tuple [a,b] r zZ) pos) (a2h i j ta):=by
 intro d s σ H D I h;rw[exec_Assign_arm];refine aAa (aEA ?_);rw[hs];refine aAa (aAb ?_);rw[ib (by decide)];refine aAa (Tuple_<|F7 (Y _ d s σ H _ I h) λus f ⟨vs,J,I1,r1,t⟩=>?_);obtain⟨v,w,e1,t⟩:=t;subst e1;obtain⟨g,k,rfl,rv,u⟩:∃g k,us=[g,k]/\RelV v g/\RelV w k:=by
  cases r1 with
  |cons p q=>
   cases q with
   |cons p' q'=>cases q';exact⟨_,_,rfl,p,p'⟩
 refine aBt ?_ (by show 2<=sizeLine;decide);have I2:Inv X d σ J {f with heap:=f.heap.push {cls:=.type "tuple",data:=.seq [g,k].toArray}}:=I1.kept (t':=f.toks) λb o e=>aAc _ e;rw[hw];refine aAa (aAb ?_);show ag (bc X.prog X.w) X.A (do rule "assign.swapped-stores";let items<-unpackItems (.ref f.heap.objs.size) 2 none;assignInOrder [λv=>bindName X.env y v,λv=>bindName X.env x v] items.reverse;pure Flow.next) _ _ _;refine aAa (aDD<|aAa<|unpackItems_tuple (items:=#[g,k]) (I.ok.hd O) (IsTup.new f.heap _) λh' z=>?_);have I3:=I2.kept (h':=h') (t':=f.toks) λb o e=>z b o (aAm<|aAf e) e;show ag _ _ (assignInOrder [λv=>bindName X.env y v,λv=>bindName X.env x v] [k,g]>>=λ_=>pure Flow.next) _ _ _;refine aAa (aEZ<|wpAny_bindName<|Q6 I3 B T (.inl E) u (λs2 I4=>?_)<|.inr E);refine aEZ (wpAny_bindName<|Q6 I4 B Q (.inl C) rv (λs3 L=>assignInOrder_nil (aAb ?_))<|.inr C);rw[List.set_comm _ _ (aBW U)]at L;exact⟨_,J,L,t⟩
end
section
variable{X:Cx} {pos:Pos}
def ik (c:TT)(tb:TS):TS:=λD σ H=>∃W:Nat->St->Hp->Prop,(∃m,W m σ H)/\∀m σ H,W m σ H->
 c σ H λb a=>if b=true then∃N:St->Hp->Prop,(∀d e,N d e->∃f,f<m/\W f d e)/\tb {D with nx:=N,ct:=N,bk:=D.nx} σ a else D.nx σ a
def OW {c:cu}{body:List df}{q:TT}{tb:TS}(r:PassesOwn (bc X.prog X.w) X.A X.env X.xe)(C:PT X c q)(E:wE X body tb):PS X (.While c body [] pos) (ik q tb):=by
 intro a s σ H D I h;obtain⟨W,⟨J,L⟩,turn⟩:=h;refine wpAny_While (codeAny_whileLoop (λn O=>∃t u,Inv X a t u O/\W n t u) ?_ J ⟨σ,H,I,L⟩);rintro n Q ⟨d,x,T,U⟩;refine aCX r (F7 (C a Q d x _ T<|turn n d x U) λb Y ⟨y,z,i⟩=>?_);cases b with
 |true=>
  obtain⟨N,B,i⟩:=i;rw[h9 rfl];refine aCX r (F7 (E a Y d y _ z i) λf s3 j=>?_);cases f with
  |next=>obtain⟨e,g,k,l⟩:=j;obtain⟨m,o,p⟩:=B e g l;exact⟨m,o,e,g,k,p⟩
  |cont=>obtain⟨e,g,k,l⟩:=j;obtain⟨m,o,p⟩:=B e g l;exact⟨m,o,e,g,k,p⟩
  |brk=>exact j
  |ret v=>exact j
 |false=>rw[ib aBb];exact aEH ⟨d,y,z,i⟩
end
structure It where
 go:Nat->Hp->Prop
 yld:Nat->Hp->V->Hp->Prop
 stop:Nat->Hp->Prop
def lV (X:Cx)(pins:N4)(H:Hp)(b:bb):Prop:=
 H b=none/\b≠X.env.locals/\b∉X.fs/\(b∈X.ex\/X.s9.heap.objs.size<=b)/\(∀x c,X.env.cells.lookup x=some c->c≠b)/\∀p∈X.pn++pins,p.1≠b
def Inv.ae9 (I:Inv X a σ H s)(d:s.heap.objs.size<=b)(f:H' b=none):lV X a H' b:=by
 refine⟨f,aDd (aAw I.lt d),I.ag2 d,.inr (aAs I.sz d),λx c e z=>?_,λp g z=>?_⟩
 .obtain⟨v,q⟩:=I.cell x c e;exact absurd (aAw q.lt (by rw[z];exact d)) (aBf _)
 .exact absurd (aAw (aAf (I.pin p g).1) (by rw[z];exact d)) (aBf _)
structure Turn (P:Program)(w:World)(K:PySem.W.Frag)(tg:Expr)(J:It)(fp:List Addr)(it:Addr)(tn:Nat->Heap->Prop):Prop where
 mem:it∈fp
 obj:∀i h,tn i h->∀b∈fp,∃o,h.get? b=some o/\∀v,o.data≠.cell v
 keep:∀i h h',tn i h->(∀b∈fp,∀o,h.get? b=some o->h'.get? b=some o)->tn i h'
 item:∀(X:Cx),X.prog=P->X.w=w->X.K=K->X.calm=true->∀(i:Nat) (pins:N4) (s:Shared) (σ:St) (H:Hp) (E:A4),Inv X pins σ H s->(∀b∈fp,lV X pins H b)->tn i s.heap->J.go i H->
  wpAny (model P w) X.A (pyNext (.ref it)) (λr s1=>∃u,r=some u/\
   wpAny (model P w) X.A (letOwnedTupleGo tg (.ref it) u) (λ_ s2=>∃x H',Inv X pins σ H' s2/\RelV x u/\J.yld i H x H'/\tn (i+1) s2.heap/\∀b∈fp,H' b=none) E s1) E s
 done:∀(X:Cx),X.prog=P->X.w=w->X.K=K->X.calm=true->∀(i:Nat) (pins:N4) (s:Shared) (σ:St) (H:Hp) (E:A4),Inv X pins σ H s->(∀b∈fp,lV X pins H b)->tn i s.heap->J.stop i H->
  wpAny (model P w) X.A (pyNext (.ref it)) (λr s1=>r=none/\Inv X pins σ H s1) E s
 self:∀(A:Around) (i:Nat) (s:Shared) (Q:A4) (E:A4),tn i s.heap->Q (.ref it) s->wpAny (model P w) A (pyIter (.ref it)) Q E s
abbrev TI:=St->Hp->(It->Hp->Prop)->Prop
def PIE (X:Cx)(a:N4)(σ:St)(j:cu)(R:It->Hp->Prop)(d:ae)(f:a9):Prop:=
 ∃(g:bb) (h:List bb) (i:Nat->cq->Prop) (J:It) (e:Hp),d=.ref g/\Inv X a σ e f/\Turn X.prog X.w X.K j J h g i/\i 0 f.heap/\(∀b∈h,lV X a e b)/\R J e
def PI (X:Cx)(b y7:cu)(d:TI):Prop:=
 ∀(a:N4) (s:a9) (σ:St) (H:Hp) (R:It->Hp->Prop),Inv X a σ H s->d σ H R->
  ag (bc X.prog X.w) X.A (dm y7 X.env) (λv e=>ag (bc X.prog X.w) X.A (pyIter v) (PIE X a σ b R) X.xe e) X.xe s
def KP {E : ae → a9 → Prop} {Q : Unit → a9 → Prop} (b : s.heap.get? it = some o) (d : o.cls = .type n) (e : o.data = .fields vs) (f : ["enumerate", "zip", "dict_itemiterator", "dict_reverseitemiterator", "odict_iterator", "itertools.zip_longest", "itertools.pairwise"].contains n = false) (a : Q () s) : ag M A (letOwnedTupleGo g (.ref it) u) Q E s := by
  unfold letOwnedTupleGo;cases g <;> first
    | exact aAb a
    | (cases u <;> first
        | exact aAb a
        | (refine aAa (wpAny_load b ?_)
           rw [d, e];show ag M A (if (["enumerate", "zip", "dict_itemiterator", "dict_reverseitemiterator", "odict_iterator", "itertools.zip_longest", "itertools.pairwise"].contains n && vs[0]? == some (eh _)) = true then _ else _) Q E s;rw [ib (by intro h; rw [f, Bool.false_and] at h; cases h)];exact aAb a))
def Itl (K:i6)(a:bb):It:=
 ⟨λi H=>∃Y x,N2 K H a Y/\Y[i]?=some x,λi H x b=>b=H/\∀Y,N2 K H a Y->Y[i]?=some x,λi H=>∃Y,N2 K H a Y/\Y.length<=i⟩
def Itt (K:i6)(a:bb):It:=
 ⟨λi H=>∃Y x,U4 K H a Y/\Y[i]?=some x,λi H x b=>b=H/\∀Y,U4 K H a Y->Y[i]?=some x,λi H=>∃Y,U4 K H a Y/\Y.length<=i⟩
def JK {P:be}{w:cp}{K:i6}{U:cu}(a it:bb):Turn P w K U (Itl K a) [it] it (λi h=>h.IsListIter it a i)where
 mem:=by simp
 obj:=λi h st b g=>by
  have e:b=it:=by simpa using g
  subst e;obtain⟨o,e,c,d⟩:=st;exact⟨o,e,λv z=>by rw[d]at z;cases z⟩
 keep:=λi h l st k=>st.at λo e=>k it (by simp) o e
 item:=by intro X q r t T i f s σ H E I m st y;subst q r t;obtain⟨Y,x,n,A⟩:=y;obtain⟨B,C,p,hz⟩:=I.list n;obtain⟨u,hu,ru⟩:=C.get A;obtain⟨J,L,f2,N,O,Q⟩:=m it (by simp);refine wpAny_pyNext_list_item st p.isList (x:=u) (by simpa using hu) λl j sb=>?_;have I1:Inv X f σ H {s with heap:=l}:=I.turned (t':=s.toks) (λb o g e=>(sb.2 b g).trans e) J L N O Q;obtain⟨o,e,c,d⟩:=id j;exact⟨u,rfl,KP (s:={s with heap:=l}) e c d (by decide) ⟨x,H,I1,ru,⟨rfl,λys hy=>by rw[I.ab3 hy n];exact A⟩,j,λb g=>(m b g).1⟩⟩
 done:=by intro X q r t T i f s σ H E I m st y;subst q r t;obtain⟨Y,n,A⟩:=y;obtain⟨B,C,p,hz⟩:=I.list n;obtain⟨J,L,f2,N,O,Q⟩:=m it (by simp);have hl:=C.length;exact wpAny_pyNext_list_end (I.ok.hd T) st p.isList (by simp;lia) λl eb=>⟨rfl,I.turned (t':=s.toks) (λb o g e=>eb b o g e) J L N O Q⟩
 self:=λ_ _ _ _ _ st h=>wpAny_pyIter_listiter st h
def AT {P:be}{w:cp}{K:i6}{U:cu}(a it:bb):Turn P w K U (Itt K a) [it] it (λi h=>h.IsTupleIter it a i)where
 mem:=by simp
 obj:=λi h st b g=>by
  have e:b=it:=by simpa using g
  subst e;obtain⟨o,e,c,d⟩:=st;exact⟨o,e,λv z=>by rw[d]at z;cases z⟩
 keep:=λi h m st k=>st.at λo e=>k it (by simp) o e
 item:=by intro X r t y T i f s σ H E I n st A;subst r t y;obtain⟨Y,x,q,B⟩:=A;obtain⟨j,C,p,hz⟩:=I.tuple q;obtain⟨u,hu,ru⟩:=C.get B;obtain⟨J,L,f2,N,O,Q⟩:=n it (by simp);refine wpAny_pyNext_tuple_item st (show s.heap.IsTuple a j.toArray from p) (x:=u) (by simpa using hu) λm l sb=>?_;have I1:Inv X f σ H {s with heap:=m}:=I.turned (t':=s.toks) (λb o g e=>(sb.2 b g).trans e) J L N O Q;obtain⟨o,e,c,d⟩:=id l;exact⟨u,rfl,KP (s:={s with heap:=m}) e c d (by decide) ⟨x,H,I1,ru,⟨rfl,λys hy=>by rw[I.ab7 hy q];exact B⟩,l,λb g=>(n b g).1⟩⟩
 done:=by intro X r t y T i f s σ H E I n st A;subst r t y;obtain⟨Y,q,B⟩:=A;obtain⟨j,C,p,hz⟩:=I.tuple q;obtain⟨J,L,f2,N,O,Q⟩:=n it (by simp);have hl:=C.length;exact wpAny_pyNext_tuple_end (I.ok.hd T) st (show s.heap.IsTuple a j.toArray from p) (by simp;lia) λm eb=>⟨rfl,I.turned (t':=s.toks) (λb o g e=>eb b o g e) J L N O Q⟩
 self:=λ_ _ _ _ _ st h=>wpAny_pyIter_tupleiter st h
section
variable{X:Cx} {tg:cu}
def zy (K:i6)(d:TE):TI:=λσ H R=>d σ H λx b=>∃a,x=.ref a/\(∃Y,N2 K b a Y)/\R (Itl K a) b
def a0u (K:i6)(d:TE):TI:=λσ H R=>d σ H λx b=>∃a,x=.ref a/\(∃Y,U4 K b a Y)/\R (Itt K a) b
def SJ (i:PE X l j):PI X tg l (zy X.K j):=by
 intro d s σ H R I h;refine F7 (i d s σ H _ I h) λv f ⟨x,k,g,m,n⟩=>?_;obtain⟨a,e,⟨Y,r⟩,q⟩:=n;subst e;cases m;obtain⟨t,w,p,y⟩:=g.list r;refine aDE p.isList ?_;refine⟨f.heap.objs.size,[f.heap.objs.size],_,_,k,rfl,g.kept (t':=f.toks) λb o e=>aAc _ e,JK a _,⟨_,aAp _ rfl,rfl,rfl⟩,λb u=>?_,q⟩;have e:b=f.heap.objs.size:=by simpa using u
 subst e;exact g.ae9 (aAh _) (g.hok.fresh<|aAh _)
def YQ {l:cu}{j:TE}(k:PE X l j):PI X tg l (a0u X.K j):=by
 intro d s σ H R I h;refine F7 (k d s σ H _ I h) λv f ⟨x,m,g,n,r⟩=>?_;obtain⟨a,e,⟨Y,t⟩,q⟩:=r;subst e;cases n;obtain⟨i,w,p,y⟩:=g.tuple t;refine wpAny_pyIter_tuple (show f.heap.IsTuple a i.toArray from p) ?_;refine⟨f.heap.objs.size,[f.heap.objs.size],_,_,m,rfl,g.kept (t':=f.toks) λb o e=>aAc _ e,AT a _,⟨_,aAp _ rfl,rfl,rfl⟩,λb u=>?_,q⟩;have e:b=f.heap.objs.size:=by simpa using u
 subst e;exact g.ae9 (aAh _) (g.hok.fresh<|aAh _)
def a0v (e:TI)(g:TG)(tb:TS):TS:=λD σ H=>e σ H λJ f=>∃W:Nat->Nat->St->Hp->Prop,(∃m,W 0 m σ f)/\∀i m σ H,W i m σ H->
 (J.stop i H/\D.nx σ H)\/(J.go i H/\∃N:St->Hp->Prop,(∀b a,N b a->∃d,d<m/\W (i+1) d b a)/\∀x a,J.yld i H x a->g x σ a λh j=>tb {D with nx:=N,ct:=N,bk:=D.nx} h j)
def qD (a:List bb)(h:cq):List (bb×Obj):=a.filterMap λb=>(h.get? b).map λo=>(b,o)
def bS (a:b∈d)(e:h.get? b=some o):(b,o)∈qD d h:=aCb.mpr ⟨b,a,by rw[e];rfl⟩
def JP (a:p∈qD d h):p.1∈d/\h.get? p.1=some p.2:=by
 obtain⟨b,f,e⟩:=aCb.mp a;cases q:h.get? b with
 |none=>rw[q]at e;cases e
 |some o=>rw[q]at e;have g:(b,o)=p:=Option.some.inj e;subst g;exact⟨f,q⟩
def Inv.pinned (I:Inv X a σ H s)(i:∀b∈f,lV X a H b)(j:∀b∈f,∃o,s.heap.get? b=some o/\∀v,o.data≠.cell v):Inv X (a++qD f s.heap) σ H s:=
 I.ad5 λp k=>(aAU.mp k).elim (λz=>I.pin p (aAG _ z)) λz=>by obtain⟨g,e⟩:=JP z;obtain⟨l,m,n,_⟩:=i p.1 g;obtain⟨o,h,d⟩:=j p.1 g;rw[e]at h;cases h;exact⟨e,l,m,n,d⟩
def Inv.ab4 (I:Inv X (a++d) σ H s):Inv X a σ H s:=I.ad5 λp b=>I.pin p (aAG _<|aBs _ b)
def jq (B:PassesOwn (bc X.prog X.w) X.A X.env X.xe)(hc:X.calm=true)(hi:PI X tg y7 wi)(hg:PG X tg g)(j:wE X body tb)(hs:∀x,et y7 X.env x=pure x:=by intro _;rfl):PS X (.For tg y7 body [] pos) (a0v wi g tb):=by
 intro a s σ H D I h;refine wpAny_For (F7 (hi a s σ H _ I h) λv s1 h1=>F7 h1 λitv s2 h2=>?_) hs;obtain⟨it,C,tn,J,H2,e,I2,T,ku,f2,W,⟨m0,w0⟩,turn⟩:=h2;subst e;have k:∀{t:Hp},(∀b∈C,t b=none)->∀b∈C,lV X a t b:=λhn b j=>⟨hn b j,(f2 b j).2⟩;refine codeAny_forLoop_any (λn s'=>∃i E t,Inv X a E t s'/\tn i s'.heap/\(∀b∈C,t b=none)/\W i n E t) ?_ m0 ⟨0,σ,H2,I2,ku,λb j=>(f2 b j).1,w0⟩;rintro n s3 ⟨i,L,Y,I3,O,Q,w3⟩;rcases turn i n L Y w3 with⟨stop,qn⟩|⟨go,N,hN,step⟩
 .refine aCX B (F7 (T.done X rfl rfl rfl hc i a s3 L Y X.xe I3 (k Q) O stop) λr s4 ⟨hr,I4⟩=>?_);subst hr;exact aEH ⟨L,Y,I4,qn⟩
 .refine aCX B (F7 (T.item X rfl rfl rfl hc i a s3 L Y X.xe I3 (k Q) O go) λr s4 ⟨u,hr,h4⟩=>?_);subst hr;refine aCX B (F7 h4 λ_ s5 ⟨x,H5,I5,r5,y5,z,fr5⟩=>?_);have I5':=I5.pinned (k fr5) (T.obj _ _ z);refine aCX B (F7 (hg _ s5 L H5 x u _ I5' r5<|step x H5 y5) λ_ s6 ⟨σ6,H6,I6,q6⟩=>?_);refine aCX B (F7 (j _ s6 σ6 H6 _ I6 q6) λf s7 y=>?_);have again:∀{l:St} {p:Hp},Inv X (a++qD C s5.heap) l p s7->N l p->∃m,m<n/\∃i E t,Inv X a E t s7/\tn i s7.heap/\(∀b∈C,t b=none)/\W i m E t:=λ{l p} q U=>by obtain⟨m',hm,w7⟩:=hN l p U;refine⟨m',hm,i+1,l,p,q.ab4,T.keep _ _ _ z λb j o e=>(q.pin (b,o)<|aAG _<|aAG _<|bS j e).1,λb j=>?_,w7⟩;obtain⟨o,e,d⟩:=T.obj _ _ z b j;exact(q.pin (b,o)<|aAG _<|aAG _<|bS j e).2.1
  cases f with
  |next=>obtain⟨l,p,q,U⟩:=y;exact again q U
  |cont=>obtain⟨l,p,q,U⟩:=y;exact again q U
  |brk=>obtain⟨l,p,q,y⟩:=y;exact⟨l,p,q.ab4,y⟩
  |ret v=>obtain⟨x7,l,p,q,r7,y⟩:=y;exact⟨x7,l,p,q.ab4,r7,y⟩
end
abbrev R2:=V->V->Hp->VK->Prop
def lS (X:Cx)(f:ae->ae->Sem ae)(r:R2):Prop:=
 ∀(a:N4) (s:a9) (σ:St) (H:Hp) (x y:V) (v u:ae) (Q:VK),Inv X a σ H s->RelV x v->RelV y u->r x y H Q->
  ag (bc X.prog X.w) X.A (f v u) (EP X a σ Q) X.xe s
def UnR (X:Cx)(f:ae->Sem ae)(r:V->Hp->VK->Prop):Prop:=
 ∀(a:N4) (s:a9) (σ:St) (H:Hp) (x:V) (v:ae) (Q:VK),Inv X a σ H s->RelV x v->r x H Q->
  ag (bc X.prog X.w) X.A (f v) (EP X a σ Q) X.xe s
def qC (X:Cx)(f:ae)(r:List V->Hp->VK->Prop):Prop:=
 ∀(a:N4) (s:a9) (σ:St) (H:Hp) (Y:List V) (b:List ae) (Q:VK),Inv X a σ H s->l8 Y b->r Y H Q->
  ag (bc X.prog X.w) X.A (call f b) (EP X a σ Q) X.xe s
def tUn (r:V->Hp->VK->Prop)(ta:TE):TE:=λσ H Q=>ta σ H λx a=>r x a Q
def rI (C:Int->Int->Prop)(g:Int->Int->V):R2:=λx y H Q=>∃i j,x=.int i/\y=.int j/\C i j/\Q (g i j) H
def XO (g:Int->Int->V):R2:=λx y H Q=>∃i j,x=.int i/\y=.int j/\Q (g i j) H
def rU (g:Int->V):V->Hp->VK->Prop:=λx H Q=>∃i,x=.int i/\Q (g i) H
section
variable{X:Cx} {a b c:cu} {ta tb tc:TE} {pos:Pos}
def MB (j:PE X a ta)(k:PE X b tb){d:N4}{s:a9}{σ:St}{H:Hp}{R:V->V->Hp->Prop}(I:Inv X d σ H s)
  (h:ta σ H λx i=>tb σ i λy e=>R x y e) {Q:A4} {f:ae->ae->Sem ae}
  (l:∀v u g x y e,Inv X d σ e g->RelV x v->RelV y u->R x y e->ag (bc X.prog X.w) X.A (f v u) Q X.xe g):
  ag (bc X.prog X.w) X.A (dm a X.env) (λv m=>ag (bc X.prog X.w) X.A (dm b X.env) (λu n=>ag (bc X.prog X.w) X.A (f v u) Q X.xe n) X.xe m) X.xe s:=by
 refine F7 (j d s σ H _ I h) λv o ⟨x,i,p,q,r⟩=>?_;refine F7 (k d o σ i _ p r) λu g ⟨y,e,t,z,B⟩=>?_;exact l v u g x y e t q z B
def tx {r:V->Hp->VK->Prop}(e:UnR X (unaryOp op) r)(f:PE X a ta):PE X (.UnaryOp op a pos) (tUn r ta):=by intro d s σ H Q I h;exact UnaryOp_ (F7 (f d s σ H _ I h) λv g ⟨x,i,j,k,l⟩=>e d g σ i x v Q j k l)
def opI {f:ae->ae->Sem ae}{C:Int->Int->Prop}{g:Int->Int->Int}
  (rule:∀(i j:Int) (t u:Tok) (s:a9) (Q:A4) (E:A4),C i j->Q (.int (g i j) s.toks) {s with toks:=s.toks+1}->ag (bc X.prog X.w) X.A (f (.int i t) (.int j u)) Q E s):
  lS X f (rI C λi j=>.int (g i j)):=by
 intro d s σ H x y v u Q I e k h;obtain⟨i,j,rfl,rfl,l,q⟩:=h;obtain⟨t,rfl⟩:=e;obtain⟨m,rfl⟩:=k;exact rule i j t m s _ _ l ⟨.int (g i j),H,I.tok _,⟨_,rfl⟩,q⟩
def zq {f:ae->ae->Sem ae}{g:Int->Int->Int}
  (rule:∀(i j:Int) (t u:Tok) (s:a9) (Q:A4) (E:A4),Q (.int (g i j) s.toks) {s with toks:=s.toks+1}->ag (bc X.prog X.w) X.A (f (.int i t) (.int j u)) Q E s):
  lS X f (XO λi j=>.int (g i j)):=by
 intro d s σ H x y v u Q I e k h;obtain⟨i,j,rfl,rfl,q⟩:=h;obtain⟨t,rfl⟩:=e;obtain⟨l,rfl⟩:=k;exact rule i j t l s _ _ ⟨.int (g i j),H,I.tok _,⟨_,rfl⟩,q⟩
def YR {f:ae->ae->Sem ae}{g:Int->Int->Bool}
  (rule:∀(i j:Int) (t u:Tok) (s:a9) (Q:A4) (E:A4),Q (.bool (g i j)) s->ag (bc X.prog X.w) X.A (f (.int i t) (.int j u)) Q E s):
  lS X f (XO λi j=>.bl (g i j)):=by
 intro d s σ H x y v u Q I e k h;obtain⟨i,j,rfl,rfl,q⟩:=h;obtain⟨t,rfl⟩:=e;obtain⟨l,rfl⟩:=k;exact rule i j t l s _ _ ⟨.bl (g i j),H,I,rfl,q⟩
def a1t (i j:Int):Prop:=0<=j/\j<=1000000/\i.natAbs<2^64
def ez:lS X (d3 .Add) (XO λi j=>.int (i+j)):=zq λ_ _ _ _ _ _ _ q=>add_int q
def YI:lS X (d3 .Sub) (XO λi j=>.int (i-j)):=zq λ_ _ _ _ _ _ _ q=>sub_int q
def RG:lS X (d3 .Mod) (rI (λ_ j=>j≠0) λi j=>.int (i.fmod j)):=opI λ_ _ _ _ _ _ _ d q=>mod_int' d q
def ZW:lS X (d3 .Pow) (rI a1t λi j=>.int (i^j.toNat)):=opI λ_ _ _ _ _ _ _ d q=>pow_int_small d.1 d.2.1 d.2.2 q
def unI {f:ae->Sem ae}{g:Int->Int}
  (rule:∀(i:Int) (t:Tok) (s:a9) (Q:A4) (E:A4),Q (.int (g i) s.toks) {s with toks:=s.toks+1}->ag (bc X.prog X.w) X.A (f (.int i t)) Q E s):
  UnR X f (rU λi=>.int (g i)):=by
 intro d s σ H x v Q I e h;obtain⟨i,rfl,q⟩:=h;obtain⟨t,rfl⟩:=e;exact rule i t s _ _ ⟨.int (g i),H,I.tok _,⟨_,rfl⟩,q⟩
def cw:UnR X (unaryOp .USub) (rU λi=>.int (-i)):=unI λ_ _ _ _ _ q=>neg_int q
end
section
variable{X:Cx} {a b c:cu} {ta tb tc:TE} {pos:Pos}
def fy (I:Inv X d σ H s)(q:Q (.bl k) H)(e:k=f):EP X d σ Q (.bool f) s:=by subst e;exact⟨.bl k,H,I,rfl,q⟩
def zw:lS X (dA .Lt) (XO λi j=>.bl (decide (i<j))):=YR λ_ _ _ _ _ _ _ q=>lt_int q
def oz:lS X (dA .LtE) (XO λi j=>.bl (decide (i<=j))):=YR λ_ _ _ _ _ _ _ q=>le_int q
def rj:lS X (dA .Gt) (XO λi j=>.bl (decide (j<i))):=YR λ_ _ _ _ _ _ _ q=>gt_int q
def bq:lS X (dA .Is) (λx y H Q=>y=.non/\Q (.bl (decide (x=.non))) H):=by
 intro d s σ H x y v u Q I e f h;obtain⟨rfl,q⟩:=h;cases f;refine is_none_gen (fy I q ?_);cases x<;>first
  |(cases e;rfl)
  |(obtain⟨t,rfl⟩:=e;rfl)
def MI (b:cu)(h:op≠.In:=by decide)(d:op≠.NotIn:=by decide):hF op b=false:=by
 have e:(op==CmpOp.In)=false:=by cases op<;>first|rfl|exact absurd rfl h
 have f:(op==CmpOp.NotIn)=false:=by cases op<;>first|rfl|exact absurd rfl d
 cases b<;>simp[hF,e,f]
def vD:(sizeLine:Nat)<2^63:=by rw[aFx];decide
def vals1 (r:l8 [x] d):∃u,d=[u]/\RelV x u:=by
 cases r with
 |cons e f=>cases f;exact⟨_,rfl,e⟩
def vals2 (r:l8 [x,y] e):∃u d,e=[u,d]/\RelV x u/\RelV y d:=by
 cases r with
 |cons f g=>
  cases g with
  |cons h i=>cases i;exact⟨_,_,rfl,f,h⟩
def KJ:qC X (.builtin "abs") (λY H Q=>∃i,Y=[.int i]/\Q (.int (if i<0 then-i else i)) H):=by intro d s σ H Y e Q I r h;obtain⟨i,rfl,q⟩:=h;obtain⟨u,rfl,t,rfl⟩:=vals1 r;exact call_abs_int λu f=>⟨.int (if i<0 then-i else i),H,I.tok _,⟨_,rfl⟩,q⟩
def IT (f:X.calm=true):qC X (.builtin "max") (λY H Q=>∃i j,Y=[.int i,.int j]/\Q (.int (if j>i then j else i)) H):=by
 intro e s σ H Y g Q I r h;obtain⟨i,j,rfl,q⟩:=h;obtain⟨u,l,rfl,⟨t,rfl⟩,⟨m,rfl⟩⟩:=vals2 r;refine max_two_ints (I.ok.hd f) λn o k=>⟨_,H,I.kept k,?_,q⟩;by_cases d:j>i
 .rw[h9 d,h9 d];exact⟨_,rfl⟩
 .rw[ib d,ib d];exact⟨_,rfl⟩
end
section
variable{prog:be} {w:cp} {A:cf} {E:A4} {s:a9} {K:i6} {x dx C f:bb} {mA:cH} {name:Str} {v:ae}
end
section
variable{P:be} {w:cp} {H H':Hp} {h h':cq} {a C dx:bb} {fs yi:List (Str×V)}
end
section
variable{X:Cx} {pins:N4} {σ:St} {H:Hp} {s:a9} {a C dx:bb} {fs:List (Str×V)} {f:Str} {v:V} {A:cf} {E:A4}
end
section
variable{X:Cx} {o e value:cu} {f:Str} {pos pos' tpos:Pos} {ta tv:TE}
end
section
variable{X:Cx} {pins:N4} {σ:St} {H:Hp} {s:a9} {A:cf} {E:A4} {Q:A4} {c:ae} {b:Bool}
end
structure Room (k:Nat)(A:Around):Prop where
 hd:A.handled=none
 dp:A.depth+3*k+5<recursionLimit
 un:A.units+16*k+200<cLine
def Room.mono (r:Room k A)(h:j<=k):Room j A:=⟨r.hd,by have:=r.dp;lia,by have:=r.un;lia⟩
def Room.deeper (r:Room (k+1) A)(env:Env):Room k (A.deeper env):=
 ⟨r.hd,by have:=r.dp;show A.depth+1+3*k+5<_;lia,by have:=r.un;show A.units+3+16*k+200<_;lia⟩
def Room.depth (r:Room k A):A.depth<recursionLimit:=by have:=r.dp;lia
def Room.units (r:Room k A):A.units+64<dg:=by have:=r.un;lia
def a1y:TA:=λ_ H Q=>Q [] H
def xz (ta:TE)(tr:TA):TA:=λσ H Q=>ta σ H λx a=>tr σ a λY b=>Q (x::Y) b
section
variable{X:Cx} {e:cu} {es:List cu} {te:TE} {t:TA} {pos:Pos}
def bJ:PA X [] a1y:=λ_ _ _ _ H Q I h=>aFo ⟨[],H,I,.nil,h⟩
def K3 (b:PE X e te)(d:PA X es t)(f:ar (e::es) X.env=(false,dm e X.env)::ar es X.env:=by rfl):PA X (e::es) (xz te t):=by intro pos a s σ H Q I h;rw[f];show ag _ _ (spliced ((false,dm e X.env)::cz pos (ar es X.env))) _ _ s;refine aFa (F7 (b a s σ H _ I h) λu g ⟨x,i,j,k,l⟩=>?_);exact F7 (d pos a g σ i _ j l) λq r ⟨Y,m,n,o,p⟩=>⟨x::Y,m,n,.cons k o,p⟩
def a2m (t:TA):TE:=λσ H Q=>t σ H λY a=>Y.length<=sizeLine/\∀p,a p=none->Q (.ref p) (upd a p<|.tup Y)
def a2e (t:TA):TE:=λσ H Q=>t σ H λY a=>Y.length<=sizeLine/\∀p,a p=none->Q (.ref p) (upd a p<|.lst Y)
def ZF {i}(h:PA X es t):PE X (.Tuple es i pos) (a2m t):=by intro a s σ H Q I j;refine wpAny_Tuple_spliced (F7 (h pos a s σ H _ I j) λk d ⟨Y,f,g,r,z,q⟩=>⟨by rw[<-r.length];exact z,?_⟩);have l:f d.heap.objs.size=none:=g.hok.fresh (aAh _);refine⟨.ref d.heap.objs.size,upd f d.heap.objs.size (.tup Y),g.laid (t':=d.toks) (λb u e=>aAc _ e) (aAh _) ?_,rfl,q _ l⟩;exact⟨z,k,r,⟨_,aAp _ rfl,rfl,_,rfl⟩⟩
def OQ (h:PA X es t):PE X (.List es pos) (a2e t):=by intro a s σ H Q I i;refine wpAny_List_spliced (F7 (h pos a s σ H _ I i) λj d ⟨Y,f,g,r,z,q⟩=>⟨by rw[<-r.length];exact z,?_⟩);have k:f d.heap.objs.size=none:=g.hok.fresh (aAh _);refine⟨.ref d.heap.objs.size,upd f d.heap.objs.size (.lst Y),g.laid (t':=d.toks) (λb u e=>aAc _ e) (aAh _) ?_,rfl,q _ k⟩;exact⟨z,j,0,r,aAp _ rfl⟩
end
abbrev Sp:=List V->Hp->VK->XK->Prop
abbrev RE:=List Env->Hp->a9->XK->ae->a9->Prop
structure Env0 (P:Program)(w:World)(K:PySem.W.Frag)(mg:cH)(base:Heap)(A:Around)(outer:List Env)(s:Shared)(H:Hp):Prop where
 frames:A.frames=some outer
 mod:Mod K mg base
 bs:∀b o,base.get? b=some o->s.heap.get? b=some o/\H b=none
 bsz:base.objs.size<=s.heap.objs.size
 funs:s.heap.FunFrames base outer
 frf:∀b∈wZ outer,H b=none
 hok:fD P w H s.heap
 bare:AllBare s.gens
def CE (a:List Env)(P:be)(w:cp)(H:Hp)(s:a9)(Q:VK)(u:ae)(s':a9):Prop:=
 ∃v b,s'.os=s.os/\AllBare s'.gens/\Un (wZ a) [] H b s.heap s'.heap/\fD P w b s'.heap/\RelV v u/\Q v b
def CR (b:RE)(a:List Env)(P:be)(w:cp)(H:Hp)(s:a9)(Q:VK)(E:XK)(r:Result)(s':a9):Prop:=
 match r with
 |.ok (.ret u)=>CE a P w H s Q u s'
 |.ok _=>False
 |.error e=>b a H s E e s'
structure FnOk (P:Program)(w:World)(K:PySem.W.Frag)(mg:cH)(base:Heap)(CX:RE)(k:Nat)(f:Addr)(fd:FuncData)(ps:List Str)(sp:Sp):Prop where
 len:∀vs H Q E,sp vs H Q E->vs.length=ps.length
 run:∀(A:Around) (outer:List Env) (s:Shared) (H:Hp) (args:Args) (us:List Value) (vs:List V) (Q:VK) (E:XK),Room k A->Env0 P w K mg base A outer s H->BindsTo s fd args (ps.zip us)->l8 vs us->sp vs H Q E->
  codeAny (model P w) A (.call (.ref f) args) (CR CX outer P w H s Q E) s
def FnOk.imp {P:be}{w:cp}{K:i6}{mg:cH}{base:cq}{e:RE}{k:Nat}{f:bb}{fd:dn}{ps:List Str}{g b:Sp}(F:FnOk P w K mg base e k f fd ps g)
  (h:∀vs H Q E,b vs H Q E->g vs H Q E):FnOk P w K mg base e k f fd ps b:=
 ⟨λvs H Q E q=>F.len vs H Q E (h _ _ _ _ q),λA a s H d i vs Q E j l m n o=>F.run A a s H d i vs Q E j l m n (h _ _ _ _ o)⟩
section
variable{X:Cx} {pins:N4} {σ:St} {H:Hp} {s s':a9}
def Inv.af4 (I:Inv X pins σ H s):Env0 X.prog X.w X.K X.mg X.base X.A X.stack s H:=
 ⟨I.ok.frames,I.ok.mod,I.bs,aAs I.ok.bsz I.sz,I.stack,I.ad3,I.hok,I.bare⟩
def Inv.after (I:Inv X pins σ H s)(h:CE X.stack X.prog X.w H s Q u s'):EP X pins σ Q u s':=by obtain⟨v,i,os,a,un,e,r,q⟩:=h;obtain⟨j,g,d,t,f⟩:=s';obtain rfl:f=s.os:=os;exact⟨v,i,I.call (h':=j) (g':=g) (d':=d) (t':=t) (ch:=[]) un e a (λb z=>absurd z (by simp)),r,q⟩
end
def wj (b:Sp)(a:List V)(E:XK)(t:TA):TE:=λσ H Q=>t σ H λd e=>b (d++a) e Q E
def Binds (K:i6)(fd:dn)(ps:List Str)(ds:List ae):Prop:=
 ∀(s:a9) (us:List ae),K.In s.heap->(us++ds).length=ps.length->BindsTo s fd ⟨us,[]⟩ (ps.zip<|us++ds)
def Binds.all {K:i6}{fd:dn}{ps:List Str}(h:∀a:List ae,a.length=ps.length->bindArgs fd ⟨a,[]⟩=pure (ps.zip a)):Binds K fd ps []:=λs a _ b=>by rw[aCo]at b⊢;exact .of_eq (h a b)
def BP (d:RE)(X:Cx)(E:XK):Prop:=∀(a:N4) (σ:St) (H:Hp) (s:a9) (e:ae) (b:a9),Inv X a σ H s->d X.stack H s E e b->X.xe e b
section
variable{X:Cx} {CX:RE} {k:Nat} {f C:bb} {fd:dn} {ps:List Str} {sp:Sp} {dvs:List V} {ds:List ae} {E:XK} {x m:Str} {p pos apos:Pos} {e o:cu} {es:List cu} {ta:TE} {t:TA}
def YN (F:FnOk X.prog X.w X.K X.mg X.base CX k f fd ps sp)(i:Room k X.A)(j:Binds X.K fd ps ds)(l:l8 dvs ds)(n:BP CX X E)(I:Inv X a σ H s)(r:l8 vs b)(h:sp (vs++dvs) H Q E):ag (bc X.prog X.w) X.A (call (.ref f) b) (EP X a σ Q) X.xe s:=by
 have g:l8 (vs++dvs) (b++ds):=r.append l;have q:(b++ds).length=ps.length:=by rw[<-g.length];exact F.len _ _ _ _ h
 refine wpAny_call (aDU (F.run X.A X.stack s H ⟨b,[]⟩ (b++ds) (vs++dvs) Q E i I.af4 (j s b I.kIn q) g h) λr v d=>?_);cases r with
 |error e=>exact n a σ H s e v I d
 |ok y=>
  cases y with
  |ret u=>exact I.after d
  |next=>exact aAk d
  |brk=>exact aAk d
  |cont=>exact aAk d
def RH (F:FnOk X.prog X.w X.K X.mg X.base CX k f fd ps sp)(d:Room k X.A)(g:Gl X x)(i:X.mg x=some (.ref f))(j:PySem.W.keepIn X.K (.ref f)=true)(l:Binds X.K fd ps ds)(n:l8 dvs ds)(u:BP CX X E)
  (v:PA X (e::es) t) (y:(x==jh)=false:=by decide) (z:ar (e::es) X.env=(false,dm e X.env)::ar es X.env:=by rfl) (B:(cz pos (ar es X.env)).any (·.1)=false:=by rfl):
  PE X (.Call (.Name x p) (e::es) [] pos) (wj sp dvs E t):=by
 intro a s σ H Q I h;refine aAW (wF I g i ?_ y);refine PySem.W.callWith_K (h₀:=X.base) I.ok.mod.kin j (F7 (v pos a s σ H _ I h) λJ L ⟨N,O,b,r,q⟩=>⟨b.kIn,?_⟩) z B;exact YN F d l n u b r q
end
section
variable{X:Cx} {CX:RE} {k:Nat} {f C:bb} {fd:dn} {ps ks:List Str} {sp:Sp} {E:XK} {x m:Str} {p pos apos kpos:Pos} {e o:cu} {es:List cu} {kws:List Keyword} {te ta:TE} {t tk:TA} {nm:Option Str}
variable{g:List ae->List ae->List ae} {gV:List V->List V->List V}
end
structure FnScope (N P:List Str)(sc:Scope):Prop where
 kind:sc.kind=.function
 co:sc.isCoroutine=false
 gen:sc.isGenerator=false
 nd:N.Nodup
 pre:N.take P.length=P
 par:∀x∈P,sc.names.lookup x=some .local\/sc.names.lookup x=some .cell
 nofree:∀y∈sc.names,y.2≠.free
theorem sF {kindOf:Str->Option d9}{x:Str}:∀{binds:List (Str×ae)} {m:cH},(∀v,(x,v)∉binds)->bindL kindOf binds m x=m x
 |[],_,_=>rfl
 |(n,v)::r,m,h=>by
  unfold bindL;rw[sF λw a=>h w (aAe _ a)];split
  .have:x≠n:=by rintro rfl;exact h v aAN
   simp[this]
  .rfl
theorem tW {kindOf:Str->Option d9}{x:Str}:∀{binds:List (Str×ae)} {m:cH},(∀v,(x,v)∉binds)->bindC kindOf binds m x=m x
 |[],_,_=>rfl
 |(n,v)::r,m,h=>by
  unfold bindC;rw[tW λw a=>h w (aAe _ a)];split
  .rfl
  .have:x≠n:=by rintro rfl;exact h v aAN
   simp[this]
theorem sV {kindOf:Str->Option d9}{x:Str}{v:ae}:∀{P:List Str} {vs:List ae} {i:Nat} {m:cH},P.Nodup->P[i]?=some x->vs[i]?=some v->kindOf x=some .local->
  bindL kindOf (P.zip vs) m x=some v
 |[],_,_,_,_,h,_,_=>by simp at h
 |_::_,[],_,_,_,_,h,_=>by simp at h
 |p::P,w::vs,0,m,d,a,b,e=>by simp at a b;subst a;subst b;show bindL kindOf ((p,w)::P.zip vs) m p=_;unfold bindL;rw[sF λv f=>(aAE.mp d).1 (aDY f).1,h9 e];simp
 |p::P,w::vs,i+1,m,d,a,b,e=>by show bindL kindOf ((p,w)::P.zip vs) m x=_;unfold bindL;exact sV (i:=i) (aAE.mp d).2 (by simpa using a) (by simpa using b) e
theorem rR {kindOf:Str->Option d9}{x:Str}{v:ae}:∀{P:List Str} {vs:List ae} {i:Nat} {m:cH},P.Nodup->P[i]?=some x->vs[i]?=some v->kindOf x≠some .local->
  bindC kindOf (P.zip vs) m x=some v
 |[],_,_,_,_,h,_,_=>by simp at h
 |_::_,[],_,_,_,_,h,_=>by simp at h
 |p::P,w::vs,0,m,d,a,b,e=>by simp at a b;subst a;subst b;show bindC kindOf ((p,w)::P.zip vs) m p=_;unfold bindC;rw[tW λv f=>(aAE.mp d).1 (aDY f).1,ib e];simp
 |p::P,w::vs,i+1,m,d,a,b,e=>by show bindC kindOf ((p,w)::P.zip vs) m x=_;unfold bindC;exact rR (i:=i) (aAE.mp d).2 (by simpa using a) (by simpa using b) e
def start (N:List Str)(vs:List V):St:=vs.map some++aCQ (N.length-vs.length) none
def AL (d:RE)(P:be)(w:cp)(K:i6)(mg:cH)(base:cq)(N:List Str)(qual:Str)(a:hH)(f:bb)(cd:ae)(A:cf)(outer:List Env)(s:a9)(H:Hp)(E:XK):Cx where
 prog:=P
 w:=w
 K:=K
 mg:=mg
 base:=base
 A:=A.deeper (envOfC qual a s.heap.objs.size f cd)
 N:=N
 s9:=s
 H9:=H
 env:=envOfC qual a s.heap.objs.size f cd
 outer:=outer
 stack:=envOfC qual a s.heap.objs.size f cd::outer
 ex:=[]
 calm:=true
 fn:=λ_=>true
 pn:=[]
 xe:=λe g=>ag (bc P w) (A.deeper<|envOfC qual a s.heap.objs.size f cd) (leaving (envOfC qual a s.heap.objs.size f cd) e) (λ_ b=>d outer H s E e b) (λh b=>d outer H s E h b) g
def yC {sc:hH}{n:Nat}{x:Str}(h:sc.names.lookup x=some .cell):∃c,(dC n sc.names []).lookup x=some c:=by have q:=PySem.W.cellsFrom_some sc.names n [] (.inl h);exact aFp.mp q
def HR {L:RE}{P:be}{w:cp}{K:i6}{mg:cH}{base:cq}{N ps:List Str}{qual:Str}{d:hH}{f:bb}{cd:ae}{A:cf}{g:List Env}{s O:a9}{H:Hp}{E:XK}{J:List ae}{vs:List V}
  (S:FnScope N ps d) (U:A.handled=none) (l:Env0 P w K mg base A g s H) (hl:vs.length=ps.length) (r:l8 vs J)
  (x:InCallC s s.heap.objs.size (bindL (envOfC qual d s.heap.objs.size f cd).kindOf (ps.zip J) λ_=>none) (dC (s.heap.objs.size+1) d.names []) (bindC (envOfC qual d s.heap.objs.size f cd).kindOf (ps.zip J) λ_=>none) O):
  Inv (AL L P w K mg base N qual d f cd A g s H E) [] (start N vs) H O:=by
 have bo:ps.length<=N.length:=by have:=i5 aGk S.pre;rw[aBT]at this;lia
 obtain⟨C,tk,rfl,Q⟩:=x.done;have m:∀b:bb,b∉(AL L P w K mg base N qual d f cd A g s H E).ex:=λb z=>absurd (show b∈([]:List bb)from z) (by simp);refine⟨⟨l.mod,S.kind,rfl,rfl,aAh _,λy z c C j=>?_,λy o=>?_,λy c _ h=>?_,λ_=>U,aGa l.frames,.inr ⟨rfl,rfl⟩,λb z=>absurd z (m b),l.bs,l.bsz,λb _ _=>m b,λb z=>absurd z (m b),l.funs,l.frf⟩,
  rfl,l.bare,Un.kept Q,⟨_,x.toInCall.ns,λi y v C j h3=>?_⟩,λy c h=>⟨_,x.cell y c h⟩,l.hok.fresh (aAh _),λy c h=>?_,λp t=>absurd (show p∈([]:N4)from t) (by simp),l.hok.kept Q,?_⟩
 .exact name_of_addr x.apart (PySem.mem_of_lookup C) (PySem.mem_of_lookup j)
 .have o:d.names.lookup y=some .cell\/d.names.lookup y=some .free:=o;rcases o with o|o
  .exact yC o
  .exact absurd rfl (S.nofree _<|PySem.mem_of_lookup o)
 .exact aDx (x.above y c<|PySem.mem_of_lookup h)
 .have I:i<vs.length:=by
   unfold start at j;by_cases I:i<vs.length
   .exact I
   .rw[aAA (by simpa using I)]at j;rw[aBA]at j;split at j<;>cases j
  have Y:vs[i]?=some v:=by
   unfold start at j;rw[aAZ (by simpa using I),aAI]at j;cases e:vs[i]? with
   |none=>rw[e]at j;cases j
   |some a=>rw[e]at j;cases j;rfl
  obtain⟨u,T,rv⟩:=r.get Y;have t:ps[i]?=some y:=by rw[<-S.pre,List.getElem?_take_of_lt (by lia)];exact C
  have B:ps.Nodup:=by rw[<-S.pre];exact S.nd.sublist (List.take_sublist _ _)
  refine⟨u,rv,?_⟩;rcases S.par y (aAu t)with k|k
  .exact .inl ⟨k,sV B t T k⟩
  .obtain⟨c,e⟩:=yC (n:=s.heap.objs.size+1) k;refine .inr ⟨.inl k,c,e,?_⟩;have q:=x.cell y c e;rw[rR B t T (by show d.names.lookup y≠_;rw[k];decide)]at q;exact q
 .exact l.hok.fresh (aDx<|x.above y c<|PySem.mem_of_lookup h)
 .unfold start;show _=N.length;rw[aAB,aAj,aCp]
  lia
def XE {p:RE}{P:be}{w:cp}{K:i6}{mg:cH}{base:cq}{k:Nat}{f:bb}{name qual:Str}{g:Arguments}{body:List df}{a:hH}{dV kV i pm T ct oc:ae}{an od:Option bb}
  {B:Array (Option ae)} {N ps:List Str} {C:Sp} (lk:K.lookup f=some ⟨oc,od,.func (PySem.W.fnOf name qual g body a dV kV i pm an T ct),B⟩) (gg:PySem.W.codeIn K T qual=true) (S:FnScope N ps a)
  (len:∀vs H Q E,C vs H Q E->vs.length=ps.length)
  (xi:∀(A:cf) (d:List Env) (s:a9) (H:Hp) (vs:List V) (Q:VK) (E:XK),Room k (A.deeper (envOfC qual a s.heap.objs.size f T))->C vs H Q E->
   ∃t,wE (AL p P w K mg base N qual a f T A d s H E) body t/\t {nx:=λ_ H'=>Q .non H',rt:=Q} (start N vs) H):
  FnOk P w K mg base p (k+1) f (PySem.W.fnOf name qual g body a dV kV i pm an T ct) ps C:=by
 refine⟨len,λA d s H args us vs Q E L j hb r l=>?_⟩;have hl:=len _ _ _ _ l;have KX:K.In s.heap:=j.mod.kin.keeps λb o e=>(j.bs b o e).1;have O:s.heap.NoLimit:=j.mod.nolimit.keeps λb o e=>(j.bs b o e).1;have qg:∀y∈ps.zip us,a.names.lookup y.1=some .local\/(a.names.lookup y.1=some .cell/\((dC (s.heap.objs.size+1) a.names []).lookup y.1).isSome=true):=λ⟨n,v⟩ hy=>by
  rcases S.par n (aDY hy).1 with q|q
  .exact .inl q
  .exact .inr ⟨q,PySem.W.cellsFrom_some _ _ _ (.inl q)⟩
 refine codeAny_call_function L.depth (KX _ _ lk) rfl S.co S.gen rfl (PySem.W.codeRec_of KX gg) (hb _ _ _ _ ?_);refine wpAny_newFunctionEnv_cells S.kind qg λenv he s1 x=>?_;subst he;refine⟨O.keeps x.toInCall.keep,codeAny_func ?_⟩;obtain⟨t,ht,hq⟩:=xi A d s H vs Q E (L.deeper _) l;have I:Inv (AL p P w K mg base N qual a f T A d s H E) [] (start N vs) H s1:=HR S L.hd j hl r x;refine aCs (ht [] s1 (start N vs) H _ I hq) (λfl U h=>?_) λe U h=>h;have m:∀{z:St} {H':Hp} {v:V} {u:ae},Inv (AL p P w K mg base N qual a f T A d s H E) [] z H' U->RelV v u->Q v H'->CE d P w H s Q u U:=
  λ{z H' v u} J Y q=>⟨v,H',J.os,J.bare,J.base,J.hok,Y,q⟩
 cases fl with
 |ret u=>obtain⟨v,z,H',J,Y,q⟩:=h;exact m J Y q
 |next=>obtain⟨z,H',J,q⟩:=h;exact m (v:=V.non) (u:=Value.none) J rfl q
 |brk=>obtain⟨_,_,_,q⟩:=h;exact aAk q
 |cont=>obtain⟨_,_,_,q⟩:=h;exact aAk q
section
variable{X:Cx} {x:Str} {p pos:Pos} {e:cu} {es:List cu} {t:TA} {id T:String} {r:List V->Hp->VK->Prop}
end
end L2
namespace HT
open PySem PyProof.Rows
def lexLt:List Int->List Int->Bool
 |[],[]=>false
 |[],_::_=>true
 |_::_,[]=>false
 |x::Y,y::a=>if x=y then lexLt Y a else decide (x<y)
def lexLt_cons (x y:Int)(Y a:List Int):lexLt (x::Y) (y::a)=if x=y then lexLt Y a else decide (x<y):=rfl
def lexLt_nil_nil:lexLt [] []=false:=rfl
def E9 (y:Int)(a:List Int):lexLt [] (y::a)=true:=rfl
def z8 (x:Int)(Y:List Int):lexLt (x::Y) []=false:=rfl
def oI (A:cf)(s:a9)(a:Int)(t:Tok)(c:Int)(u:Tok):∃e,SeqAt.EqAt A s (.int a t) (.int c u) e/\(e=true↔a=c):=
 ⟨(a==c),aFb a t c u,by simp⟩
def wY (A:cf)(s:a9)(a:Int)(t:Tok)(c:Int)(u:Tok)(prog:be)(w:cp)(E:A4)(Q:A4)(h:Q (.bool (decide (a<c))) s):
  ag (bc prog w) A (gy .Lt (.int a t) (.int c u)) Q E s:=
 (PyProof.Rows.lt_int h:ag (bc prog w) A (dA .Lt (.int a t) (.int c u)) Q E s)
section
open PySem.SeqAt
open PySem.AutoSeq1 (wpAny_loadPart')
open PySem.MeetsSeq PySem.MeetsSeq2 PySem.MeetsSeq3
def qV (l b:bb)(items m:Array ae)(n n2:Nat)(dd ua:Option bb)(sl qu:Array (Option ae))(ns z:List Int)(Q:IntsAre items.toList ns)(T:IntsAre m.toList z):
  Meets (Builtin.«tuple.__lt__» ⟨[.ref l,.ref b],[]⟩)
   (λ_ R s=>s.heap.get? l=some {cls:=.type "tuple",dict:=dd,data:=.seq items n,slots:=sl}/\s.heap.get? b=some {cls:=.type "tuple",dict:=ua,data:=.seq m n2,slots:=qu}/\
    R (.ok (.ret (.bool (lexLt ns z)))) s):=
 .of_wp λj w A R s h=>by
  obtain⟨B,g,d,C,os⟩:=s;obtain⟨hl,hb,h⟩:=h;have f2:=aFq;have z1:items.size=ns.length:=by rw[<-Q.length];simp
  have z2:m.size=z.length:=by rw[<-T.length];simp
  wp_walk using aDy hl,aDy hb,aCh _ (λrest b J=>b.1=none/\J=⟨B,g,d,C,os⟩/\∃(E H:List ae) (o p:List Int),rest=E.zip H/\
   IntsAre E o/\IntsAre H p/\o.length+m.size=p.length+items.size/\R (.ok (.ret (.bool (lexLt o p)))) ⟨B,g,d,C,os⟩) _
  case turn=>
   rintro⟨y,x⟩ rest b J ⟨L,rfl,E,H,o,p,i,N,I,f,k⟩;cases N with
   |nil=>rw[aFr]at i;cases i
   |cons a t r=>
    cases I with
    |nil=>rw[aFc]at i;cases i
    |cons c u v=>
     rw[aBK]at i;injection i with yg ah;injection yg with hy hx;subst hy hx;rw[lexLt_cons]at k;simp only[aAt]at f;obtain⟨e,he,U⟩:=oI A.in1 ⟨B,g,d,C,os⟩ a t c u;refine aAa (he j w _ _ ?_);cases e with
     |true=>
      rw[h9 (U.mp rfl)]at k
      wp_walk
      exact⟨rfl,rfl,_,_,_,_,ah,r,v,by lia,k⟩
     |false=>
      rw[ib (λq=>absurd (U.mpr q) aBb)]at k;have O:=wY A.in1 ⟨B,g,d,C,os⟩ a t c u j w
      wp_walk using O
      exact⟨_,rfl,by simpa using k⟩
  case fin=>
   rintro⟨b1,b2⟩ J ⟨L,rfl,E,H,o,p,i,N,I,f,k⟩;simp only at L;subst L;have Y:lexLt o p=decide (items.size<m.size):=by
    cases N with
    |nil=>
     cases I with
     |nil=>simp only[aBo]at f;rw[lexLt_nil_nil];exact(decide_eq_false (by lia)).symm
     |cons c u hw=>simp only[aBo,aAt]at f;rw[E9];exact(decide_eq_true (by lia)).symm
    |cons a t Y=>
     cases I with
     |nil=>simp only[aBo,aAt]at f;rw[z8];exact(decide_eq_false (by lia)).symm
     |cons c u hw=>rw[aBK]at i;cases i
   rw[Y]at k
   wp_walk
   exact⟨_,rfl,by simpa[aEg]using k⟩
  case h=>exact⟨rfl,rfl,items.toList,m.toList,ns,z,rfl,Q,T,by lia,h⟩
end
section
variable{prog:be} {w:cp} {A:cf} {E:A4} {s:a9}
def lt_tupInts {Q:A4}(o:IsTup s.heap l items)(p:IsTup s.heap b e)(q:IntsAre items.toList ns)(r:IntsAre e.toList d)(t:A.units<dg)(h:Q (.bool (lexLt ns d)) s):ag (bc prog w) A (dA .Lt (.ref l) (.ref b)) Q E s:=by
 obtain⟨⟨u,v,f,y⟩,g,i,n,j⟩:=id o;obtain⟨⟨H,z,data2,B⟩,k,m,C,a⟩:=id p;simp only at i j m a;subst i j m a;exact richCompare_meets_room (op:=.Lt) ⟨_,g,rfl⟩ ⟨_,k,rfl⟩ PySem.F.slot_tuple_lt PySem.F.entry_tuple_lt (PySem.F.args_tuple_lt_2 _ _) (qV l b items e n C v z y B ns d q r)
  ⟨g,k,show aDk (lexLt ns d)≠aGb/\Q (.bool (lexLt ns d)) s from⟨(λx=>nomatch x),h⟩⟩ t
def cat_tup {Q:A4}(u:IsTup s.heap t vs.toArray)(v:IsTup s.heap b ws.toArray)(i:vs≠[])(x:ws=[]->Q (.ref t) s)(y:ws≠[]->Q (.ref s.heap.objs.size) {s with heap:=s.heap.push {cls:=.type "tuple",data:=.seq (vs++ws).toArray}})(h:vs.length+ws.length<=sizeLine):ag (bc prog w) A (d3 .Add (.ref t) (.ref b)) Q E s:=by
 obtain⟨⟨cls,j,data,k⟩,d,l,n,m⟩:=id u;obtain⟨⟨z,o,data2,p⟩,f,q,r,a⟩:=id v;simp only at l m q a;subst l m q a;have e:vs.toArray++ws.toArray=(vs++ws).toArray:=by simp
 by_cases g:ws=[]
 .exact aFV ⟨_,d,rfl⟩ ⟨_,f,rfl⟩ aFD seq_tuple_add PySem.F.slot_tuple_add PySem.F.entry_tuple_add (PySem.F.args_tuple_add_2 _ _)
   (tuple_addW1 t b vs.toArray ws.toArray n r j o k p (by simpa using i) (by simp[g])) ⟨d,f,x g⟩
 .refine aFV ⟨_,d,rfl⟩ ⟨_,f,rfl⟩ aFD seq_tuple_add PySem.F.slot_tuple_add PySem.F.entry_tuple_add (PySem.F.args_tuple_add_2 _ _)
   (tuple_addW2 t b vs.toArray ws.toArray n r j o k p (by simpa using i) (by simpa using g) (by rw[aAn,aAn];exact h)) ⟨d,f,?_⟩
  rw[e];exact y g
def sIx (n d:Nat):Option Int->Nat
 |none=>d
 |some v=>if v<0 then(v+(n:Int)).toNat else min v.toNat n
def yq (n d:Nat):sIx n d none=d:=rfl
def ZQ (n d:Nat)(b:d<=n)(o:Option Int):sIx n d o<=n:=by
 cases o with
 |none=>exact b
 |some v=>
  show(if v<0 then(v+(n:Int)).toNat else min v.toNat n)<=n;by_cases a:v<0
  .rw[h9 a];lia
  .rw[ib a];exact Nat.min_le_right _ _
def GP (v:Int)(n d:Nat):(if v<0 then max (v+(n:Int)) 0 else min v (n:Int))=((sIx n d (some v):Nat):Int):=by
 show(if v<0 then max (v+(n:Int)) 0 else min v (n:Int))=(((if v<0 then(v+(n:Int)).toNat else min v.toNat n):Nat):Int);by_cases a:v<0
 .simp only[h9 a];lia
 .simp only[ib a];lia
def CC (lo a:Option Int)(n:Nat):aDK lo a 1 (n:Int)=(((sIx n 0 lo:Nat):Int),((sIx n n a:Nat):Int)):=by
 have b:¬((1:Int)<0):=by lia
 unfold aDK;simp only[b,if_false];refine aFX ?_ ?_
 .cases lo with
  |none=>rfl
  |some v=>exact GP v n 0
 .cases a with
  |none=>rfl
  |some v=>exact GP v n n
def BV (i j:Nat):aCR (i:Int) (j:Int) 1=j-i:=by
 unfold aCR;have a:(1:Int)>0:=by lia
 simp only[a,if_true,Int.ediv_one];split<;>lia
def nR {Q:Option Int->a9->Prop}(p:IsPart v o)(h:Q o s):ag (bc prog w) A (Builtin.Slice.slicePartIndex v) Q E s:=by
 cases p with
 |none=>exact slicePart_none h
 |int i t=>exact slicePart_int h
def jC {sl:bb}{d e:ae}{lo a:Option Int}{n:Nat}{Q:Int×Int×Nat->a9->Prop}(g:s.heap.IsSliceOf sl d e .none)(i:IsPart d lo)(j:IsPart e a)
  (h:Q (((sIx n 0 lo:Nat):Int),1,sIx n n a-sIx n 0 lo) s):ag (bc prog w) A (aER (.ref sl) (pure (n:Int))) Q E s:=by
 obtain⟨os,b,k,f⟩:=id g;unfold aER Builtin.Slice.sliceFields;refine aAa (aAa<|aCS b f (x:=d) rfl<|aAa<|aCS b f (x:=e) rfl<|aAa<|aCS b f (x:=.none) rfl<|aAb ?_);refine aAa (slicePart_none ?_);show ag _ _ (if((1:Int)==0)=true then _ else _) _ _ s;rw[ib (by decide)];refine aAa (nR i<|aAa<|nR j<|aAa<|aAb ?_);show ag _ _ (match aDK lo a 1 (n:Int)with|(lo,a)=>pure (lo,(1:Int),aCR lo a 1)) _ _ s;rw[CC lo a n];show ag _ _ (pure (((sIx n 0 lo:Nat):Int),(1:Int),aCR ((sIx n 0 lo:Nat):Int) ((sIx n n a:Nat):Int) 1)) _ _ s;rw[BV];exact aAb h
def ON (Y:Array ae)(i k:Nat):((aBy k).filterMap λ(m:Nat)=>Y[((i:Int)+(m:Int)*1).toNat]?).toArray=((Y.toList.drop i).take k).toArray:=by
 have e:(λ(m:Nat)=>Y[((i:Int)+(m:Int)*1).toNat]?)=λm=>Y[i+m]?:=by
  funext m
  have:((i:Int)+(m:Int)*1).toNat=i+m:=by lia
  rw[this]
 rw[e];have:=pick_run Y i k;rw[aDq]at this;have a:((λx=>Y[x]?)∘λx=>i+x)=λm=>Y[i+m]?:=rfl;rw[a]at this;rw[this]
def getItem_tuple_cut {t sl:bb}{items:Array ae}{i j:ae}{lo a:Option Int}{Q:A4}(b:IsTup s.heap t items)(k:s.heap.IsSliceOf sl i j .none)(l:IsPart i lo)(n:IsPart j a)
  (o:¬(sIx items.size 0 lo=0/\sIx items.size items.size a=items.size))
  (h:Q (.ref s.heap.objs.size) {s with heap:=s.heap.push {cls:=.type "tuple",data:=.seq ((items.toList.drop (sIx items.size 0 lo)).take (sIx items.size items.size a-sIx items.size 0 lo)).toArray}})
  (p:items.size<=sizeLine):ag (bc prog w) A (getItem (.ref t) (.ref sl)) Q E s:=by
 have d:sizeOk (.seq ((items.toList.drop<|sIx items.size 0 lo).take (sIx items.size items.size a-sIx items.size 0 lo)).toArray):=by
  show((items.toList.drop<|sIx items.size 0 lo).take (sIx items.size items.size a-sIx items.size 0 lo)).toArray.size<=sizeLine;rw[aAn,aBT,aDO,aBd]
  lia
 have u:sIx items.size items.size a<=items.size:=ZQ _ _ (aAh _) a;obtain⟨os,e,r,v⟩:=id k;have f:s.TypeIs (.ref sl) "slice":=⟨os,e,r⟩;unfold getItem;try with_reducible refine aAR ?_
 first|refine aAa (aAb ?_)|skip
 refine aAa (wpAny_sequenceKey b.typeIs (by decide) ?_);refine aAa (aCy (name:=aDz "__getitem__") b.typeIs aCC
  (aBC aCC b.typeIs entry_tuple_getitem ?_ (args_tuple_getitem _ _)))
 show ag _ _ (aDF (.ref t)>>=_) _ _ s;refine aAa (tupleItemsOf_ b ?_);refine aAa (aDV f ?_);rw[h9 (by decide)];refine aAa (jC k l n ?_);have g:¬((((sIx items.size 0 lo:Nat):Int)==0&&(1:Int)==1&&(sIx items.size items.size a-sIx items.size 0 lo)==items.size)=true):=by intro q;rw[aAJ,aAJ]at q;have x:((sIx items.size 0 lo:Nat):Int)=0:=eq_of_beq q.1.1;have y:sIx items.size items.size a-sIx items.size 0 lo=items.size:=eq_of_beq q.2;exact o ⟨by lia,by lia⟩
 show ag _ _ (if(((sIx items.size 0 lo:Nat):Int)==0&&(1:Int)==1&&(sIx items.size items.size a-sIx items.size 0 lo)==items.size)=true then _ else _) _ _ s;rw[ib g,ON];first
  |exact aAa (m:=aCY _) (aBt (aAb ⟨_,rfl,aAb h⟩) d)
  |exact aAa (m:=aCY _) (aBt (aAa<|aAb<|aAb ⟨_,rfl,aAb h⟩) d)
  |exact aAa (aAa (m:=aCY _)<|aBt (aAb<|aAb ⟨_,rfl,aAb h⟩) d)
  |exact aAa (aAa (m:=aCY _)<|aBt (aAb ⟨_,rfl,aAb h⟩) d)
end
end HT
namespace L2
open PySem PySem.Spec PyProof.Rows
abbrev TO:=St->Hp->(Option Int->Hp->Prop)->Prop
def PO (X:Cx)(e:Option cu)(t:TO):Prop:=
 ∀(a:N4) (s:a9) (σ:St) (H:Hp) (Q:Option Int->Hp->Prop),Inv X a σ H s->t σ H Q->
  ag (bc X.prog X.w) X.A (evalPart e X.env) (λu d=>∃o b,Inv X a σ b d/\IsPart u o/\Q o b) X.xe s
def VE:TO:=λ_ H Q=>Q none H
def yj (t:TE):TO:=λσ H Q=>t σ H λx a=>∃i,x=.int i/\Q (some i) a
section
variable{X:Cx} {e:cu} {te:TE} {lo hi:Option cu} {tl th:TO} {pos p2:Pos}
def WG:PO X none VE:=by intro a s σ H Q I h;rw[evalPart_none];exact aAb ⟨none,H,I,.none,h⟩
def SF (h:PE X e te):PO X (some e) (yj te):=by intro a s σ H Q I b;rw[evalPart_some];refine F7 (h a s σ H _ I b) λu k ⟨x,d,f,g,j⟩=>?_;obtain⟨i,rfl,q⟩:=j;obtain⟨t,rfl⟩:=g;exact⟨some i,d,f,.int i t,q⟩
def XY (X:Cx)(r:V->Option Int->Option Int->Hp->VK->Prop):Prop:=
 ∀(a:N4) (s:a9) (σ:St) (H:Hp) (x:V) (v b d:ae) (lo hi:Option Int) (f:bb) (Q:VK),Inv X a σ H s->RelV x v->s.heap.IsSliceOf f b d .none->IsPart b lo->IsPart d hi->r x lo hi H Q->
  ∃T id,typeLookup (.type T) "__getitem__"=pure (some<|.builtin id)/\s.TypeIs v T/\ag (bc X.prog X.w) X.A (getItem v<|.ref f) (EP X a σ Q) X.xe s
def XY.or {r b:V->Option Int->Option Int->Hp->VK->Prop}(h:XY X r)(h':XY X b):XY X (λx lo hi H Q=>r x lo hi H Q\/b x lo hi H Q):=by
 intro a s σ H x v d f lo hi g Q I i j k l q;rcases q with q|q
 .exact h a s σ H x v d f lo hi g Q I i j k l q
 .exact h' a s σ H x v d f lo hi g Q I i j k l q
def tSl (r:V->Option Int->Option Int->Hp->VK->Prop)(te:TE)(tl th:TO):TE:=λσ H Q=>te σ H λx a=>tl σ a λl b=>th σ b λu d=>r x l u d Q
def ME {r:V->Option Int->Option Int->Hp->VK->Prop}(j:XY X r)(k:PE X e te)(m:PO X lo tl)(n:PO X hi th):PE X (.Subscript e (.Slice lo hi none p2) pos) (tSl r te tl th):=by intro a s σ H Q I h;refine Subscript_ (F7 (k a s σ H _ I h) λv o ⟨x,p,t,y,z⟩=>?_);refine wpAny_Slice (F7 (m a o σ p _ t z) λf B ⟨l,C,E,J,L⟩=>F7 (n a B σ C _ E L) λg d ⟨u,i,N,O,U⟩=>?_);rw[evalPart_none];refine aAb ?_;have Y:Inv X a σ i {d with heap:=d.heap.push {cls:=.type "slice",data:=.fields #[f,g,.none]}}:=N.kept (t':=d.toks) λb ob q=>aAc _ q;obtain⟨T,id,hT,ht,hg⟩:=j a {d with heap:=d.heap.push {cls:=.type "slice",data:=.fields #[f,g,.none]}} σ i x v f g l u d.heap.objs.size Q Y y (Heap.IsSliceOf.new ..) J O U;show ag (bc X.prog X.w) X.A (subscriptTail e (.Slice lo hi none p2) v<|.ref d.heap.objs.size) (EP X a σ Q) X.xe {d with heap:=d.heap.push {cls:=.type "slice",data:=.fields #[f,g,.none]}};exact tail_any (ops:=[.ref d.heap.objs.size,v]) ht hT hg (by with_unfolding_all rfl)
def xR (Y:List V)(lo hi:Option Int):List V:=(Y.drop<|HT.sIx Y.length 0 lo).take (HT.sIx Y.length Y.length hi-HT.sIx Y.length 0 lo)
def lG (Y:List V)(lo hi:Option Int):(xR Y lo hi).length<=Y.length:=by
 unfold xR;rw[aBT,aDO]
 lia
def xj (K:i6):V->Option Int->Option Int->Hp->VK->Prop:=λx lo hi H Q=>∃a Y,x=.ref a/\U4 K H a Y/\
 ¬(HT.sIx Y.length 0 lo=0/\HT.sIx Y.length Y.length hi=Y.length)/\∀p,H p=none->Q (.ref p) (upd H p<|.tup (xR Y lo hi))
def bz:XY X (xj X.K):=by
 intro g s σ H x v u w lo hi y Q I k l m n h;obtain⟨a,Y,rfl,p,t,q⟩:=h;cases k;obtain⟨f,r,i,j⟩:=I.tuple p;have d:f.toArray.size=Y.length:=by rw[aAn];exact r.length.symm
 refine⟨"tuple",_,aCC.lookup,i.typeIs,?_⟩;refine HT.getItem_tuple_cut i l m n (by rw[d];exact t) ?_ (by rw[d];exact j);rw[d];refine⟨.ref s.heap.objs.size,_,I.laid (t':=s.toks) (o:=.tup (xR Y lo hi)) (λb z q=>aAc _ q) (aAh _) ?_,rfl,q _ (I.hok.fresh<|aAh _)⟩;exact⟨aAs (lG Y lo hi) j,_,(r.drop<|HT.sIx Y.length 0 lo).take (HT.sIx Y.length Y.length hi-HT.sIx Y.length 0 lo),IsTup.new _ _⟩
def yx (K:i6):R2:=λx y H Q=>∃a b Y d,x=.ref a/\y=.ref b/\U4 K H a Y/\U4 K H b d/\Y≠[]/\Y.length+d.length<=sizeLine/\
 (d=[]->Q (.ref a) H)/\(d≠[]->∀p,H p=none->Q (.ref p) (upd H p<|.tup (Y++d)))
def l8.ac5 (r:l8 Y a):a=[]↔Y=[]:=by
 cases r with
 |nil=>simp
 |cons _ _=>simp
def DR:lS X (d3 .Add) (yx X.K):=by intro g s σ H x y v u Q I j k h;obtain⟨a,b,Y,l,rfl,rfl,m,n,p,i,r,t⟩:=h;cases j;cases k;obtain⟨A,f,B,_⟩:=I.tuple m;obtain⟨C,d,p2,_⟩:=I.tuple n;refine HT.cat_tup B p2 (λz=>p (f.ac5.mp z)) (λz=>⟨.ref a,H,I,rfl,r (d.ac5.mp z)⟩) (λz=>?_) (by rw[<-f.length,<-d.length];exact i);refine⟨.ref s.heap.objs.size,_,I.laid (t':=s.toks) (o:=.tup (Y++l)) (λb E q=>aAc _ q) (aAh _) ?_,rfl,t (λw=>z (d.ac5.mpr w)) _ (I.hok.fresh<|aAh _)⟩;exact⟨by rw[aAB];exact i,_,f.append d,IsTup.new _ _⟩
end
def JG (n:Nat)(i:Int):Option Nat:=if 0<=i then(if i<n then some i.toNat else none)else if-(n:Int)<=i then some (i+n).toNat else none
def qQ {α:Type}(Y:List α)(i:Int):Option α:=(JG Y.length i).bind λj=>Y[j]?
def ED (h:JG n i=some j):seqIndex? i n=some j/\j<n/\-(n:Int)<=i/\i<n:=by
 unfold JG at h;by_cases b:0<=i
 .rw[h9 b]at h;by_cases a:i<n
  .rw[h9 a]at h;have e:i.toNat=j:=Option.some.inj h;exact⟨by rw[seqIndex_of b a,e],by lia,by lia,a⟩
  .rw[ib a]at h;cases h
 .rw[ib b]at h;by_cases a:-(n:Int)<=i
  .rw[h9 a]at h;have e:(i+n).toNat=j:=Option.some.inj h;exact⟨by rw[seqIndex_neg (by lia) a,e],by lia,a,by lia⟩
  .rw[ib a]at h;cases h
def EU {α:Type}{Y:List α}{i:Int}{v:α}(h:qQ Y i=some v):∃j,seqIndex? i Y.length=some j/\Y[j]?=some v/\j<Y.length/\-(Y.length:Int)<=i/\i<Y.length:=by
 unfold qQ at h;cases e:JG Y.length i with
 |none=>rw[e]at h;cases h
 |some j=>rw[e]at h;obtain⟨a,b,d,f⟩:=ED e;exact⟨j,a,h,b,d,f⟩
def TW (b:cu):Prop:=∀o i,subscripted b false o i=operate [o,i] (getItem o i)
def IxR (X:Cx)(r:R2):Prop:=
 ∀(d a:cu) (b:N4) (s:a9) (σ:St) (H:Hp) (x y:V) (v u:ae) (Q:VK),Inv X b σ H s->RelV x v->RelV y u->r x y H Q->
  subscripted a false v u=operate [v,u] (getItem v u)->ag (bc X.prog X.w) X.A (subscriptTail d a v u) (EP X b σ Q) X.xe s
def MtR (X:Cx)(id:String)(r:V->List V->Hp->VK->Prop):Prop:=
 ∀(a:N4) (s:a9) (σ:St) (H:Hp) (x:V) (Y:List V) (v:ae) (b:List ae) (Q:VK),Inv X a σ H s->RelV x v->l8 Y b->r x Y H Q->
  ag (bc X.prog X.w) X.A (call (.builtin id) (v::b)) (EP X a σ Q) X.xe s
section
variable{X:Cx} {a b:cu} {ta tb:TE} {pos:Pos}
def a0r (K:i6):R2:=λx y H Q=>∃p Y i v,x=.ref p/\y=.int i/\N2 K H p Y/\qQ Y i=some v/\Q v H
def a0q (K:i6):R2:=λx y H Q=>∃p Y i v,x=.ref p/\y=.int i/\U4 K H p Y/\qQ Y i=some v/\Q v H
def VA:IxR X (a0r X.K):=by
 intro g k d s σ H x y v u Q I E J h A;obtain⟨p,Y,i,z,rfl,rfl,L,N,q⟩:=h;cases E;obtain⟨t,rfl⟩:=J;obtain⟨l,r,m,hz⟩:=I.list L;obtain⟨j,f,O,h3,T,U⟩:=EU N;obtain⟨w,B,n⟩:=r.get O;have hl:=r.length;have hn:=vD;have e:EP X d σ Q w s:=⟨z,H,I,n,q⟩;by_cases C:0<=i
 .have o:i.toNat=j:=by rw[seqIndex_of C U]at f;exact Option.some.inj f
  exact item_listR m.isList C (by lia) (by rw[o];simpa using B) e A
 .have o:(i+(l.toArray.size:Int)).toNat=j:=by rw[seqIndex_neg (by lia) T]at f;rw[aAn,<-hl];exact Option.some.inj f
  exact subscriptTail_builtinR (x:=w) m.isList.typeIs slot_list_getitem.lookup
   (wpAny_getItem_list_neg (Q:=λr s'=>r=w/\EP X d σ Q r s') m.isList (by lia) (by rw[aAn]<;>lia) (by lia) (by rw[o];simpa using B) ⟨rfl,e⟩) A
def iw:IxR X (a0q X.K):=by
 intro e f d s σ H x y v u Q I m n h o;obtain⟨p,Y,i,z,rfl,rfl,A,B,q⟩:=h;cases m;obtain⟨t,rfl⟩:=n;obtain⟨C,r,l,T⟩:=I.tuple A;obtain⟨j,E,J,U,h4,h5⟩:=EU B;obtain⟨w,L,g⟩:=r.get J;have N:=r.length;have hn:=vD;have k:EP X d σ Q w s:=⟨z,H,I,g,q⟩;exact subscriptTail_builtinR (x:=w) l.typeIs aCC.lookup
  (getItem_tuple (j:=j) (Q:=λr O=>r=w/\EP X d σ Q r O) l (by lia) (by lia) (by rw[aAn,<-N];exact E) (by simpa using L) ⟨rfl,k⟩) o
def CV (its:List ae)(n j:Nat)(u:ae):aBI (·.setIfInBounds j u) {cls:=.type "list",data:=.seq its.toArray n}={cls:=.type "list",data:=.seq (its.set j u).toArray n}:=by simp[aBI]
def Inv.lst {d:N4}{σ:St}{H:Hp}{s:a9}{p:bb}{Y:List V}(I:Inv X d σ H s)(h:H p=some (.lst Y)):
  ∃(its:List ae) (n:Nat),l8 Y its/\s.heap.get? p=some {cls:=.type "list",data:=.seq its.toArray n}/\Y.length<=sizeLine:=by
 obtain⟨z,its,n,r,e⟩:=I.hok p _ h;exact⟨its,n,r,e,z⟩
def Inv.af7 {d:N4}{σ:St}{H:Hp}{s:a9}{p:bb}{Y g:List V}{its its':List ae}{n i:Nat}{f:Obj->Obj}(I:Inv X d σ H s)(h:H p=some (.lst Y))
  (k:s.heap.get? p=some {cls:=.type "list",data:=.seq its.toArray n}) (j:f {cls:=.type "list",data:=.seq its.toArray n}={cls:=.type "list",data:=.seq its'.toArray i}) (r:l8 g its') (hz:g.length<=sizeLine) (t:Nat):
  Inv X d σ (upd H p (.lst g)) {s with heap:=s.heap.update p f,toks:=t}:=by
 have e:(s.heap.update p f).get? p=some {cls:=.type "list",data:=.seq its'.toArray i}:=by rw[aBa f k (by rw[j]<;>rfl),j]
 refine I.write (x:=p) (e:=p) (by rw[h];trivial) (.inl rfl) (λb u l q=>(aAx _ _<|aBW l).trans q) ⟨_,e⟩ ?_;exact⟨hz,its',i,r,e⟩
def oq:V->V->V->Hp->(Hp->Prop)->Prop:=λo i v H Q=>∃p Y k j,o=.ref p/\i=.int k/\H p=some (.lst Y)/\JG Y.length k=some j/\Q (upd H p<|.lst (Y.set j v))
def QQ:YE X oq:=by
 intro d s σ H o i v N O u Q I B C E h;obtain⟨p,Y,k,j,rfl,rfl,w,J,q⟩:=h;cases B;obtain⟨t,rfl⟩:=C;obtain⟨e,n,r,g,L⟩:=I.lst w;obtain⟨f,T,x,y⟩:=ED J;have l:=r.length;have U:=vD;have z:Inv X d σ (upd H p<|.lst (Y.set j v)) {s with heap:=s.heap.update p (aBI (·.setIfInBounds j u))}:=
  I.af7 w g (CV e n j u) (r.set E j) (by rw[aFW];exact L) s.toks
 by_cases A:0<=k
 .have m:k.toNat=j:=by rw[seqIndex_of A y]at f;exact Option.some.inj f
  exact PySem.W.ki_setAt g A (by lia) (by rw[aAn,<-l];exact y) (by rw[m];exact⟨_,z,q⟩)
 .have m:(k+(e.toArray.size:Int)).toNat=j:=by rw[seqIndex_neg (by lia) x]at f;rw[aAn,<-l];exact Option.some.inj f
  exact PySem.W.ki_setBack g (by lia) (by rw[aAn,<-l];exact x) (by lia) (by rw[m];exact⟨_,z,q⟩)
def uZ (lo d:Option Int)(n:Nat):(gW lo d none n).1=((HT.sIx n 0 lo:Nat):Int)/\(gW lo d none n).2.1=((HT.sIx n n d:Nat):Int)/\(gW lo d none n).2.2=1:=by
 refine⟨?_,?_,rfl⟩
 .cases lo with
  |none=>simp[gW,HT.sIx]
  |some i=>
   simp only[gW,HT.sIx,Option.getD_none,show(1:Int)>0 by decide,if_true];by_cases h:i<0
   .simp only[h,if_true]<;>lia
   .simp only[h,if_false]<;>lia
 .cases d with
  |none=>simp[gW,HT.sIx]
  |some i=>
   simp only[gW,HT.sIx,Option.getD_none,show(1:Int)>0 by decide,if_true];by_cases h:i<0
   .simp only[h,if_true]<;>lia
   .simp only[h,if_false]<;>lia
def rL (its:List ae)(lo d:Option Int):slicePick its.toArray lo d none=((its.drop (HT.sIx its.length 0 lo)).take (HT.sIx its.length its.length d-HT.sIx its.length 0 lo)).toArray:=by obtain⟨e,f,g⟩:=uZ lo d its.toArray.size;unfold slicePick;rw[e,f,g];simp only[sliceRange_one,pick_run,aAn]<;>rfl
def uj (K:i6):V->Option Int->Option Int->Hp->VK->Prop:=λx lo d H Q=>∃a Y,x=.ref a/\N2 K H a Y/\∀p,H p=none->Q (.ref p) (upd H p<|.lst (xR Y lo d))
def UF:XY X (uj X.K):=by intro e s σ H x v p t lo d u Q I g i j k h;obtain⟨a,Y,rfl,l,q⟩:=h;cases g;obtain⟨m,r,f,n⟩:=I.list l;have hlen:=r.length;refine⟨"list",_,slot_list_getitem.lookup,f.isList.typeIs,?_⟩;refine wpAny_getItem_list_slice f.isList i j k .none (by simp) ?_ (by rw[aAn]<;>lia);rw[rL,<-hlen];refine⟨.ref s.heap.objs.size,_,I.laid (t':=s.toks) (o:=.lst (xR Y lo d)) (λb w q=>aAc _ q) (aAh _) ?_,rfl,q _ (I.hok.fresh<|aAh _)⟩;exact⟨aAs (lG Y lo d) n,_,0,(r.drop<|HT.sIx Y.length 0 lo).take (HT.sIx Y.length Y.length d-HT.sIx Y.length 0 lo),aAp _ rfl⟩
def lw:V->Bool
 |.non=>true
 |.bl _=>true
 |.int _=>true
 |.str _=>true
 |_=>false
def iN:qC X (.builtin "len") (λY H Q=>∃p e,Y=[.ref p]/\(N2 X.K H p e\/U4 X.K H p e)/\Q (.int e.length) H):=by
 intro k s σ H Y n Q I r h;obtain⟨p,e,rfl,f,q⟩:=h;obtain⟨u,rfl,l⟩:=vals1 r;cases l;have o:=vD;rcases f with f|f
 .obtain⟨g,i,j,m⟩:=I.list f;have d:=i.length;exact Calls.call_len_list j.isList (by simp only[aAn]<;>lia) ⟨.int e.length,H,I.tok _,⟨s.toks+1,by rw[aAn,d]⟩,q⟩
 .obtain⟨g,i,j,m⟩:=I.tuple f;have d:=i.length;exact len_tuple j (by simp only[aAn]<;>lia) ⟨.int e.length,H,I.tok _,⟨s.toks+1,by rw[aAn,d]⟩,q⟩
def gZ:qC X (.type "list") (λY H Q=>∃p g,Y=[.ref p]/\(N2 X.K H p g\/U4 X.K H p g)/\∀l,H l=none->Q (.ref l) (upd H l (.lst g))):=by
 intro k s σ H Y L Q I r h;obtain⟨p,g,rfl,m,q⟩:=h;obtain⟨u,rfl,J⟩:=vals1 r;cases J;have t:∀(d:List ae),l8 g d->g.length<=sizeLine->∀(f:cq) (i:Nat),(∀b E,s.heap.get? b=some E->f.get? b=some E)->
   f.get? s.heap.objs.size=some {cls:=.type "list",dict:=none,data:=.seq d.toArray i,slots:=#[]}->EP X k σ Q (.ref s.heap.objs.size) {s with heap:=f}:=λd j v f i x e=>
  ⟨.ref s.heap.objs.size,_,I.laid (t':=s.toks) x (aAh _) (show ObjOk X.prog X.w _ f _ (.lst g)from⟨v,d,i,j,e⟩),rfl,q _ (I.hok.fresh<|aAh _)⟩
 rcases m with m|m
 .obtain⟨d,j,z,v⟩:=I.list m;have y:=j.length;obtain⟨o,A,B,n,C⟩:=z.isList;exact call_list_seq p (.inl rfl) A B C (λf i x e=>t d j v f i x e) (by simp only[aAn]<;>lia)
 .obtain⟨d,j,z,v⟩:=I.tuple m;have y:=j.length;obtain⟨o,A,B,n,C⟩:=z;exact call_list_seq p (.inr rfl) A B C (λf i x e=>t d j v f i x e) (by simp only[aAn]<;>lia)
def fF:qC X (.type "tuple") (λY H Q=>∃p g,Y=[.ref p]/\((N2 X.K H p g/\∀l,H l=none->Q (.ref l) (upd H l (.tup g)))\/(U4 X.K H p g/\Q (.ref p) H))):=by
 intro d s σ H Y A Q I r h;obtain⟨p,g,rfl,h⟩:=h;obtain⟨u,rfl,x⟩:=vals1 r;cases x;rcases h with⟨j,q⟩|⟨j,q⟩
 .obtain⟨f,k,m,n⟩:=I.list j;have t:=k.length;refine call_tuple_list m.isList (λi y=>?_) (by simp only[aAn]<;>lia);have v:Inv X d σ H {s with heap:=i}:=I.kept (t':=s.toks) y;have z:Inv X d σ (upd H i.objs.size<|.tup g) {s with heap:=i.push {cls:=.type "tuple",data:=.seq f.toArray}}:=
   v.laid (t':=s.toks) (λb o e=>aAc _ e) (aAh _) (show ObjOk X.prog X.w _ _ _ (.tup g)from⟨n,f,k,IsTup.new _ _⟩)
  exact⟨.ref i.objs.size,_,z,rfl,q _ (v.hok.fresh<|aAh _)⟩
 .obtain⟨f,k,m,n⟩:=I.tuple j;exact call_tuple_same m ⟨.ref p,H,I,rfl,q⟩
def tyV (K : i6) (T : String) (x : V) (H : Hp) : Prop := match x with
  | .str _ => T = "str"
  | .int _ => T = "int"
  | .ref p => (T = "list" ∧ ∃ Y, N2 K H p Y) ∨ (T = "tuple" ∧ ∃ o, K.lookup p = some o ∧ o.cls = .type "tuple" ∧ o.dict = none) ∨
      (T = "dict" ∧ ((∃ N, H p = some (.dK N)) ∨ ∃ N, H p = some (.dT N))) ∨ (T = "set" ∧ ∃ S n, H p = some (.set S n))
  | _ => False
def NF (I:Inv X k σ H s)(r:RelV x v)(g:tyV X.K T x H):
  s.TypeIs v T/\∀a,v=.ref a->∃l,s.heap.get? a=some l/\l.dict=none:=by
 cases x with
 |str z=>obtain⟨t,rfl⟩:=r;cases(show T= "str"from g);exact⟨typeIs_str s z t,λ_ e=>nomatch e⟩
 |int i=>obtain⟨t,rfl⟩:=r;cases(show T= "int"from g);exact⟨typeIs_int s i t,λ_ e=>nomatch e⟩
 |ref p=>
  cases r;rcases g with⟨rfl,Y,q⟩|⟨rfl,o,d,u,h⟩|⟨rfl,d⟩|⟨rfl,S,n,d⟩
  .obtain⟨w,_,m,_⟩:=I.list q;refine⟨m.isList.typeIs,λa e=>?_⟩;cases e;obtain⟨o,n,e,c,h,_⟩:=m;exact⟨o,e,h⟩
  .refine⟨⟨o,I.kIn p o d,u⟩,λa e=>?_⟩;cases e;exact⟨o,I.kIn _ o d,h⟩
  .have z:∃o,s.heap.get? p=some o/\o.ExactDict:=by
    rcases d with⟨N,d⟩|⟨N,d⟩
    .obtain⟨_,_,_,_,o,_,_,e,f,_⟩:=I.hok p _ d;exact⟨o,e,f⟩
    .obtain⟨_,_,_,_,o,_,_,e,f,_⟩:=I.hok p _ d;exact⟨o,e,f⟩
   obtain⟨o,e,f⟩:=z;refine⟨⟨o,e,f.1⟩,λa j=>?_⟩;cases j;exact⟨o,e,f.2.1⟩
  .obtain⟨o,_,_,_,e,f,_⟩:=I.hok p _ d;refine⟨⟨o,e,f.1⟩,λa j=>?_⟩;cases j;exact⟨o,e,f.2.1⟩
 |_=>exact aAk g
def a2l (K:i6)(T:String)(r:V->List V->Hp->VK->Prop)(e:TE):TE:=λσ H Q=>e σ H λx d=>tyV K T x d/\r x [] d Q
def tBM (K:i6)(T:String)(r:V->List V->Hp->VK->Prop)(e:TE)(t:TA):TE:=λσ H Q=>e σ H λx d=>tyV K T x d/\t σ d λY f=>r x Y f Q
variable{o e:cu} {es:List cu} {to:TE} {t:TA} {name:Str} {apos av:Pos} {T id:String} {r:V->List V->Hp->VK->Prop}
def PJ (j:PlainAttrs T)(slot:Slot T name id)(f:typeOf (.builtin id)=pure (.type "method_descriptor"))(k:MtR X id r)(l:PE X o to)
  (m:gn o name X.env (dm o X.env)=dm o X.env:=by rfl) (n:(apos.endLine==av.line)=true:=by rfl):PE X (.Call (.Attribute o name apos) [] [] av) (a2l X.K T r to):=by
 intro d s σ H Q I h;refine wpAny_Call_method0_late m n (F7 (l d s σ H _ I h) λv p ⟨x,q,g,i,u,w⟩=>?_);obtain⟨y,z⟩:=NF g i u;exact⟨T,id,j,slot,f,y,z,aFL rfl (PySem.evalArgs_none<|k d p σ q x [] v [] Q g i .nil w)⟩
def XA (k:PlainAttrs T)(slot:Slot T name id)(f:typeOf (.builtin id)=pure (.type "method_descriptor"))(l:MtR X id r)(m:PE X o to)(n:PA X (e::es) t)
  (p:gn o name X.env (dm o X.env)=dm o X.env:=by rfl)
  (q:((cz av (ar (e::es) X.env)).all (λx=>!x.1)&&(backToKw av (keywordEach [] X.env)).all (λx=>x.1.isSome)
   &&decide ((e::es).length+([]:List Keyword).length+(if([]:List Keyword).isEmpty then 0 else 1)<30))=true:=by rfl)
  (u:(apos.endLine==av.line)=true:=by rfl) (w:ar (e::es) X.env=(false,dm e X.env)::ar es X.env:=by rfl) (y:(cz av (ar es X.env)).any (·.1)=false:=by rfl):
  PE X (.Call (.Attribute o name apos) (e::es) [] av) (tBM X.K T r to t):=by
 intro d s σ H Q I h;refine wpAny_Call_method_late p q u rfl (F7 (m d s σ H _ I h) λv z ⟨x,A,g,i,B,C⟩=>?_);obtain⟨E,J⟩:=NF g i B;refine⟨T,id,k,slot,f,E,J,?_⟩;have j:=n av d z σ A _ g C;rw[w]at j⊢;refine aFL (by show(false||(cz av<|ar es X.env).any (·.1))=false;rw[y]<;>rfl) (Calls.evalArgs_plain ?_);exact F7 j λL N ⟨O,U,Y,r2,q2⟩=>l d N σ U x O v L Q Y i r2 q2
end
def MtM (X:Cx)(id:String)(r:V->List V->Hp->VK->Prop):Prop:=
 ∀(a:N4) (s:a9) (σ:St) (H:Hp) (x:V) (Y:List V) (v:ae) (b:List ae) (Q:VK),Inv X a σ H s->RelV x v->l8 Y b->r x Y H Q->
  ag (bc X.prog X.w) X.A (call (.builtin id) (v::b)) (EP X a σ Q) X.xe s
theorem l8.one:∀{x:V} {a:List ae},l8 [x] a->∃u,a=[u]/\RelV x u
 |_,_,.cons r .nil=>⟨_,rfl,r⟩
theorem l8.zero:∀{a:List ae},l8 [] a->a=[]
 |_,.nil=>rfl
def l8.dropLast (h:l8 Y a):l8 Y.dropLast a.dropLast:=by
 induction h with
 |nil=>exact .nil
 |cons r t b=>
  cases t with
  |nil=>exact .nil
  |cons q d=>exact .cons r b
def DH {α:Type}(l:List α):l.eraseIdx (l.length-1)=l.dropLast:=by
 induction l with
 |nil=>rfl
 |cons a r d=>
  cases r with
  |nil=>rfl
  |cons b r=>
   have e:(a::b::r).length-1=((b::r).length-1)+1:=by
    have f:(a::b::r).length=r.length+2:=rfl;have g:(b::r).length=r.length+1:=rfl
    lia
   rw[e,aFy,d]
   all_goals rfl
section
variable{X:Cx} {pins:N4} {σ:St} {H:Hp} {s:a9} {l b:bb} {Y ys zs:List V}
def Inv.af2 {its its':List ae}{n:Nat}{f:Array ae->Array ae}{t':Nat}(I:Inv X pins σ H s)(a:H l=some (.lst Y))
  (e:s.heap.get? l=some {cls:=.type "list",data:=.seq its.toArray n}) (d:f its.toArray=its'.toArray) (g:l8 ys its') (hz:ys.length<=sizeLine):
  Inv X pins σ (upd H l (.lst ys)) {s with heap:=s.heap.update l (aBI f),toks:=t'}:=by
 have q:=PySem.IsL.update e f;rw[d]at q;refine I.write (x:=l) (e:=l) (by rw[a];exact trivial) (.inl rfl) (λj u h i=>(aAx s.heap (aBI f)<|aBW h).trans i) ⟨_,q⟩ ?_;exact⟨hz,its',_,g,q⟩
def Inv.ag1 (I:Inv X pins σ H s)(a:l8 ys its)(hz:ys.length<=sizeLine):
  Inv X pins σ (upd H s.heap.objs.size (.lst ys)) {s with heap:=s.heap.push {cls:=.type "list",data:=.seq its.toArray},toks:=t'}:=
 I.laid (λ_ _ q=>aAc _ q) (aAh _) ⟨hz,its,0,a,aAp _ rfl⟩
def Inv.fresh (I:Inv X pins σ H s):H s.heap.objs.size=none:=I.hok.fresh (aAh _)
def Inv.af6 (I:Inv X pins σ H s)(a:H l=some (.lst Y)):Y.length<=sizeLine/\∃(its:List ae) (n:Nat),l8 Y its/\Y.length=its.length/\s.heap.get? l=some {cls:=.type "list",data:=.seq its.toArray n}:=by obtain⟨z,its,n,r,e⟩:=I.hok l _ a;exact⟨z,its,n,r,r.length,e⟩
def OV (h:n<=sizeLine):aCZ n=false:=by unfold aCZ;exact decide_eq_false (by lia)
end
section
variable{X:Cx}
def WK:V->List V->Hp->VK->Prop:=λx a H Q=>∃l Y y,x=.ref l/\a=[y]/\H l=some (.lst Y)/\Y.length<sizeLine/\Q .non (upd H l<|.lst (Y++[y]))
def rY:MtM X "list.append" WK:=by
 intro b s σ H x j v k Q I f g h;obtain⟨l,Y,y,rfl,rfl,d,m,q⟩:=h;cases f;obtain⟨u,rfl,i⟩:=g.one;obtain⟨z,a,n,r,o,e⟩:=I.af6 d;refine call_meets F.slot_list_append ⟨_,e,rfl⟩ F.entry_list_append (F.args_list_append_2 _ _) (PySem.list_append l a.toArray n u (by rw[aAn];lia)) ⟨e,?_⟩;refine⟨.non,_,I.af2 (its':=a++[u]) d e (by simp) (r.append<|.cons i .nil) ?_,rfl,q⟩;rw[aAB,aFP]
 lia
def a1m:V->List V->Hp->VK->Prop:=λx a H Q=>∃l Y y,x=.ref l/\a=[]/\H l=some (.lst Y)/\Y[Y.length-1]?=some y/\Q y (upd H l<|.lst Y.dropLast)
def LF:MtM X "list.pop" a1m:=by
 intro f s σ H x t v w Q I i j h;obtain⟨l,Y,y,rfl,rfl,g,k,q⟩:=h;cases i;have b:=j.zero;subst b;obtain⟨z,a,n,r,m,e⟩:=I.af6 g;obtain⟨u,o,p⟩:=r.get k;have d:a.toArray[a.toArray.size-1]?=some u:=by show a.toArray[a.length-1]?=some u;rw[<-aAF,<-m];exact o
 refine call_meets F.slot_list_pop ⟨_,e,rfl⟩ F.entry_list_pop (F.args_list_pop_1 _) (MeetsSeq.list_pop_last l a.toArray n u d (by rw[aAn];lia)) ⟨e,?_⟩;refine⟨y,_,I.af2 (its':=a.dropLast) g e ?_ r.dropLast ?_,p,q⟩
 .show a.toArray.eraseIdxIfInBounds (a.toArray.size-1)=a.dropLast.toArray;rw[aAn,List.eraseIdxIfInBounds_toArray,DH]
 .rw[aGc]
  lia
end
section
variable{prog:be} {w:cp} {A:cf} {E:A4} {s:a9}
end
section
variable{X:Cx}
end
end L2
namespace Att
open PySem PySem.W PySem.Calls PyProof.Rows
def mD:∀(ns:List Int) (vs:List ae),WellAll P h vs (ns.map WData.int)->IntsAre vs ns:=by
 intro ns;induction ns with
 |nil=>intro vs w;rw[aEo]at w;cases w;exact .nil
 |cons n ns d=>
  intro vs w;rw[aAr]at w;cases w with
  |cons a b=>cases a;exact .cons _ _ (d _ b)
def script_of {l:OpenLaw}{n:Nat}(m:l.most=some n){P:Params}{h:cq}{args:List WData}{b:List ae}
  (e:l.row.toRowW.claim.pre args=true) (o:WellAll P h b args):
  ∃a vs ns,b=[aDJ a]/\args=[WData.list (ns.map WData.int)]/\h.get? a=some {cls:=.type "list",data:=.seq vs.toArray}/\IntsAre vs ns/\ns.length<=n:=by
 have j:WShape.hasAll [] args [.list .int]=true:=(pre_splitW e).1;have k:l.pre.holds [] {args:=args}=true:=(pre_splitW e).2;obtain⟨d,r,rfl,p,s⟩:=hasAllW_cons j;obtain rfl:=hasAllW_nil s;obtain⟨Y,rfl,t⟩:=hasW_list p;obtain⟨ns,rfl⟩:=items_int t;have f:ns.length<=n:=by
  unfold OpenLaw.pre at k;have g:(WTm.not<|.lt (.lit (.int (n:Int))) (.len (.arg 0))).holds [] {args:=[.list (ns.map .int)]}=true:=by have g:=(holds_andW k).1;rw[m]at g;exact g
  have i:=condW_of g (w_not<|w_lt w_lit<|w_len_list<|w_arg rfl);rw[aAj]at i;refine aEt λq=>?_;have u:(n:Int)<((ns.length:Nat):Int):=by lia
  first
   |(rw[decide_eq_true u]at i;exact absurd i (by decide))
   |(simp at i;lia)
 cases o with
 |cons v w=>
  cases w;cases v with
  |list x y=>exact⟨_,_,ns,rfl,rfl,x,mD ns _ y,f⟩
def post_true (l:OpenLaw)(args:List WData):l.row.toRowW.claim.post args (.bool true) args=true:=
 postW_of (r:=l.row.toRowW) (X:=(true==true))
  (show WShape.has [] (.bool true) .bool=true by first|rfl|decide|simp[WShape.has,WShape.arms,WShape.armsAll])
  (show(WTm.eq .res (.lit (.bool true))).value [] {args:=args,res:=some (.bool true),after:=args}=some (.bool (true==true))from w_eq_bool (w_res rfl) w_lit) rfl
section
variable{prog:be} {w:cp} {A:cf} {E:A4} {s:a9} {K:Frag}
def a2i (h:cq)(L d:bb):List (bb×Obj):=(aBy h.objs.size).filterMap λa=>if a=L\/a=d then none else(h.get? a).map λo=>(a,o)
end
end Att
namespace L2
open PySem PySem.Spec PyProof.Rows
theorem U5:∀{vs:List ae} {ns:List Int},IntsAre vs ns->l8 (ns.map V.int) vs
 |_,_,.nil=>.nil
 |_,_,.cons n t h=>.cons ⟨t,rfl⟩ (U5 h)
def E6 (s:df):Arguments:=match s with
 |.FunctionDef _ a _ _ _ _ _ _ _ _=>a
 |_=>{posonlyargs:=[],args:=[],vararg:=none,kwonlyargs:=[],kw_defaults:=[],kwarg:=none,defaults:=[]}
def t9 (s:df):List df:=match s with
 |.FunctionDef _ _ b _ _ _ _ _ _ _=>b
 |_=>[]
def c8 (s:df):hH:=match s with
 |.FunctionDef _ _ _ _ _ _ a _ _ _=>a
 |_=>{kind:=.function,names:=[],isGenerator:=false,isCoroutine:=false}
abbrev wD:RE:=λ_ _ _ _ _ _=>False
abbrev E0:XK:=λ_ _ _=>False
def qz:BP wD X E0:=λ_ _ _ _ _ _ _ h=>h.elim
structure Fun (K:PySem.W.Frag)(x qual:Str)(st:Stmt)(f:Addr)(fd:FuncData):Prop where
 ex:∃(oc:Value) (od:Option Addr) (kV doc pm:Value) (an:Option Addr) (T ct:Value) (osl:Array (Option Value)),
  fd=PySem.W.fnOf x qual (E6 st) (t9 st) (c8 st) .none kV doc pm an T ct/\K.lookup f=some ⟨oc,od,.func fd,osl⟩/\PySem.W.codeIn K T qual=true
 kp:PySem.W.keepIn K (.ref f)=true
section
variable{P:be} {w:cp} {K:i6} {mg:cH} {base:cq}
def Fun.ok {x qual:Str}{st:df}{f:bb}{fd:dn}{N ps:List Str}{k:Nat}{b:Sp}(F:Fun K x qual st f fd)(S:FnScope N ps (c8 st))(len:∀vs H Q E,b vs H Q E->vs.length=ps.length)
  (e:∀(T:ae) (A:cf) (a:List Env) (s:a9) (H:Hp) (vs:List V) (Q:VK) (E:XK),Room k (A.deeper (envOfC qual (c8 st) s.heap.objs.size f T))->b vs H Q E->
   ∃t,wE (AL wD P w K mg base N qual (c8 st) f T A a s H E).nox (t9 st) t/\t {nx:=λ_ H'=>Q .non H',rt:=Q} (start N vs) H):FnOk P w K mg base wD (k+1) f fd ps b:=by
 obtain⟨m,n,kV,g,o,p,T,r,i,rfl,lk,j⟩:=F.ex;refine XE lk j S len λA a s H vs Q E l d=>?_;obtain⟨t,h,q⟩:=e T A a s H vs Q E l d;exact⟨t,h.nox,q⟩
def Fun.binds {x qual:Str}{st:df}{f:bb}{fd:dn}{ps:List Str}(F:Fun K x qual st f fd)
  (h:∀(kV a b:ae) (d:Option bb) (T ct:ae) (e:List ae),e.length=ps.length->bindArgs (PySem.W.fnOf x qual (E6 st) (t9 st) (c8 st) .none kV a b d T ct) ⟨e,[]⟩=pure (ps.zip e)):Binds K fd ps []:=by
 obtain⟨i,j,kV,a,b,d,T,ct,g,rfl,lk,k⟩:=F.ex;exact .all (h kV a b d T ct)
def MA {x qual:Str}{st:df}{f:bb}{g:ae}{h d:Option bb}{b:Array (Option ae)}{kV a e T ct:ae}(l:K.lookup f=some ⟨g,h,.func (PySem.W.fnOf x qual (E6 st) (t9 st) (c8 st) .none kV a e d T ct),b⟩)
 (c:PySem.W.codeIn K T qual=true) (k:PySem.W.keepIn K (.ref f)=true):Fun K x qual st f (PySem.W.fnOf x qual (E6 st) (t9 st) (c8 st) .none kV a e d T ct):=⟨⟨g,h,kV,a,e,d,T,ct,b,rfl,l,c⟩,k⟩
end
section
variable{X:Cx}
end
def Same (H H':Hp):Prop:=∀b o,H b=some o->H' b=some o
def Same.refl (H:Hp):Same H H:=λ_ _ h=>h
def Same.trans (a:Same H d)(b:Same d e):Same H e:=λc o h=>b c o (a c o h)
def Same.seq {K:i6}{H H':Hp}{a:bb}{Y:List V}(e:Same H H')(h:N2 K H a Y):N2 K H' a Y:=by
 rcases h with(h|⟨o,h⟩)|h
 .exact .inl (.inl (e _ _ h))
 .exact .inl (.inr ⟨o,e _ _ h⟩)
 .exact .inr h
end L2
namespace DL
open PySem PySem.Spec L2
open PyProof.Rows hiding St
section
inductive D where
 |non|bl (b:Bool)|int (i:Int)|str (x:Str)|tup (Y:List D)|lst (Y:List D)|dct
mutual
def n6:D->Int
 |.int i=>hashInt i
 |.tup Y=>reduceHash (aAT (vH Y))
 |_=>0
def vH:List D->List Int
 |[]=>[]
 |x::Y=>n6 x::vH Y
end
def R9:Nat->D->Bool
 |_,.int _=>true
 |n+1,.tup Y=>Y.all (R9 n)
 |_,_=>false
inductive R (α:Type)where
 |ok (a:α)|ex (e:Str)|bad
def R.bind {α β:Type}:R α->(α->R β)->R β
 |.ok a,f=>f a
 |.ex e,_=>.ex e
 |.bad,_=>.bad
@[simp]def R.aa0 {α β:Type}(a:α)(f:α->R β):(R.ok a).bind f=f a:=rfl
section
variable(K:i6) (H:Hp) (O:bb->Prop)
mutual
inductive Rep:V->D->Prop
 |non:Rep .non .non
 |bl {b:Bool}:Rep (.bl b) (.bl b)
 |int {i:Int}:Rep (.int i) (.int i)
 |str {x:Str}:Rep (.str x) (.str x)
 |tup {a:Addr} {vs:List V} {ds:List D} (h:U4 K H a vs) (r:Reps vs ds):Rep (.ref a) (.tup ds)
 |lst {a:Addr} {vs:List V} {ds:List D} (h:N2 K H a vs) (n:¬O a) (r:Reps vs ds):Rep (.ref a) (.lst ds)
 |dct {a:Addr} {o:Obj} (h:H a=some (.ext λh=>h.get? a=some o)) (x:o.ExactDict) (n:¬O a):Rep (.ref a) .dct
inductive Reps:List V->List D->Prop
 |nil:Reps [] []
 |cons {v:V} {d:D} {vs:List V} {ds:List D} (h:Rep v d) (t:Reps vs ds):Reps (v::vs) (d::ds)
end
end
section
variable{K:i6}
def _root_.L2.Same.tup {a:bb}{Y:List V}(e:Same H H')(h:U4 K H a Y):U4 K H' a Y:=by
 rcases h with(h|⟨o,h⟩)|h
 .exact .inl (.inl (e _ _ h))
 .exact .inl (.inr ⟨o,e _ _ h⟩)
 .exact .inr h
mutual
theorem Rep.mono (f:∀a Y,U4 K H a Y->U4 K H' a Y)(b:∀a Y,¬O a->N2 K H a Y->¬g a/\N2 K H' a Y)(e:∀a φ,¬O a->H a=some (.ext φ)->¬g a/\H' a=some (.ext φ)):∀{v:V} {d:D},Rep K H O v d->Rep K H' g v d
 |_,_,.non=>.non
 |_,_,.bl=>.bl
 |_,_,.int=>.int
 |_,_,.str=>.str
 |_,_,.tup h r=>.tup (f _ _ h) (Reps.mono f b e r)
 |_,_,.lst h n r=>.lst (b _ _ n h).2 (b _ _ n h).1 (Reps.mono f b e r)
 |_,_,.dct h x n=>.dct (e _ _ n h).2 x (e _ _ n h).1
theorem Reps.mono (b:∀a Y,U4 K H a Y->U4 K H' a Y)(d:∀a Y,¬O a->N2 K H a Y->¬e a/\N2 K H' a Y)(f:∀a φ,¬O a->H a=some (.ext φ)->¬e a/\H' a=some (.ext φ)):∀{vs:List V} {ds:List D},Reps K H O vs ds->Reps K H' e vs ds
 |_,_,.nil=>.nil
 |_,_,.cons h t=>.cons (Rep.mono b d f h) (Reps.mono b d f t)
end
def Rep.same (e:Same H H')(r:Rep K H O v d):Rep K H' O v d:=r.mono (λ_ _ h=>e.tup h) (λ_ _ n h=>⟨n,e.seq h⟩) λ_ _ n h=>⟨n,e _ _ h⟩
def Reps.same (e:Same H H')(r:Reps K H O v d):Reps K H' O v d:=r.mono (λ_ _ h=>e.tup h) (λ_ _ n h=>⟨n,e.seq h⟩) λ_ _ n h=>⟨n,e _ _ h⟩
def Rep.sub (e:∀a,b a->O a)(r:Rep K H O v d):Rep K H b v d:=r.mono (λ_ _ h=>h) (λ_ _ n h=>⟨λz=>n (e _ z),h⟩) λ_ _ n h=>⟨λz=>n (e _ z),h⟩
def Reps.sub (e:∀a,b a->O a)(r:Reps K H O v d):Reps K H b v d:=r.mono (λ_ _ h=>h) (λ_ _ n h=>⟨λz=>n (e _ z),h⟩) λ_ _ n h=>⟨λz=>n (e _ z),h⟩
theorem Reps.length:∀{vs:List V} {ds:List D},Reps K H O vs ds->vs.length=ds.length
 |_,_,.nil=>rfl
 |_,_,.cons _ t=>by simp[Reps.length t]
theorem Reps.get:∀{vs:List V} {ds:List D} {i:Nat} {d:D},Reps K H O vs ds->ds[i]?=some d->∃v,vs[i]?=some v/\Rep K H O v d
 |_,_,_,_,.nil,e=>by simp at e
 |_,_,0,_,.cons r _,e=>by simp at e;subst e;exact⟨_,rfl,r⟩
 |_,_,i+1,d,.cons _ t,e=>by obtain⟨u,a,b⟩:=Reps.get (i:=i) (d:=d) t (by simpa using e);exact⟨u,by simpa using a,b⟩
theorem Reps.append:∀{vs ws:List V} {ds es:List D},Reps K H O vs ds->Reps K H O ws es->Reps K H O (vs++ws) (ds++es)
 |_,_,_,_,.nil,s=>s
 |_,_,_,_,.cons r t,s=>.cons r (Reps.append t s)
theorem Reps.take:∀{vs:List V} {ds:List D} (n:Nat),Reps K H O vs ds->Reps K H O (vs.take n) (ds.take n)
 |_,_,0,_=>.nil
 |_,_,_+1,.nil=>.nil
 |_,_,n+1,.cons r t=>.cons r (Reps.take n t)
theorem Reps.drop:∀{vs:List V} {ds:List D} (n:Nat),Reps K H O vs ds->Reps K H O (vs.drop n) (ds.drop n)
 |_,_,0,r=>r
 |_,_,_+1,.nil=>.nil
 |_,_,n+1,.cons _ t=>Reps.drop n t
theorem Reps.set (r:Rep K H O v d):∀{vs:List V} {ds:List D} (i:Nat),Reps K H O vs ds->Reps K H O (vs.set i v) (ds.set i d)
 |_,_,_,.nil=>.nil
 |_,_,0,.cons _ t=>.cons r t
 |_,_,i+1,.cons q t=>.cons q (Reps.set r i t)
def Reps.dropLast (r:Reps K H O vs ds):Reps K H O vs.dropLast ds.dropLast:=by rw[aEp,aEp,r.length];exact r.take _
def Reps.snoc (r:Reps K H O vs ds)(h:Rep K H O v d):Reps K H O (vs++[v]) (ds++[d]):=r.append (.cons h .nil)
theorem Reps.ints:∀(ns:List Int),Reps K H O (ns.map V.int) (ns.map D.int)
 |[]=>.nil
 |_::ns=>.cons .int (Reps.ints ns)
theorem Reps.reverse:∀{vs:List V} {ds:List D},Reps K H O vs ds->Reps K H O vs.reverse ds.reverse
 |_,_,.nil=>.nil
 |_,_,.cons r t=>by rw[aAQ,aAQ];exact(Reps.reverse t).snoc r
end
def Kp (H:Hp)(O:bb->Prop)(H':Hp)(a:bb->Prop):Prop:=∀b o,H b=some o->¬O b->H' b=some o/\¬a b
section
def Kp.refl (H:Hp)(O:bb->Prop):Kp H O H O:=λ_ _ h n=>⟨h,n⟩
def Kp.of (s:Same H H'):Kp H O H' O:=λb o h n=>⟨s b o h,n⟩
def Kp.trans (a:Kp H O H' f)(b:Kp H' f d e):Kp H O d e:=λc o h n=>let⟨g,i⟩:=a c o h n;b c o g i
end
class Tabs where
 tbs:List (Addr×List (Pos×Str))
inductive Sl where
 |no|v (d:D)|o (Y:List D)|x (C:Value)|c (m:List D->R D) (φ:Hp->(Addr->Prop)->Addr->Prop)|d (N:List (D×D))
abbrev Ev:=List Sl
def Mt:HO->Prop
 |.lst _=>True
 |.dK _=>True
 |.dT _=>True
 |.ext _=>True
 |_=>False
def nT (K:i6)(H:Hp)(O:bb->Prop)(es:List DictEntry)(N:List (D×D)):Prop:=
 Paired (λ(e:DictEntry) (p:D×D)=>(∃a,e.key=.ref a/\Rep K H O (.ref a) p.1)/\(∃v,RelV v e.val/\Rep K H O v p.2)/\e.hash=n6 p.1/\R9 7 p.1=true) es N
def NA (a:bb)(o:Obj)(es:List DictEntry):Prop:=(a==sysModules)=false/\o.ExactDict/\∃b d,o.data=.dict b d/\b.toList=es
def JW:Sl->Prop
 |.o _=>True
 |.d _=>True
 |_=>False
section
variable(K:i6) (H9 H:Hp) (O:bb->Prop)
def bQ (x:Option (Option V)):Sl->Prop
 |.no=>True
 |.v d=>∃v,x=some (some v)/\Rep K H O v d
 |.o Y=>∃a b,x=some (some (V.ref a))/\O a/\H9 a=none/\H a=some (.lst b)/\Reps K H O b Y
 |.x C=>∃a o,x=some (some (V.ref a))/\H a=some (.frz o (.own a))/\o.cls=C
 |.c m φ=>∃a,x=some (some (V.ref a))/\∀e f,Kp H O e f->φ e f a
 |.d N=>∃a o g,x=some (some (V.ref a))/\O a/\H9 a=none/\H a=some (.ext λh=>h.get? a=some o)/\NA a o g/\nT K H O g N/\(N.map (·.1)).Nodup
end
variable [Tabs]
def Tb (H:Hp):Prop:=∀p∈Tabs.tbs,H p.1=some (.tbl p.2)
structure EnvOk (K:PySem.W.Frag)(H9:Hp)(O0:Addr->Prop)(H:Hp)(O:Addr->Prop)(σ:St)(ρ:Ev):Prop where
 len:σ.length=ρ.length
 same:Same H9 H
 sub:∀a,O0 a->O a
 trk:∀a,O a->∃o,H a=some o/\Mt o
 trk0:∀a,O0 a->∃o,H9 a=some o
 tab:Tb H
 slot:∀(i:Nat) (sl:Sl),ρ[i]?=some sl->bQ K H9 H O σ[i]? sl
 inj:∀(i j:Nat) (x y:Sl) (a:Addr),ρ[i]?=some x->ρ[j]?=some y->JW x->JW y->σ[i]?=some (some (V.ref a))->σ[j]?=some (some (V.ref a))->i=j
section
variable{K:i6} {O0 O O':bb->Prop}
def Tb.same (h:Tb H)(s:Same H H'):Tb H':=λp a=>s _ _ (h p a)
def EnvOk.val (E:EnvOk K a O0 H O σ ρ)(i:Nat)(d:D)(h:ρ[i]?=some (Sl.v d)):∃v,σ[i]?=some (some v)/\Rep K H O v d:=E.slot i _ h
def EnvOk.own (E:EnvOk K b O0 H O σ ρ)(i:Nat)(Y:List D)(h:ρ[i]?=some (Sl.o Y)):∃a vs,σ[i]?=some (some (V.ref a))/\O a/\b a=none/\H a=some (.lst vs)/\Reps K H O vs Y:=E.slot i _ h
def nT.mono (f:∀{v:V} {d:D},Rep K H O v d->Rep K H' O' v d):∀{N:List (D×D)},nT K H O es N->nT K H' O' es N:=λ{_} r=>Paired.af5 r λ_ _ ⟨⟨v,a,b⟩,⟨w,e,g⟩,h⟩=>⟨⟨v,a,f b⟩,⟨w,e,f g⟩,h⟩
def bQ.move (h:bQ K y H O x sl)(i:∀a Y,U4 K H a Y->U4 K H' a Y)(j:∀a Y,¬O a->N2 K H a Y->¬O' a/\N2 K H' a Y)(z:∀a o u,H a=some (.frz o u)->H' a=some (.frz o u))(l:Kp H O H' O')(w:JW sl->∀a o,x=some (some (V.ref a))->O a->H a=some o->O' a/\H' a=some o):bQ K y H' O' x sl:=by
 have p:∀a φ,¬O a->H a=some (.ext φ)->¬O' a/\H' a=some (.ext φ):=λa φ n h=>⟨(l a _ h n).2,(l a _ h n).1⟩;cases sl with
 |no=>trivial
 |v d=>obtain⟨v,b,e⟩:=h;exact⟨v,b,e.mono i j p⟩
 |o Y=>obtain⟨a,A,b,e,f,q,s⟩:=h;obtain⟨g,t⟩:=w trivial a _ b e q;exact⟨a,A,b,g,f,t,s.mono i j p⟩
 |x C=>obtain⟨a,o,b,e,f⟩:=h;exact⟨a,o,b,z _ _ _ e,f⟩
 |c m φ=>obtain⟨a,b,e⟩:=h;exact⟨a,b,λB E k=>e B E (l.trans k)⟩
 |d N=>obtain⟨a,o,I,b,e,f,q,s,g⟩:=h;obtain⟨t,J⟩:=w trivial a _ b e q;exact⟨a,o,I,b,t,f,J,s,g.1.mono λr=>r.mono i j p,g.2⟩
def bQ.grow (h:bQ K a H O x sl)(e:Same H H'):bQ K a H' O x sl:=
 h.move (λ_ _ q=>e.tup q) (λ_ _ n q=>⟨n,e.seq q⟩) (λ_ _ _ q=>e _ _ q) (Kp.of e) λ_ _ _ _ b d=>⟨b,e _ _ d⟩
def EnvOk.grow (E:EnvOk K b O0 H O σ ρ)(e:Same H H'):EnvOk K b O0 H' O σ ρ where
 len:=E.len
 same:=E.same.trans e
 sub:=E.sub
 trk:=λa h=>let⟨o,q,m⟩:=E.trk a h;⟨o,e a o q,m⟩
 trk0:=E.trk0
 tab:=E.tab.same e
 slot:=λi d h=>(E.slot i d h).grow e
 inj:=E.inj
def EnvOk.fresh (E:EnvOk K a O0 H O σ ρ)(h:H p=none):¬O p:=λz=>by obtain⟨o,q,_⟩:=E.trk p z;rw[h]at q;cases q
def v8 {α:Type}{l:List α}{i j:Nat}{x:α}(h:i≠j):(l.set i x)[j]?=l[j]?:=aCw h
def A2 {α:Type}{l:List α}{i:Nat}{x y:α}(h:(l.set i x)[i]?=some y):y=x/\i<l.length:=by
 have a:i<l.length:=by have:=(aAC.mp h).1;simpa using this
 rw[aBJ a]at h;exact⟨(Option.some.inj h).symm,a⟩
def EnvOk.put (E:EnvOk K f O0 H O σ ρ){v:Option V}{sl:Sl}(i:Nat)(no:¬JW sl)(r:bQ K f H O (some v) sl):EnvOk K f O0 H O (σ.set i v) (ρ.set i sl)where
 len:=by simpa using E.len
 same:=E.same
 sub:=E.sub
 trk:=E.trk
 trk0:=E.trk0
 tab:=E.tab
 slot:=λj s h=>by
  by_cases g:i=j
  .subst g;obtain⟨e,u⟩:=A2 h;subst e;rw[aBJ (by rw[E.len];exact u)];exact r
  .rw[v8 g]at h⊢;exact E.slot j s h
 inj:=λj k x y a b d m n p t=>by
  have ne:∀(l:Nat) (z:Sl),(ρ.set i sl)[l]?=some z->JW z->i≠l:=λl z q o e=>by subst e;obtain⟨e,_⟩:=A2 q;subst e;exact no o
  have w:=ne j x b m;have A:=ne k y d n;rw[v8 w]at b p;rw[v8 A]at d t;exact E.inj j k x y a b d m n p t
def EnvOk.set (E:EnvOk K a O0 H O σ ρ)(i:Nat)(r:Rep K H O v d):EnvOk K a O0 H O (σ.set i (some v)) (ρ.set i (.v d)):=E.put i (λz=>z) ⟨v,rfl,r⟩
def bQ.at_ (h:bQ K i H O x sl)(o:JW sl):∃a u,x=some (some (V.ref a))/\O a/\i a=none/\H a=some u/\Mt u:=by
 cases sl with
 |o Y=>obtain⟨a,j,b,e,f,g,_⟩:=h;exact⟨a,_,b,e,f,g,trivial⟩
 |d N=>obtain⟨a,u,k,b,e,f,g,_⟩:=h;exact⟨a,_,b,e,f,g,trivial⟩
 |_=>exact o.elim
def EnvOk.af3 (E:EnvOk K t O0 H O σ ρ){a:bb}{sl:Sl}(i:Nat)(u:∀(j:Nat) (y:Sl),i≠j->ρ[j]?=some y->JW y->σ[j]?≠some (some (V.ref a)))(r:bQ K t H O (some (some (V.ref a))) sl):
  EnvOk K t O0 H O (σ.set i (some (V.ref a))) (ρ.set i sl)where
 len:=by simpa using E.len
 same:=E.same
 sub:=E.sub
 trk:=E.trk
 trk0:=E.trk0
 tab:=E.tab
 slot:=λj s h=>by
  by_cases d:i=j
  .subst d;obtain⟨e,z⟩:=A2 h;subst e;rw[aBJ (by rw[E.len];exact z)];exact r
  .rw[v8 d]at h⊢;exact E.slot j s h
 inj:=λj k x y b n o v w g m=>by
  have at_:∀(l:Nat),i=l->(σ.set i<|some<|V.ref a)[l]?=some (some<|V.ref b)->b=a:=λl e q=>by subst e;obtain⟨e,_⟩:=A2 q;injection e with e;injection e
  by_cases d:i=j
  .by_cases f:i=k
   .exact d.symm.trans f
   .exfalso;have p:=at_ j d g;subst p;rw[v8 f]at o m;exact u k y f o w m
  .by_cases f:i=k
   .exfalso;have p:=at_ k f m;subst p;rw[v8 d]at n g;exact u j x d n v g
   .rw[v8 d]at n g;rw[v8 f]at o m;exact E.inj j k x y b n o v w g m
def j8 (h:H p=none)(o:HO):Same H (upd H p o):=λb u q=>by rw[k9 (t5 q h)];exact q
def EnvOk.ab9 (E:EnvOk K f O0 H O σ ρ)(h:H a=none)(g:K.lookup a=none)(m:Mt u):EnvOk K f O0 (upd H a u) (λb=>O b\/b=a) σ ρ:=by
 have s:=j8 h u;have ne:∀b Y,N2 K H b Y->b≠a:=λb Y q z=>by
  subst z;rcases q with(q|⟨o,q⟩)|⟨o,_,_,q,_⟩
  .rw[h]at q;cases q
  .rw[h]at q;cases q
  .rw[g]at q;cases q
 refine⟨E.len,E.same.trans s,λb z=>.inl (E.sub b z),λb z=>?_,E.trk0,E.tab.same s,λi j e=>?_,E.inj⟩
 .rcases z with z|z
  .obtain⟨o,q,m⟩:=E.trk b z;exact⟨o,s b o q,m⟩
  .subst z;exact⟨_,j3,m⟩
 .exact(E.slot i j e).move (λ_ _ q=>s.tup q) (λb Y n q=>⟨λz=>z.elim n (ne b Y q),s.seq q⟩) (λ_ _ _ q=>s _ _ q) (λb o d n=>⟨s b o d,λz=>z.elim n λe=>by subst e;rw[h]at d;cases d⟩) λ_ b o _ k l=>⟨.inl k,s _ _ l⟩
def YY (h:H a=none)(d:K.lookup a=none)(q:N2 K H b Y):b≠a:=λz=>by
 subst z;rcases q with(q|⟨o,q⟩)|⟨o,_,_,q,_⟩
 .rw[h]at q;cases q
 .rw[h]at q;cases q
 .rw[d]at q;cases q
def Reps.ab9 (h:H a=none)(e:K.lookup a=none)(r:Reps K H O v d):Reps K (upd H a u) (λb=>O b\/b=a) v d:=
 r.mono (λ_ _ q=>(j8 h u).tup q) (λb Y n q=>⟨λz=>z.elim n (YY h e q),(j8 h u).seq q⟩) λb φ n q=>⟨λz=>z.elim n (t5 q h),j8 h u _ _ q⟩
def EnvOk.ad8 (E:EnvOk K f O0 H O σ ρ)(i:Nat)(h:H a=none)(k:K.lookup a=none)(m:Mt u)(r:f a=none->bQ K f (upd H a u) (λb=>O b\/b=a) (some (some (V.ref a))) sl):
  EnvOk K f O0 (upd H a u) (λb=>O b\/b=a) (σ.set i (some (.ref a))) (ρ.set i sl):=by
 have l:f a=none:=by
  cases e:f a with
  |none=>rfl
  |some o=>have:=E.same a o e;rw[h]at this;cases this
 refine(E.ab9 h k m).af3 i (λj y _ e o q=>?_) (r l);obtain⟨b,w,d,_,_,g,_⟩:=(E.slot j y e).at_ o;rw[q]at d;injection d with d;injection d with d;injection d with d;subst d;rw[h]at g;cases g
def uJ (h:H a=some u)(m:Mt u)(q:U4 K H b Y):U4 K (upd H a u') b Y:=by
 have ne:∀w,H b=some w->¬Mt w->b≠a:=λw e n z=>by subst z;rw[h]at e;cases e;exact n m
 rcases q with(q|⟨o,q⟩)|q
 .exact .inl (.inl (by rw[k9 (ne _ q λz=>z)];exact q))
 .exact .inl (.inr ⟨o,by rw[k9 (ne _ q λz=>z)];exact q⟩)
 .exact .inr q
def wH (d:O a)(n:¬O b)(q:N2 K H b Y):N2 K (upd H a u') b Y:=by
 have ne:b≠a:=λz=>by subst z;exact n d
 rcases q with(q|⟨o,q⟩)|q
 .exact .inl (.inl (by rw[k9 ne];exact q))
 .exact .inl (.inr ⟨o,by rw[k9 ne];exact q⟩)
 .exact .inr q
def Rep.upd (h:H a=some u)(m:Mt u)(e:O a)(r:Rep K H O v d):Rep K (upd H a u') O v d:=r.mono (λ_ _ q=>uJ h m q) (λ_ _ n q=>⟨n,wH e n q⟩) λb _ n q=>⟨n,by rw[k9 (λz=>n (by rw[z];exact e))];exact q⟩
def Reps.upd (h:H a=some u)(m:Mt u)(e:O a)(r:Reps K H O v d):Reps K (upd H a u') O v d:=r.mono (λ_ _ q=>uJ h m q) (λ_ _ n q=>⟨n,wH e n q⟩) λb _ n q=>⟨n,by rw[k9 (λz=>n (by rw[z];exact e))];exact q⟩
def EnvOk.ad6 {i:Nat}{sl sl':Sl}{a:bb}{u u':HO}(E:EnvOk K t O0 H O σ ρ)(e:ρ[i]?=some sl)(v:JW sl)(A:σ[i]?=some (some (V.ref a)))(B:H a=some u)(m':Mt u')(ow':JW sl')
  (r:O a->t a=none->Mt u->bQ K t (upd H a u') O (some (some (V.ref a))) sl'):EnvOk K t O0 (upd H a u') O σ (ρ.set i sl')/\Kp H O (upd H a u') O:=by
 obtain⟨b,w,d,C,U,Y,m⟩:=(E.slot i sl e).at_ v;rw[A]at d;injection d with d;injection d with d;injection d with d;subst d;rw[B]at Y;cases Y;have kp:Kp H O (upd H a u') O:=λb o g n=>⟨by rw[k9 (λz=>by subst z;exact n C)];exact g,n⟩;have nf:∀b w,H b=some w->¬Mt w->upd H a u' b=some w:=λb w q n=>by rw[k9 (λz=>by subst z;rw[B]at q;cases q;exact n m)];exact q
 refine⟨⟨by simpa using E.len,λb o q=>?_,E.sub,λb z=>?_,E.trk0,λp hp=>nf _ _ (E.tab p hp) λz=>z,λj s h=>?_,λj k x y b I J o1 o2 L q4=>?_⟩,kp⟩
 .rw[k9 (λz=>by subst z;rw[U]at q;cases q)];exact E.same b o q
 .by_cases g:b=a
  .subst g;exact⟨_,j3,m'⟩
  .obtain⟨o,q,m⟩:=E.trk b z;exact⟨o,by rw[k9 g];exact q,m⟩
 .by_cases N:i=j
  .subst N;obtain⟨e',_⟩:=A2 h;subst e';rw[A];exact r C U m
  .rw[v8 N]at h;refine(E.slot j s h).move (λ_ _ q=>uJ B m q) (λ_ _ n q=>⟨n,wH C n q⟩) (λb o w q=>nf _ _ q λz=>z) kp λo b w I J L=>⟨J,?_⟩;rw[k9 (λz=>by subst z;exact N (E.inj i j sl s b e h v o A I))];exact L
 .have f:∀l z,(ρ.set i sl')[l]?=some z->JW z->∃z',ρ[l]?=some z'/\JW z':=λl z q o=>by
   by_cases hl:i=l
   .subst hl;exact⟨sl,e,v⟩
   .rw[v8 hl]at q;exact⟨z,q,o⟩
  obtain⟨x',u1,Q⟩:=f j x I o1;obtain⟨y',u2,T⟩:=f k y J o2;exact E.inj j k x' y' b u1 u2 Q T L q4
def EnvOk.af0 {i:Nat}{sl sl':Sl}{a:bb}(E:EnvOk K v O0 H O σ ρ)(e:ρ[i]?=some sl)(A:JW sl)(p:σ[i]?=some (some (V.ref a)))(no:¬JW sl')(r:bQ K v H (λb=>O b/\b≠a) (some (some (V.ref a))) sl'):
  EnvOk K v O0 H (λb=>O b/\b≠a) σ (ρ.set i sl'):=by
 obtain⟨b,w,d,T,I,U,m⟩:=(E.slot i sl e).at_ A;rw[p]at d;injection d with d;injection d with d;injection d with d;subst d;have sub:∀b,(O b/\b≠a)->O b:=λb z=>z.1;refine⟨by simpa using E.len,E.same,λb z=>⟨E.sub b z,λq=>?_⟩,λb z=>E.trk b z.1,E.trk0,E.tab,λj s h=>?_,λj k x y b f g B C t J=>?_⟩
 .subst q;obtain⟨o,q⟩:=E.trk0 b z;rw[I]at q;cases q
 .by_cases u:i=j
  .subst u;obtain⟨l,_⟩:=A2 h;subst l;rw[p];exact r
  .rw[v8 u]at h;refine(E.slot j s h).move (λ_ _ q=>q) (λ_ _ n q=>⟨λz=>n z.1,q⟩) (λ_ _ _ q=>q) (λb o L n=>⟨L,λz=>n z.1⟩) λo b w f g t=>⟨⟨g,λz=>?_⟩,t⟩;subst z;exact u (E.inj i j sl s b e h A o p f)
 .have N:i≠j:=λz=>by subst z;obtain⟨l,_⟩:=A2 f;subst l;exact no B
  have Q:i≠k:=λz=>by subst z;obtain⟨l,_⟩:=A2 g;subst l;exact no C
  rw[v8 N]at f;rw[v8 Q]at g;exact E.inj j k x y b f g B C t J
end
def XW (X:Cx)(e:Str)(H:Hp):Prop:=False
def RC (X:Cx)(H:Hp)(O:bb->Prop)(r:R D)(Q:VK):Prop:=match r with
 |.ok d=>∀v a,Same H a->Rep X.K a O v d->Q v a
 |.ex e=>∀a,Same H a->XW X e a
 |.bad=>False
def A5 (K:i6)(H:Hp)(O:bb->Prop)(v:V)(d:D):Prop:=Rep K H O v d\/∃a b e,v=.ref a/\d=.lst e/\N2 K H a b/\Reps K H O b e
def NZ (X:Cx)(H:Hp)(O:bb->Prop)(r:R D)(Q:VK):Prop:=match r with
 |.ok d=>∀v a,Same H a->A5 X.K a O v d->Q v a
 |.ex e=>∀a,Same H a->XW X e a
 |.bad=>False
def zW (X:Cx)(H:Hp)(r:R Bool)(Q:Bool->Hp->Prop):Prop:=match r with
 |.ok b=>∀a,Same H a->Q b a
 |.ex e=>∀a,Same H a->XW X e a
 |.bad=>False
def IG (X:Cx)(H:Hp)(O:bb->Prop)(r:R (List D))(Q:List V->Hp->Prop):Prop:=match r with
 |.ok d=>∀b a,Same H a->Reps X.K a O b d->Q b a
 |.ex e=>∀a,Same H a->XW X e a
 |.bad=>False
def QR (X:Cx)(H:Hp)(O:bb->Prop)(r:R (List D))(Q:List V->Hp->Prop):Prop:=match r with
 |.ok d=>∀b a,Same H a->Paired (A5 X.K a O) b d->Q b a
 |.ex e=>∀a,Same H a->XW X e a
 |.bad=>False
def tD (X:Cx)(f:Ev->R D):TE:=λσ H Q=>∃a b O ρ,EnvOk X.K a b H O σ ρ/\RC X H O (f ρ) Q
def tDB (X:Cx)(f:Ev->R D):TE:=λσ H Q=>∃a b O ρ,EnvOk X.K a b H O σ ρ/\NZ X H O (f ρ) Q
def tDT (X:Cx)(f:Ev->R Bool):TT:=λσ H Q=>∃a b O ρ,EnvOk X.K a b H O σ ρ/\zW X H (f ρ) Q
def tDs (X:Cx)(f:Ev->R (List D)):TA:=λσ H Q=>∃a b O ρ,EnvOk X.K a b H O σ ρ/\IG X H O (f ρ) Q
def a2b (X:Cx)(f:Ev->R (List D)):TA:=λσ H Q=>∃a b O ρ,EnvOk X.K a b H O σ ρ/\QR X H O (f ρ) Q
def PD (X:Cx)(e:cu)(f:Ev->R D):Prop:=PE X e (tD X f)
def PB (X:Cx)(e:cu)(f:Ev->R D):Prop:=PE X e (tDB X f)
def FK (X:Cx)(e:cu)(f:Ev->R Bool):Prop:=PT X e (tDT X f)
def KF (X:Cx)(es:List cu)(f:Ev->R (List D)):Prop:=PA X es (tDs X f)
def fx (X:Cx)(es:List cu)(f:Ev->R (List D)):Prop:=PA X es (a2b X f)
def UH {r:Hp->(bb->Prop)->Ev->VK->Prop}(h:PE X e t)(i:∀σ H Q a b O ρ,EnvOk X.K a b H O σ ρ->r H O ρ Q->t σ H Q):PE X e λσ H Q=>∃a b O ρ,EnvOk X.K a b H O σ ρ/\r H O ρ Q:=λd s σ H Q I q=>h d s σ H Q I (let⟨a,b,O,ρ,E,q⟩:=q;i σ H Q a b O ρ E q)
def ptI {r:Hp->(bb->Prop)->Ev->(Bool->Hp->Prop)->Prop}(h:PT X e t)(i:∀σ H Q a b O ρ,EnvOk X.K a b H O σ ρ->r H O ρ Q->t σ H Q):PT X e λσ H Q=>∃a b O ρ,EnvOk X.K a b H O σ ρ/\r H O ρ Q:=λd s σ H Q I q=>h d s σ H Q I (let⟨a,b,O,ρ,E,q⟩:=q;i σ H Q a b O ρ E q)
def paI {r:Hp->(bb->Prop)->Ev->(List V->Hp->Prop)->Prop}(h:PA X es t)(i:∀σ H Q a b O ρ,EnvOk X.K a b H O σ ρ->r H O ρ Q->t σ H Q):PA X es λσ H Q=>∃a b O ρ,EnvOk X.K a b H O σ ρ/\r H O ρ Q:=λe d s σ H Q I q=>h e d s σ H Q I (let⟨a,b,O,ρ,E,q⟩:=q;i σ H Q a b O ρ E q)
def wN {β:Type}{r:Hp->(bb->Prop)->Ev->β->Prop}{G:List (bb×Obj)->a9->St->Hp->β->Prop}(h:∀a s σ H Q,Inv X a σ H s->∀b d O ρ,EnvOk X.K b d H O σ ρ->r H O ρ Q->G a s σ H Q)(a s σ H Q)(I:Inv X a σ H s)(q:∃b d O ρ,EnvOk X.K b d H O σ ρ/\r H O ρ Q):G a s σ H Q:=let⟨b,d,O,ρ,E,q⟩:=q;h a s σ H Q I b d O ρ E q
def PD.pb (h:PD X e f):PB X e f:=UH h λσ H Q a b O ρ E q=>⟨a,b,O,ρ,E,by
 unfold RC NZ at*
 cases e:f ρ with
 |ok d=>rw[e]at q;exactλv g s r=>q v g s (.inl r)
 |ex x=>rw[e]at q;exact q
 |bad=>rw[e]at q;exact q⟩
def RC.seq {O:bb->Prop}(h:RC X H O (r.bind g) Q):
  RC X H O r λv b=>∃d,r=.ok d/\Same H b/\Rep X.K b O v d/\RC X b O (g d) Q:=by
 cases r with
 |ok d=>
  intro v b f k;refine⟨d,rfl,f,k,?_⟩;have a:RC X H O (g d) Q:=h;cases e:g d with
  |ok m=>rw[e]at a;exactλw i j l=>a w i (f.trans j) l
  |ex x=>rw[e]at a;exactλi j=>a i (f.trans j)
  |bad=>rw[e]at a;exact a
 |ex x=>exact h
 |bad=>exact h
def NZ.seq {O:bb->Prop}(h:RC X H O (r.bind g) Q):
  NZ X H O r λv b=>∃d,r=.ok d/\Same H b/\A5 X.K b O v d/\RC X b O (g d) Q:=by
 cases r with
 |ok d=>
  intro v b f k;refine⟨d,rfl,f,k,?_⟩;have a:RC X H O (g d) Q:=h;cases e:g d with
  |ok m=>rw[e]at a;exactλw i j l=>a w i (f.trans j) l
  |ex x=>rw[e]at a;exactλi j=>a i (f.trans j)
  |bad=>rw[e]at a;exact a
 |ex x=>exact h
 |bad=>exact h
def RC.grow {O:bb->Prop}(h:RC X H O r Q)(e:Same H f):RC X f O r Q:=by
 cases r with
 |ok d=>exactλw a b g=>h w a (e.trans b) g
 |ex x=>exactλa b=>h a (e.trans b)
 |bad=>exact h
end
section
variable [Tabs]
section
variable{X:Cx}
def A5.same (e:Same H H')(r:A5 X.K H O v d):A5 X.K H' O v d:=by
 rcases r with r|⟨a,b,f,g,h,i,j⟩
 .exact .inl (r.same e)
 .exact .inr ⟨a,b,f,g,h,e.seq i,j.same e⟩
def A5.aa5 {K:i6}{ds:List D}(r:A5 K H O v (.lst ds)):∃a vs,v=.ref a/\N2 K H a vs/\Reps K H O vs ds:=by
 rcases r with r|⟨a,vs,g,d,b,e,f⟩
 .cases r with|lst h n r=>exact⟨_,_,rfl,h,r⟩
 .injection b with b;subst b;exact⟨a,vs,d,e,f⟩
def A5.ag0 {K:i6}(r:A5 K H O v .dct):∃a o,v=.ref a/\H a=some (.ext λh=>h.get? a=some o)/\o.ExactDict:=by
 rcases r with r|⟨a,d,e,f,b,g,i⟩
 .cases r with|dct h x n=>exact⟨_,_,rfl,h,x⟩
 .cases b
def A5.tupI {K:i6}{ds:List D}(r:A5 K H O v (.tup ds)):∃a vs,v=.ref a/\U4 K H a vs/\Reps K H O vs ds:=by
 rcases r with r|⟨a,vs,d,e,b,f,g⟩
 .cases r with|tup h r=>exact⟨_,_,rfl,h,r⟩
 .cases b
def A5.aa6 {K:i6}{i:Int}(r:A5 K H O v (.int i)):v=.int i:=by
 rcases r with r|⟨a,d,e,f,b,g,h⟩
 .cases r;rfl
 .cases b
def A5.blI {K:i6}{i:Bool}(r:A5 K H O v (.bl i)):v=.bl i:=by
 rcases r with r|⟨a,d,e,f,b,g,h⟩
 .cases r;rfl
 .cases b
def A5.ac2 {K:i6}(r:A5 K H O v .non):v=.non:=by
 rcases r with r|⟨a,d,e,f,b,g,h⟩
 .cases r;rfl
 .cases b
def A5.ac4 {K:i6}{i:Str}(r:A5 K H O v (.str i)):v=.str i:=by
 rcases r with r|⟨a,d,e,f,b,g,h⟩
 .cases r;rfl
 .cases b
end
def Z8 (i:Nat)(ρ:Ev):R D:=match ρ[i]? with
 |some (.v d)=>.ok d
 |_=>.bad
def uV (i:Nat)(ρ:Ev):R D:=match ρ[i]? with
 |some (.v d)=>.ok d
 |some (.o Y)=>.ok (.lst Y)
 |_=>.bad
section
def d5 (i:Nat)(a:X.N[i]?=some x:=by rfl)(b:BN X.env.scope x:=by first|exact aCV rfl|exact aCc (aCV rfl)|exact aCc (aCc rfl))(f:(x==jh)=false:=by decide)(g:(x==ji)=false:=by decide):PD X (.Name x h) (Z8 i):=UH (R6 a b f g) λσ H Q n p O ρ E q=>by
 unfold Z8 at q;cases e:ρ[i]? with
 |none=>rw[e]at q;exact q.elim
 |some j=>
  rw[e]at q;cases j with
  |no=>exact q.elim
  |x C=>exact q.elim
  |c m φ=>exact q.elim
  |d N=>exact q.elim
  |o Y=>exact q.elim
  |v d=>obtain⟨v,k,l⟩:=E.val i d e;exact⟨v,k,q v H (Same.refl H) l⟩
def b8 (i:Nat)(g:X.N[i]?=some x:=by rfl)(h:BN X.env.scope x:=by first|exact aCV rfl|exact aCc (aCV rfl)|exact aCc (aCc rfl))(j:(x==jh)=false:=by decide)(k:(x==ji)=false:=by decide):PB X (.Name x l) (uV i):=UH (R6 g h j k) λσ H Q t u O ρ E q=>by
 unfold uV at q;cases e:ρ[i]? with
 |none=>rw[e]at q;exact q.elim
 |some n=>
  rw[e]at q;cases n with
  |no=>exact q.elim
  |x C=>exact q.elim
  |c m φ=>exact q.elim
  |d N=>exact q.elim
  |o Y=>obtain⟨a,p,b,f,w,r,s⟩:=E.own i Y e;exact⟨_,b,q _ H (Same.refl H) (.inr ⟨a,p,Y,rfl,rfl,N2.of r,s⟩)⟩
  |v d=>obtain⟨v,b,f⟩:=E.val i d e;exact⟨v,b,q v H (Same.refl H) (.inl f)⟩
def XI (d:D)(_:Ev):R D:=.ok d
def vF (h:PE X e (tC v))(r:∀H O,Rep X.K H O v d):PD X e (XI d):=UH h λσ H Q a b O ρ E q=>q v H (Same.refl H) (r H O)
def c9 {j a}:PD X (.Constant (.int i) j a) (XI (.int i)):=vF ZP λ_ _=>.int
def GA {j a}:PD X (.Constant (.bool i) j a) (XI (.bl i)):=vF rq λ_ _=>.bl
def DA {j a}:PD X (.Constant .none j a) (XI .non):=vF YG λ_ _=>.non
def lX (X:Cx)(f:ae->ae->Sem ae)(g:D->D->R D):Prop:=
 ∀(H:Hp) (O:bb->Prop) (x y:V) (a b:D) (Q:VK),(∀p,H p=none->¬O p)->A5 X.K H O x a->A5 X.K H O y b->RC X H O (g a b) Q->∃r,lS X f r/\r x y H Q
def a2a (X:Cx)(O:bb->Prop)(g:D->D->R D)(Q:VK):V->V->Hp->Prop:=λx y H=>∃a b,(∀p,H p=none->¬O p)/\A5 X.K H O x a/\A5 X.K H O y b/\RC X H O (g a b) Q
def mV {f O:bb->Prop}(E:EnvOk X.K k f H O σ ρ)(q:RC X H O ((l ρ).bind λx=>(m ρ).bind λy=>g x y) Q):
  tDB X l σ H λx h=>tDB X m σ h λy i=>a2a X O g Q x y i:=by
 refine⟨k,f,O,ρ,E,?_⟩;have a:=NZ.seq q;revert a;cases C:l ρ with
 |ok s=>
  intro a x h n t;obtain⟨d,e,_,r,u⟩:=a x h n t;cases e;have o:=E.grow n;refine⟨k,f,O,ρ,o,?_⟩;have b:=NZ.seq u;revert b;cases I:m ρ with
  |ok v=>intro b y i j w;obtain⟨J,e,_,z,A⟩:=b y i j w;cases e;exact⟨s,v,λp B=>(o.grow j).fresh B,r.same j,z,A⟩
  |ex x=>intro b;exact b
  |bad=>intro b;exact b
 |ex x=>intro a;exact a
 |bad=>intro a;exact a
def d4 (f:lX X (d3 op) g)(i:PB X a j)(k:PB X b l):PD X (.BinOp a op b m) (λρ=>(j ρ).bind λx=>(l ρ).bind λy=>g x y):=by refine wN λd s σ H Q I N T O ρ E q=>?_;refine wpAny_BinOp (MB i k I (mV E q) λv u n x y e o p t h=>?_);obtain⟨w,z,A,B,C,q⟩:=h;obtain⟨r,J,L⟩:=f e O x y w z Q A B C q;exact J d n σ e x y v u Q o p t L
def dz (f:lX X (dA op) g)(i:PB X a j)(k:PB X b l)(m:hF op b=false:=by first|exact MI _|with_unfolding_all rfl):
  PD X (.Compare a [op] [b] n) (λρ=>(j ρ).bind λx=>(l ρ).bind λy=>g x y):=by
 refine wN λd s σ H Q I T U O ρ E q=>?_;refine wpAny_Compare1 (MB i k I (mV E q) λv u o x y e p t w h=>?_) m;obtain⟨z,A,B,C,J,q⟩:=h;obtain⟨r,L,N⟩:=f e O x y z A Q B C J q;exact L d o σ e x y v u Q p t w N
def xP:D->R Bool
 |.bl b=>.ok b
 |_=>.bad
def GB {O:bb->Prop}{Q:Bool->Hp->Prop}(h:zW X H (r.bind xP) Q):RC X H O r λv a=>∃c,v=.bl c/\Q c a:=by
 cases r with
 |ok d=>
  cases d with
  |bl b=>intro v a e f;cases f;exact⟨b,rfl,h a e⟩
  |_=>exact(show False from h).elim
 |ex x=>exact h
 |bad=>exact h
def o9 (i:lX X (dA op) g)(j:PB X a l)(m:PB X b n)(o:hF op b=false:=by first|exact MI _|with_unfolding_all rfl):
  FK X (.Compare a [op] [b] p) (λρ=>((l ρ).bind λx=>(n ρ).bind λy=>g x y).bind xP):=by
 refine wN λd s σ H Q I H9 O0 O ρ E q=>?_;have t:=GB (O:=O) q;refine wpAny_isTrue_Compare1 (MB j m I (mV E t) λv u w x y f A B C h=>?_) o;obtain⟨J,L,N,T,U,q⟩:=h;obtain⟨r,Y,hq⟩:=i f O x y J L _ N T U q;refine F7 (Y d w σ f x y v u _ A B C hq) λc s3 z9=>?_;obtain⟨z,H3,I3,r3,k,e,q3⟩:=z9;subst e;cases r3;exact aBO ⟨H3,I3,q3⟩
def uM (h:PD X e f)(a:∀whole,isTrue e X.env whole=(do let v<-whole;standAt e.pos;fg [v] (truthy v)):=by intro _;rfl):FK X e (λρ=>(f ρ).bind xP):=by refine ptI (XX h a) λσ H Q b d O ρ E q=>⟨b,d,O,ρ,E,GB q⟩
def zW.seq {Q:Bool->Hp->Prop}(h:zW X H (r.bind g) Q):zW X H r λb f=>r=.ok b/\Same H f/\zW X f (g b) Q:=by
 cases r with
 |ok d=>
  intro f i;refine⟨rfl,i,?_⟩;have a:zW X H (g d) Q:=h;cases e:g d with
  |ok l=>rw[e]at a;exactλj k=>a j (i.trans k)
  |ex x=>rw[e]at a;exactλj k=>a j (i.trans k)
  |bad=>rw[e]at a;exact a
 |ex x=>exact h
 |bad=>exact h
def zW.mono {Q e:Bool->Hp->Prop}(h:zW X H r Q)(i:∀b a,Q b a->e b a):zW X H r e:=by
 cases r with
 |ok d=>exactλa f=>i _ _ (h a f)
 |ex x=>exact h
 |bad=>exact h
def RC.mono {O:bb->Prop}(h:RC X H O r Q)(i:∀b a,Q b a->e b a):RC X H O r e:=by
 cases r with
 |ok d=>exactλv a f g=>i _ _ (h v a f g)
 |ex x=>exact h
 |bad=>exact h
def KG (X:Cx)(e:cu)(f:Ev->R Bool):Prop:=PW X e (tDT X f)
def fw (f g:Ev->R Bool):Ev->R Bool:=λρ=>(f ρ).bind λb=>if b=true then g ρ else .ok false
def orB (f g:Ev->R Bool):Ev->R Bool:=λρ=>(f ρ).bind λb=>if b=true then .ok true else g ρ
def yw (f:Ev->R Bool):Ev->R Bool:=λρ=>(f ρ).bind λb=>.ok (!b)
variable{rest:List cu}
def yW (b:FK X a f):KG X (.BoolOp .And [a] d) f:=RW b
def GQ (b:FK X a f):KG X (.BoolOp .Or [a] d) f:=YU b
def OL (h:PW X e t)(i:∀σ H Q,t' σ H Q->t σ H Q):PW X e t':=λb a s σ H Q I q=>h b a s σ H Q I (i σ H Q q)
def FN (j:FK X a f)(k:KG X (.BoolOp .And (b::rest) d) g):KG X (.BoolOp .And (a::b::rest) d) (fw f g):=
 OL (ZS j k) λσ H Q ⟨e,h,O,ρ,E,q⟩=>⟨e,h,O,ρ,E,zW.mono (zW.seq q)<|by
  rintro b l ⟨_,m,i⟩;cases b with
  |true=>rw[h9 rfl];exact⟨e,h,O,ρ,E.grow m,i⟩
  |false=>rw[ib aBb];exact i l (Same.refl _)⟩
def uT (j:FK X a f)(k:KG X (.BoolOp .Or (b::rest) d) g):KG X (.BoolOp .Or (a::b::rest) d) (orB f g):=
 OL (my j k) λσ H Q ⟨e,h,O,ρ,E,q⟩=>⟨e,h,O,ρ,E,zW.mono (zW.seq q)<|by
  rintro b l ⟨_,m,i⟩;cases b with
  |false=>rw[ib aBb];exact⟨e,h,O,ρ,E.grow m,i⟩
  |true=>rw[h9 rfl];exact i l (Same.refl _)⟩
def KG.pt (h:KG X e f):FK X e f:=PW.pt h
def RF (d:FK X a f):FK X (.UnaryOp .Not a e) (yw f):=
 ptI (gq d) λσ H Q g h O ρ E q=>⟨g,h,O,ρ,E,zW.mono (zW.seq q)<|by rintro b i ⟨_,k,j⟩;exact j i (Same.refl _)⟩
def RP:D->R D
 |.int i=>.ok (.int (-i))
 |_=>.bad
def fP {f:Ev->R D}(e:PD X a f):PD X (.UnaryOp .USub a g) (λρ=>(f ρ).bind RP):=
 UH (tx cw e) λσ H Q h j O ρ E q=>⟨h,j,O,ρ,E,by
  refine RC.mono (RC.seq q) λv k l=>?_;obtain⟨d,_,n,m,b⟩:=l;cases d with
  |int i=>cases m;exact⟨i,rfl,b _ k (Same.refl _) .int⟩
  |_=>exact(show False from b).elim⟩
def IG.seq {H:Hp}{O:bb->Prop}{r:R (List D)}{g:List D->R D}{Q:VK}(h:RC X H O (r.bind g) Q):
  IG X H O r λv a=>∃d,r=.ok d/\Same H a/\Reps X.K a O v d/\RC X a O (g d) Q:=by
 cases r with
 |ok d=>exactλv a b e=>⟨d,rfl,b,e,(show RC X H O (g d) Q from h).grow b⟩
 |ex x=>exact h
 |bad=>exact h
def IG.mono {O:bb->Prop}{Q e:List V->Hp->Prop}(h:IG X H O r Q)(i:∀b a,Q b a->e b a):IG X H O r e:=by
 cases r with
 |ok d=>exactλv a f g=>i _ _ (h v a f g)
 |ex x=>exact h
 |bad=>exact h
def QR.seq {H:Hp}{O:bb->Prop}{r:R (List D)}{g:List D->R D}{Q:VK}(h:RC X H O (r.bind g) Q):
  QR X H O r λv a=>∃d,r=.ok d/\Same H a/\Paired (A5 X.K a O) v d/\RC X a O (g d) Q:=by
 cases r with
 |ok d=>exactλv a b e=>⟨d,rfl,b,e,(show RC X H O (g d) Q from h).grow b⟩
 |ex x=>exact h
 |bad=>exact h
def NZ.mono {O:bb->Prop}(h:NZ X H O r Q)(i:∀b a,Q b a->e b a):NZ X H O r e:=by
 cases r with
 |ok d=>exactλv a f g=>i _ _ (h v a f g)
 |ex x=>exact h
 |bad=>exact h
def p6 (f:Ev->R D)(g:Ev->R (List D)):Ev->R (List D):=λρ=>(f ρ).bind λd=>(g ρ).bind λa=>.ok (d::a)
def P9:Ev->R (List D):=λ_=>.ok []
def u0:KF X [] P9:=paI bJ λσ H Q a b O ρ E q=>q [] H (Same.refl _) .nil
def i8 {f:Ev->R D}{g:Ev->R (List D)}(m:PD X e f)(n:KF X es g)(o:ar (e::es) X.env=(false,dm e X.env)::ar es X.env:=by rfl):KF X (e::es) (p6 f g):=
 paI (K3 m n o) λσ H Q k l O ρ E q=>⟨k,l,O,ρ,E,by
  unfold p6 at q;cases b:f ρ with
  |ok d=>
   rw[b]at q;intro v t h p;refine⟨k,l,O,ρ,E.grow h,?_⟩;cases i:g ρ with
   |ok u=>rw[i]at q;exactλr j a s=>q (v::r) j (h.trans a) (.cons (p.same a) s)
   |ex x=>rw[i]at q;exactλj a=>q j (h.trans a)
   |bad=>rw[i]at q;exact q
  |ex x=>rw[b]at q;exact q
  |bad=>rw[b]at q;exact q⟩
def C9:fx X [] P9:=paI bJ λσ H Q a b O ρ E q=>q [] H (Same.refl _) .nil
def w6 {f:Ev->R D}{g:Ev->R (List D)}(m:PB X e f)(n:fx X es g)(o:ar (e::es) X.env=(false,dm e X.env)::ar es X.env:=by rfl):fx X (e::es) (p6 f g):=
 paI (K3 m n o) λσ H Q k l O ρ E q=>⟨k,l,O,ρ,E,by
  unfold p6 at q;cases b:f ρ with
  |ok d=>
   rw[b]at q;intro v t h p;refine⟨k,l,O,ρ,E.grow h,?_⟩;cases i:g ρ with
   |ok u=>rw[i]at q;exactλr j a s=>q (v::r) j (h.trans a) (.cons (p.same a) s)
   |ex x=>rw[i]at q;exactλj a=>q j (h.trans a)
   |bad=>rw[i]at q;exact q
  |ex x=>rw[b]at q;exact q
  |bad=>rw[b]at q;exact q⟩
def fA (ds:List D):R D:=if ds.length<=sizeLine then .ok (.tup ds)else .bad
def yV (ds:List D):R D:=if ds.length<=sizeLine then .ok (.lst ds)else .bad
def BF {f:Ev->R (List D)}{e}(h:KF X es f):PD X (.Tuple es e g) (λρ=>(f ρ).bind fA):=
 UH (ZF h) λσ H Q i j O ρ E q=>⟨i,j,O,ρ,E,IG.mono (IG.seq q)<|by
  rintro l m ⟨n,_,o,b,a⟩;unfold fA at a;split at a
  .rename_i k;exact⟨by rw[b.length];exact k,λp d=>a (.ref p) _ (j8 d _) (.tup (U4.of j3) (b.same<|j8 d _))⟩
  .exact a.elim⟩
def kI {f:Ev->R (List D)}(h:KF X es f):PD X (.List es e) (λρ=>(f ρ).bind yV):=
 UH (OQ h) λσ H Q g i O ρ E q=>⟨g,i,O,ρ,E,IG.mono (IG.seq q)<|by
  rintro l m ⟨n,_,j,d,a⟩;unfold yV at a;split at a
  .rename_i k;exact⟨by rw[d.length];exact k,λp b=>a (.ref p) _ (j8 b _) (.lst (N2.of j3) ((E.grow j).fresh b) (d.same<|j8 b _))⟩
  .exact a.elim⟩
def Y3 (X:Cx)(f:ae)(g:List D->R D):Prop:=
 ∀(H:Hp) (O:bb->Prop) (a:List V) (b:List D) (Q:VK),(∀p,H p=none->¬O p)->Paired (A5 X.K H O) a b->RC X H O (g b) Q->∃r,qC X f r/\r a H Q
def aP {x:Str}{id:String}{p:Pos}{f:Ev->R (List D)}{g:List D->R D}(k:Y3 X (.builtin id) g)(l:fx X (e::es) f)(m:Gl X x:=by rfl)(n:X.mg x=none:=by assumption)(o:cv x=some (.builtin id):=by decide+kernel)(t:x≠ "__name__":=by decide)
  (u:(x==jh)=false:=by decide) (v:ar (e::es) X.env=(false,dm e X.env)::ar es X.env:=by rfl) (w:(cz b (ar es X.env)).any (·.1)=false:=by rfl):
  PD X (.Call (.Name x p) (e::es) [] b) (λρ=>(f ρ).bind g):=by
 refine wN λa s σ H Q I y z O ρ E q=>?_;refine aAW (M1 I m n o ?_ t u);refine aBQ (F7 (l b a s σ H _ I ⟨y,z,O,ρ,E,QR.seq q⟩) λA B ⟨i,j,C,J,d,_,L,r,h⟩=>?_) v w;obtain⟨Y,N,T⟩:=k j O i d Q (λp U=>(E.grow L).fresh U) r h;exact N a B σ j i A Q C J T
def aE {x:Str}{T:String}{p:Pos}{f:Ev->R (List D)}{g:List D->R D}(k:Y3 X (.type T) g)(l:fx X (e::es) f)(m:Gl X x:=by rfl)(n:X.mg x=none:=by assumption)(o:cv x=some (.type T):=by decide+kernel)(t:x≠ "__name__":=by decide)
  (u:(x==jh)=false:=by decide) (v:ar (e::es) X.env=(false,dm e X.env)::ar es X.env:=by rfl) (w:(cz b (ar es X.env)).any (·.1)=false:=by rfl):
  PD X (.Call (.Name x p) (e::es) [] b) (λρ=>(f ρ).bind g):=by
 refine wN λa s σ H Q I y z O ρ E q=>?_;refine aAW (M1 I m n o ?_ t u);refine aBk (F7 (l b a s σ H _ I ⟨y,z,O,ρ,E,QR.seq q⟩) λA B ⟨i,j,C,J,d,_,L,r,h⟩=>?_) v w;obtain⟨r',N,U⟩:=k j O i d Q (λp Y=>(E.grow L).fresh Y) r h;exact N a B σ j i A Q C J U
end
mutual
def u8:D->D->Bool
 |.non,.non=>true
 |.bl a,.bl b=>a==b
 |.bl a,.int b=>(if a then 1 else 0)==b
 |.int a,.bl b=>a==(if b then 1 else 0)
 |.int a,.int b=>a==b
 |.str a,.str b=>a==b
 |.tup Y,.tup d=>X4 Y d
 |.lst Y,.lst d=>X4 Y d
 |.dct,.dct=>true
 |_,_=>false
def X4:List D->List D->Bool
 |[],[]=>true
 |x::Y,y::a=>u8 x y&&X4 Y a
 |_,_=>false
end
mutual
def A9:D->Nat
 |.tup Y=>C3 Y+1
 |.lst Y=>C3 Y+1
 |.dct=>dg
 |_=>0
def C3:List D->Nat
 |[]=>0
 |x::Y=>max (A9 x) (C3 Y)
end
mutual
theorem M3:∀d:D,u8 d d=true
 |.non=>by simp[u8]
 |.bl b=>by simp[u8]
 |.int i=>by simp[u8]
 |.str x=>by simp[u8]
 |.tup Y=>by rw[u8];exact kD Y
 |.lst Y=>by rw[u8];exact kD Y
 |.dct=>by simp[u8]
theorem kD:∀ds:List D,X4 ds ds=true
 |[]=>by simp[X4]
 |x::Y=>by rw[X4,M3 x,kD Y];rfl
end
def lN (Y d:List D)(j:Nat):Bool:=match Y[j]?,d[j]? with
 |some a,some b=>u8 a b
 |_,_=>false
theorem fU:∀(Y a:List D),X4 Y a=((aBy (min Y.length a.length)).all (lN Y a)&&(Y.length==a.length))
 |[],[]=>by simp[X4]
 |[],_::_=>by simp[X4]
 |_::_,[]=>by simp[X4]
 |x::Y,y::a=>by
  rw[X4,fU Y a,aAt,aAt,Nat.succ_min_succ,aFK,aGt,List.all_map];have b:lN (x::Y) (y::a) 0=u8 x y:=rfl;have d:(lN (x::Y) (y::a)∘Nat.succ)=lN Y a:=by
   funext j
   simp[lN]
  have e:(Y.length+1==a.length+1)=(Y.length==a.length):=by rw[aDA];simp
  rw[b,d,e,Bool.and_assoc]
theorem vY:∀{Y:List D} {d:D} {j:Nat},Y[j]?=some d->A9 d<=C3 Y
 |[],_,_,h=>by simp at h
 |x::Y,d,0,h=>by simp at h;subst h;rw[C3];exact Nat.le_max_left _ _
 |x::Y,d,j+1,h=>by rw[C3];exact aAs (vY (j:=j) (by simpa using h)) (Nat.le_max_right _ _)
section
def AJ {K:i6}{H:Hp}{O:bb->Prop}{a:bb}{d:D}(h:Rep K H O (.ref a) d):(∃vs ds,d=.tup ds/\U4 K H a vs/\Reps K H O vs ds)\/(∃vs ds,d=.lst ds/\N2 K H a vs/\Reps K H O vs ds)\/(d=.dct/\∃o:Obj,H a=some (.ext λh=>h.get? a=some o)/\o.ExactDict):=by
 cases h with
 |tup h r=>exact .inl ⟨_,_,rfl,h,r⟩
 |lst h n r=>exact .inr (.inl ⟨_,_,rfl,h,r⟩)
 |dct h x n=>exact .inr (.inr ⟨rfl,_,h,x⟩)
def XH (I:Inv X b σ H s)(h:U4 X.K H a vs)(h':N2 X.K H a ws):False:=by obtain⟨e,_,p,_⟩:=I.tuple h;obtain⟨d,_,f,_⟩:=I.list h';exact absurd rfl (SeqAt.ne_of_list_tuple (s:=s) f.isList p)
def WU {o:Obj}(I:Inv X b σ H s)(h':U4 X.K H a vs)(h:H a=some (.ext λh=>h.get? a=some o))(x:o.ExactDict):False:=by obtain⟨d,_,⟨f,g,c,_⟩,_⟩:=I.tuple h';have e:s.heap.get? _=some _:=(I.hok _ _ h).1;rw[g]at e;cases e;exact absurd (c.symm.trans x.1) (by decide)
def WY {o:Obj}(I:Inv X b σ H s)(h':N2 X.K H a vs)(h:H a=some (.ext λh=>h.get? a=some o))(x:o.ExactDict):False:=by obtain⟨d,_,p,_⟩:=I.list h';obtain⟨f,g,c,_⟩:=p.isList;have e:s.heap.get? _=some _:=(I.hok _ _ h).1;rw[g]at e;cases e;exact absurd (c.symm.trans x.1) (by decide)
mutual
theorem Rep.inj (I:Inv X g σ H s):∀{v:V} {d:D},Rep X.K H O v d->∀{d':D},Rep X.K H i v d'->d=d'
 |_,_,.non=>λh=>by cases h;rfl
 |_,_,.bl=>λh=>by cases h;rfl
 |_,_,.int=>λh=>by cases h;rfl
 |_,_,.str=>λh=>by cases h;rfl
 |_,_,.tup h r=>λb=>by
  rcases AJ b with⟨_,_,rfl,a,f⟩|⟨_,_,rfl,a,_⟩|⟨rfl,_,a,x⟩
  .have e:=I.ab7 h a;subst e;rw[Reps.inj I r f]
  .exact(XH I h a).elim
  .exact(WU I h a x).elim
 |_,_,.lst h _ r=>λb=>by
  rcases AJ b with⟨_,_,rfl,a,_⟩|⟨_,_,rfl,a,f⟩|⟨rfl,_,a,x⟩
  .exact(XH I a h).elim
  .have e:=I.ab3 h a;subst e;rw[Reps.inj I r f]
  .exact(WY I h a x).elim
 |_,_,.dct h x _=>λb=>by
  rcases AJ b with⟨_,_,rfl,a,_⟩|⟨_,_,rfl,a,_⟩|⟨rfl,_⟩
  .exact(WU I a h x).elim
  .exact(WY I a h x).elim
  .rfl
theorem Reps.inj (I:Inv X a σ H s):∀{v:List V} {d:List D},Reps X.K H O v d->∀{d':List D},Reps X.K H g v d'->d=d'
 |_,_,.nil=>λh=>by cases h;rfl
 |_,_,.cons h t=>λb=>by
  cases b with
  |cons e f=>rw[Rep.inj I h e,Reps.inj I t f]
end
def mX (A:cf)(s:a9)(a ws:List ae)(Y b:List D):Prop:=∀(j:Nat) (u w:ae),a[j]?=some u->ws[j]?=some w->SeqAt.EqAt A.in1 s u w (lN Y b j)
def zS (g:s.heap.IsList l d.toArray)(h:s.heap.IsList b ws.toArray)(e1:d.length=Y.length)(e2:ws.length=e.length)(i:A.units<dg)(p:mX A s d ws Y e):SeqAt.RcAt A s (.ref l) (.ref b) (X4 Y e)/\SeqAt.RcNeAt A s (.ref l) (.ref b) (!X4 Y e):=by
 rw[fU];by_cases a:Y.length=e.length
 .have f:d.toArray.size=ws.toArray.size:=by simp[e1,e2,a]
  have q:min Y.length e.length=d.toArray.size:=by simp[e1,a]
  have k:(Y.length==e.length)=true:=by simp[a]
  have m:∀j (n:j<d.toArray.size) (o:j<ws.toArray.size),SeqAt.EqAt A.in1 s d.toArray[j] ws.toArray[j] (lN Y e j):=λj n o=>p j _ _ (by simp[aAg (show j<d.length by simpa using n)]) (by simp[aAg (show j<ws.length by simpa using o)]);rw[k,Bool.and_true,q];exact⟨SeqAt.RcAt.lists g h f i m,SeqAt.RcNeAt.lists g h f i m⟩
 .have f:(d.toArray.size !=ws.toArray.size)=true:=by simp[e1,e2,a]
  have k:(Y.length==e.length)=false:=by simp[a]
  rw[k,aGh];exact⟨SeqAt.RcAt.lists_lengths g h f i,SeqAt.RcNeAt.lists_lengths g h f i⟩
def kE (e:IsTup s.heap l a.toArray)(f:IsTup s.heap b ws.toArray)(e1:a.length=Y.length)(e2:ws.length=d.length)(g:A.units<dg)(m:mX A s a ws Y d):SeqAt.RcAt A s (.ref l) (.ref b) (X4 Y d)/\SeqAt.RcNeAt A s (.ref l) (.ref b) (!X4 Y d):=by
 rw[fU];have n:min Y.length d.length=min a.toArray.size ws.toArray.size:=by simp[e1,e2]
 have o:(Y.length==d.length)=(a.toArray.size==ws.toArray.size):=by simp[e1,e2]
 have h:∀j (i:j<a.toArray.size) (k:j<ws.toArray.size),SeqAt.EqAt A.in1 s a.toArray[j] ws.toArray[j] (lN Y d j):=λj i k=>m j _ _ (by simp[aAg (show j<a.length by simpa using i)]) (by simp[aAg (show j<ws.length by simpa using k)]);rw[o,n];exact⟨SeqAt.RcAt.tuples e f g h,SeqAt.RcNeAt.tuples e f g h⟩
def t7 (A:cf):A.in1.units=A.units+1:=rfl
mutual
theorem ak (I:Inv X L σ H s):∀{x y:V} {w z:D} {v u:ae} {A:cf},Rep X.K H O x w->Rep X.K H Y y z->RelV x v->RelV y u->A.units+A9 w<dg->A.units+A9 z<dg->SeqAt.EqAt A s v u (u8 w z)
 |_,_,_,_,v,u,A,.non,g,i,b,j,f=>by
  have d:A.units<dg:=by lia
  cases i;cases g with
  |dct=>exact absurd f (by rw[A9];lia)
  |non=>cases b;exact aEa _
  |bl=>cases b;simp only[u8];exact SeqAt.EqAt.none_bool _
  |int=>obtain⟨t,rfl⟩:=b;simp only[u8];exact SeqAt.EqAt.none_int _ _
  |str=>obtain⟨t,rfl⟩:=b;simp only[u8];exact SeqAt.EqAt.none_str _ _
  |tup h r=>cases b;obtain⟨_,_,p,_⟩:=I.tuple h;simp only[u8];exact SeqAt.EqAt.none_tuple p d
  |lst h _ r=>cases b;obtain⟨_,_,p,_⟩:=I.list h;simp only[u8];exact SeqAt.EqAt.none_list p.isList d
 |_,_,_,_,v,u,A,.bl,g,i,b,j,f=>by
  have d:A.units<dg:=by lia
  cases i;cases g with
  |dct=>exact absurd f (by rw[A9];lia)
  |non=>cases b;simp only[u8];exact SeqAt.EqAt.bool_none _
  |bl=>cases b;simp only[u8];exact SeqAt.EqAt.bool_bool _ _
  |int=>obtain⟨t,rfl⟩:=b;simp only[u8];exact SeqAt.EqAt.bool_int _ _ _
  |str=>obtain⟨t,rfl⟩:=b;simp only[u8];exact SeqAt.EqAt.bool_str _ _ _
  |tup h r=>cases b;obtain⟨_,_,p,_⟩:=I.tuple h;simp only[u8];exact SeqAt.EqAt.bool_tuple _ p d
  |lst h _ r=>cases b;obtain⟨_,_,p,_⟩:=I.list h;simp only[u8];exact SeqAt.EqAt.bool_list _ p.isList d
 |_,_,_,_,v,u,A,.int,g,i,b,j,f=>by
  have d:A.units<dg:=by lia
  obtain⟨N,rfl⟩:=i;cases g with
  |dct=>exact absurd f (by rw[A9];lia)
  |non=>cases b;simp only[u8];exact SeqAt.EqAt.int_none _ _
  |bl=>cases b;simp only[u8];exact SeqAt.EqAt.int_bool _ _ _
  |int=>obtain⟨t,rfl⟩:=b;simp only[u8];exact aFb _ _ _ _
  |str=>obtain⟨t,rfl⟩:=b;simp only[u8];exact aGr _ _ _ _
  |tup h r=>cases b;obtain⟨_,_,p,_⟩:=I.tuple h;simp only[u8];exact aGd _ _ p d
  |lst h _ r=>cases b;obtain⟨_,_,p,_⟩:=I.list h;simp only[u8];exact SeqAt.EqAt.int_list _ _ p.isList d
 |_,_,_,_,v,u,A,.str,g,i,b,j,f=>by
  have d:A.units<dg:=by lia
  obtain⟨N,rfl⟩:=i;cases g with
  |dct=>exact absurd f (by rw[A9];lia)
  |non=>cases b;simp only[u8];exact SeqAt.EqAt.str_none _ _
  |bl=>cases b;simp only[u8];exact SeqAt.EqAt.str_bool _ _ _
  |int=>obtain⟨t,rfl⟩:=b;simp only[u8];exact aGs _ _ _ _
  |str=>obtain⟨t,rfl⟩:=b;simp only[u8];exact SeqAt.EqAt.str_str _ _ _ _
  |tup h r=>cases b;obtain⟨_,_,p,_⟩:=I.tuple h;simp only[u8];exact SeqAt.EqAt.str_tuple _ _ p d
  |lst h _ r=>cases b;obtain⟨_,_,p,_⟩:=I.list h;simp only[u8];exact SeqAt.EqAt.str_list _ _ p.isList d
 |_,_,_,_,v,u,A,.tup (a:=a) (vs:=vs) (ds:=ds) h r,g,i,b,j,f=>by
  have d:A.units<dg:=by lia
  cases i;obtain⟨B,n,p,_⟩:=I.tuple h;cases g with
  |dct=>exact absurd f (by rw[A9];lia)
  |non=>cases b;simp only[u8];exact SeqAt.EqAt.tuple_none p d
  |bl=>cases b;simp only[u8];exact SeqAt.EqAt.tuple_bool _ p d
  |int=>obtain⟨t,rfl⟩:=b;simp only[u8];exact aGe _ _ p d
  |str=>obtain⟨t,rfl⟩:=b;simp only[u8];exact SeqAt.EqAt.tuple_str _ _ p d
  |@tup C Q T k l=>
   cases b;obtain⟨o,q,m,_⟩:=I.tuple k;by_cases e:a=C
   .subst e;have E:=I.ab7 h k;subst E;have J:=Reps.inj I r l;subst J;rw[M3];exact aEa _
   .simp only[u8];refine aFd e (kE p m (by rw[<-n.length,r.length]) (by rw[<-q.length,l.length]) d<|iL I r l n q ?_ ?_).1
    .rw[A9]at j;rw[t7];lia
    .rw[A9]at f;rw[t7];lia
  |lst k _ l=>cases b;obtain⟨_,_,m,_⟩:=I.list k;simp only[u8];exact SeqAt.EqAt.tuple_list p m.isList d
 |_,_,_,_,v,u,A,.lst (a:=a) (vs:=vs) (ds:=ds) h nO r,g,i,b,j,f=>by
  have d:A.units<dg:=by lia
  cases i;obtain⟨B,n,p,_⟩:=I.list h;cases g with
  |dct=>exact absurd f (by rw[A9];lia)
  |non=>cases b;simp only[u8];exact SeqAt.EqAt.list_none p.isList d
  |bl=>cases b;simp only[u8];exact SeqAt.EqAt.list_bool _ p.isList d
  |int=>obtain⟨t,rfl⟩:=b;simp only[u8];exact SeqAt.EqAt.list_int _ _ p.isList d
  |str=>obtain⟨t,rfl⟩:=b;simp only[u8];exact SeqAt.EqAt.list_str _ _ p.isList d
  |tup k l=>cases b;obtain⟨_,_,m,_⟩:=I.tuple k;simp only[u8];exact SeqAt.EqAt.list_tuple p.isList m d
  |@lst C Q T k U l=>
   cases b;obtain⟨o,q,m,_⟩:=I.list k;by_cases e:a=C
   .subst e;have E:=I.ab3 h k;subst E;have J:=Reps.inj I r l;subst J;rw[M3];exact aEa _
   .simp only[u8];refine aFd e (zS p.isList m.isList (by rw[<-n.length,r.length]) (by rw[<-q.length,l.length]) d<|iL I r l n q ?_ ?_).1
    .rw[A9]at j;rw[t7];lia
    .rw[A9]at f;rw[t7];lia
 |_,_,_,_,v,u,A,.dct ..,g,i,b,j,f=>absurd j (by rw[A9];lia)
theorem iL (I:Inv X p σ H s):∀{vs ws:List V} {Y k:List D} {e f:List ae} {A:cf},Reps X.K H O vs Y->Reps X.K H z ws k->l8 vs e->l8 ws f->A.in1.units+C3 Y<dg->A.in1.units+C3 k<dg->mX A s e f Y k
 |_,_,_,_,e,f,A,.nil,B,g,i,l,m=>λj u w a b=>by cases g;simp at a
 |_,_,_,_,e,f,A,.cons h t,.nil,g,i,l,m=>λj u w a b=>by cases i;simp at b
 |_,_,_,_,e,f,A,.cons (d:=d) (ds:=ds) h t,.cons (d:=C) (ds:=E) r v,g,i,l,m=>λj u w a b=>by
  cases g with
  |cons x y=>
   cases i with
   |cons n o=>
    rw[C3]at l m;cases j with
    |zero=>simp only[aCx,aGA]at a b;subst a b;exact ak I h r x n (by lia) (by lia)
    |succ j=>simp only[aCz]at a b;have q:=iL I (A:=A) t v y o (by lia) (by lia) j u w a b;exact q
end
def uk (I:Inv X N σ H s)(n:A5 X.K H O x B)(d:A5 X.K H T y g)(o:RelV x v)(e:RelV y u)(C:A.units+A9 B<dg)(k:A.units+A9 g<dg):
  SeqAt.RcAt A s v u (u8 B g)/\SeqAt.RcNeAt A s v u (!u8 B g):=by
 have b:A.units<dg:=by lia
 cases B with
 |dct=>exact absurd C (by rw[A9];lia)
 |non=>
  cases n.ac2;cases o;cases g with
  |dct=>exact absurd k (by rw[A9];lia)
  |non=>cases d.ac2;cases e;simp only[u8];exact⟨SeqAt.RcAt.none_none,SeqAt.RcNeAt.none_none⟩
  |bl=>cases d.blI;cases e;simp only[u8];exact⟨SeqAt.RcAt.none_bool _,SeqAt.RcNeAt.none_bool _⟩
  |int=>cases d.aa6;obtain⟨t,rfl⟩:=e;simp only[u8];exact⟨SeqAt.RcAt.none_int _ _,SeqAt.RcNeAt.none_int _ _⟩
  |str=>cases d.ac4;obtain⟨t,rfl⟩:=e;simp only[u8];exact⟨SeqAt.RcAt.none_str _ _,SeqAt.RcNeAt.none_str _ _⟩
  |tup f=>obtain⟨a,i,rfl,h,r⟩:=d.tupI;cases e;obtain⟨_,_,p,_⟩:=I.tuple h;simp only[u8];exact⟨SeqAt.RcAt.none_tuple p b,SeqAt.RcNeAt.none_tuple p b⟩
  |lst f=>obtain⟨a,i,rfl,h,r⟩:=d.aa5;cases e;obtain⟨_,_,p,_⟩:=I.list h;simp only[u8];exact⟨SeqAt.RcAt.none_list p.isList b,SeqAt.RcNeAt.none_list p.isList b⟩
 |bl=>
  cases n.blI;cases o;cases g with
  |dct=>exact absurd k (by rw[A9];lia)
  |non=>cases d.ac2;cases e;simp only[u8];exact⟨SeqAt.RcAt.bool_none _,SeqAt.RcNeAt.bool_none _⟩
  |bl=>cases d.blI;cases e;simp only[u8];exact⟨SeqAt.RcAt.bool_bool _ _,SeqAt.RcNeAt.bool_bool _ _⟩
  |int=>cases d.aa6;obtain⟨t,rfl⟩:=e;simp only[u8];exact⟨SeqAt.RcAt.bool_int _ _ _,SeqAt.RcNeAt.bool_int _ _ _⟩
  |str=>cases d.ac4;obtain⟨t,rfl⟩:=e;simp only[u8];exact⟨SeqAt.RcAt.bool_str _ _ _,SeqAt.RcNeAt.bool_str _ _ _⟩
  |tup f=>obtain⟨a,i,rfl,h,r⟩:=d.tupI;cases e;obtain⟨_,_,p,_⟩:=I.tuple h;simp only[u8];exact⟨SeqAt.RcAt.bool_tuple _ p b,SeqAt.RcNeAt.bool_tuple _ p b⟩
  |lst f=>obtain⟨a,i,rfl,h,r⟩:=d.aa5;cases e;obtain⟨_,_,p,_⟩:=I.list h;simp only[u8];exact⟨SeqAt.RcAt.bool_list _ p.isList b,SeqAt.RcNeAt.bool_list _ p.isList b⟩
 |int=>
  cases n.aa6;obtain⟨Q,rfl⟩:=o;cases g with
  |dct=>exact absurd k (by rw[A9];lia)
  |non=>cases d.ac2;cases e;simp only[u8];exact⟨SeqAt.RcAt.int_none _ _,SeqAt.RcNeAt.int_none _ _⟩
  |bl=>cases d.blI;cases e;simp only[u8];exact⟨SeqAt.RcAt.int_bool _ _ _,SeqAt.RcNeAt.int_bool _ _ _⟩
  |int=>cases d.aa6;obtain⟨t,rfl⟩:=e;simp only[u8];exact⟨SeqAt.RcAt.int_int _ _ _ _,SeqAt.RcNeAt.int_int _ _ _ _⟩
  |str=>cases d.ac4;obtain⟨t,rfl⟩:=e;simp only[u8];exact⟨SeqAt.RcAt.int_str _ _ _ _,SeqAt.RcNeAt.int_str _ _ _ _⟩
  |tup f=>obtain⟨a,i,rfl,h,r⟩:=d.tupI;cases e;obtain⟨_,_,p,_⟩:=I.tuple h;simp only[u8];exact⟨SeqAt.RcAt.int_tuple _ _ p b,SeqAt.RcNeAt.int_tuple _ _ p b⟩
  |lst f=>obtain⟨a,i,rfl,h,r⟩:=d.aa5;cases e;obtain⟨_,_,p,_⟩:=I.list h;simp only[u8];exact⟨SeqAt.RcAt.int_list _ _ p.isList b,SeqAt.RcNeAt.int_list _ _ p.isList b⟩
 |str=>
  cases n.ac4;obtain⟨Q,rfl⟩:=o;cases g with
  |dct=>exact absurd k (by rw[A9];lia)
  |non=>cases d.ac2;cases e;simp only[u8];exact⟨SeqAt.RcAt.str_none _ _,SeqAt.RcNeAt.str_none _ _⟩
  |bl=>cases d.blI;cases e;simp only[u8];exact⟨SeqAt.RcAt.str_bool _ _ _,SeqAt.RcNeAt.str_bool _ _ _⟩
  |int=>cases d.aa6;obtain⟨t,rfl⟩:=e;simp only[u8];exact⟨SeqAt.RcAt.str_int _ _ _ _,SeqAt.RcNeAt.str_int _ _ _ _⟩
  |str=>cases d.ac4;obtain⟨t,rfl⟩:=e;simp only[u8];exact⟨SeqAt.RcAt.str_str _ _ _ _,SeqAt.RcNeAt.str_str _ _ _ _⟩
  |tup f=>obtain⟨a,i,rfl,h,r⟩:=d.tupI;cases e;obtain⟨_,_,p,_⟩:=I.tuple h;simp only[u8];exact⟨SeqAt.RcAt.str_tuple _ _ p b,SeqAt.RcNeAt.str_tuple _ _ p b⟩
  |lst f=>obtain⟨a,i,rfl,h,r⟩:=d.aa5;cases e;obtain⟨_,_,p,_⟩:=I.list h;simp only[u8];exact⟨SeqAt.RcAt.str_list _ _ p.isList b,SeqAt.RcNeAt.str_list _ _ p.isList b⟩
 |tup Y=>
  obtain⟨a,i,rfl,h,r⟩:=n.tupI;cases o;obtain⟨E,q,p,_⟩:=I.tuple h;cases g with
  |dct=>exact absurd k (by rw[A9];lia)
  |non=>cases d.ac2;cases e;simp only[u8];exact⟨SeqAt.RcAt.tuple_none p b,SeqAt.RcNeAt.tuple_none p b⟩
  |bl=>cases d.blI;cases e;simp only[u8];exact⟨SeqAt.RcAt.tuple_bool _ p b,SeqAt.RcNeAt.tuple_bool _ p b⟩
  |int=>cases d.aa6;obtain⟨t,rfl⟩:=e;simp only[u8];exact⟨SeqAt.RcAt.tuple_int _ _ p b,SeqAt.RcNeAt.tuple_int _ _ p b⟩
  |str=>cases d.ac4;obtain⟨t,rfl⟩:=e;simp only[u8];exact⟨SeqAt.RcAt.tuple_str _ _ p b,SeqAt.RcNeAt.tuple_str _ _ p b⟩
  |tup f=>
   obtain⟨J,L,rfl,l,m⟩:=d.tupI;cases e;obtain⟨w,z,j,_⟩:=I.tuple l;simp only[u8];refine kE p j (by rw[<-q.length,r.length]) (by rw[<-z.length,m.length]) b (iL I r m q z ?_ ?_)
   .rw[A9]at C;rw[t7];lia
   .rw[A9]at k;rw[t7];lia
  |lst f=>obtain⟨J,L,rfl,l,m⟩:=d.aa5;cases e;obtain⟨_,_,j,_⟩:=I.list l;simp only[u8];exact⟨SeqAt.RcAt.tuple_list p j.isList b,SeqAt.RcNeAt.tuple_list p j.isList b⟩
 |lst Y=>
  obtain⟨a,i,rfl,h,r⟩:=n.aa5;cases o;obtain⟨E,q,p,_⟩:=I.list h;cases g with
  |dct=>exact absurd k (by rw[A9];lia)
  |non=>cases d.ac2;cases e;simp only[u8];exact⟨SeqAt.RcAt.list_none p.isList b,SeqAt.RcNeAt.list_none p.isList b⟩
  |bl=>cases d.blI;cases e;simp only[u8];exact⟨SeqAt.RcAt.list_bool _ p.isList b,SeqAt.RcNeAt.list_bool _ p.isList b⟩
  |int=>cases d.aa6;obtain⟨t,rfl⟩:=e;simp only[u8];exact⟨SeqAt.RcAt.list_int _ _ p.isList b,SeqAt.RcNeAt.list_int _ _ p.isList b⟩
  |str=>cases d.ac4;obtain⟨t,rfl⟩:=e;simp only[u8];exact⟨SeqAt.RcAt.list_str _ _ p.isList b,SeqAt.RcNeAt.list_str _ _ p.isList b⟩
  |tup f=>obtain⟨J,L,rfl,l,m⟩:=d.tupI;cases e;obtain⟨_,_,j,_⟩:=I.tuple l;simp only[u8];exact⟨SeqAt.RcAt.list_tuple p.isList j b,SeqAt.RcNeAt.list_tuple p.isList j b⟩
  |lst f=>
   obtain⟨J,L,rfl,l,m⟩:=d.aa5;cases e;obtain⟨w,z,j,_⟩:=I.list l;simp only[u8];refine zS p.isList j.isList (by rw[<-q.length,r.length]) (by rw[<-z.length,m.length]) b (iL I r m q z ?_ ?_)
   .rw[A9]at C;rw[t7];lia
   .rw[A9]at k;rw[t7];lia
end
def XD (x y:D):R D:=if A9 x<=40/\A9 y<=40 then .ok (.bl (u8 x y))else .bad
def BC (x y:D):R D:=if A9 x<=40/\A9 y<=40 then .ok (.bl (!u8 x y))else .bad
section
def oM (r:X.A.units+64<dg):lX X (dA .Eq) XD:=by
 intro H O x y g h Q t i j q;unfold XD at q;split at q
 .rename_i w;refine⟨λa b d e=>a=x/\b=y/\d=H/\e (.bl (u8 g h)) H,?_,rfl,rfl,rfl,q _ H (Same.refl _) .bl⟩;intro f s σ d a b v u e I k l ⟨m,n,o,p⟩;subst m n o;exact(uk I (A:=X.A) i j k l (by lia) (by lia)).1 _ _ _ _ ⟨.bl _,_,I,rfl,p⟩
 .exact q.elim
def fJ (r:X.A.units+64<dg):lX X (dA .NotEq) BC:=by
 intro H O x y g h Q t i j q;unfold BC at q;split at q
 .rename_i w;refine⟨λa b d e=>a=x/\b=y/\d=H/\e (.bl (!u8 g h)) H,?_,rfl,rfl,rfl,q _ H (Same.refl _) .bl⟩;intro f s σ d a b v u e I k l ⟨m,n,o,p⟩;subst m n o;exact(uk I (A:=X.A) i j k l (by lia) (by lia)).2 _ _ _ _ ⟨.bl _,_,I,rfl,p⟩
 .exact q.elim
end
def pF:D->D->R D
 |.int a,.int b=>.ok (.int (a+b))
 |.lst a,.lst b=>if a.length+b.length<=sizeLine then .ok (.lst (a++b))else .bad
 |.tup [],.tup b=>.ok (.tup b)
 |.tup (x::a),.tup []=>if(x::a).length<=sizeLine then .ok (.tup (x::a))else .bad
 |.tup (x::a),.tup (y::b)=>if(x::a).length+(y::b).length<=sizeLine then .ok (.tup ((x::a)++(y::b)))else .bad
 |_,_=>.bad
def LU:D->D->R D
 |.int a,.int b=>.ok (.int (a-b))
 |_,_=>.bad
def n4 (a b:Int):Prop:=aBe a<=60000000/\aBe b<=60000000
instance(a b:Int):Decidable (n4 a b):=inferInstanceAs (Decidable<|_/\_)
def gK:D->D->R D
 |.int a,.int b=>if n4 a b then .ok (.int (a*b))else .bad
 |_,_=>.bad
def xS (b:Int):Prop:=b≠0/\aBe b<=9000
instance(b:Int):Decidable (xS b):=inferInstanceAs (Decidable<|_/\_)
def S9:D->D->R D
 |.int a,.int b=>if xS b then .ok (.int (a.fdiv b))else .bad
 |_,_=>.bad
def dJ:D->D->R D
 |.int a,.int b=>if b≠0 then .ok (.int (a.fmod b))else .bad
 |_,_=>.bad
def OE:D->D->R D
 |.int a,.int b=>if 0<=b/\b<=1000000/\a.natAbs<2^64 then .ok (.int (a^b.toNat))else .bad
 |_,_=>.bad
def ltR:D->D->R D
 |.int a,.int b=>.ok (.bl (decide (a<b)))
 |_,_=>.bad
def xy:D->D->R D
 |.int a,.int b=>.ok (.bl (decide (a<=b)))
 |_,_=>.bad
def kq:D->D->R D
 |.int a,.int b=>.ok (.bl (decide (b<a)))
 |_,_=>.bad
def IU (h0:b≠0)(h:aBe b<=n):b.natAbs.log2<n:=by
 unfold aBe at h;split at h
 .rename_i z;exact absurd (by simpa using z) h0
 .omega
def MC (h:n4 a b):IntMulOk a b:=mulOk_of_bits (m:=60000000) (n:=60000000) h.1 h.2 (by decide)
section
def lX.aa7 {f:ae->ae->Sem ae}{g:D->D->R D}{C:Int->Int->Prop}{w:Int->Int->V}{dw:Int->Int->D}(h:lS X f (rI C w))(k:∀a b d,g a b=.ok d->∃i j,a=.int i/\b=.int j/\C i j/\d=dw i j)
  (l:∀a b e,g a b≠.ex e) (m:∀K H O i j,Rep K H O (w i j) (dw i j)):lX X f g:=by
 intro H O x y a b Q r n o q;cases e:g a b with
 |ok d=>rw[e]at q;obtain⟨i,j,rfl,rfl,p,rfl⟩:=k a b d e;cases n.aa6;cases o.aa6;exact⟨_,h,i,j,rfl,rfl,p,q _ H (Same.refl _) (m _ _ _ _ _)⟩
 |ex x=>exact absurd e (l _ _ _)
 |bad=>rw[e]at q;exact q.elim
def lS.c0 (h:lS X f (XO w)):lS X f (rI (λ_ _=>True) w):=by rintro a s σ H x y v u Q I b d ⟨i,j,e,g,_,q⟩;exact h a s σ H x y v u Q I b d ⟨i,j,e,g,q⟩
def A6:lX X (d3 .Sub) LU:=lX.aa7 (dw:=λi j=>.int (i-j)) (lS.c0 YI) (λa b d h=>by cases a<;>cases b<;>simp only[LU,R.ok.injEq,reduceCtorEq]at h;exact⟨_,_,rfl,rfl,trivial,h.symm⟩) (λa b e h=>by cases a<;>cases b<;>simp only[LU,reduceCtorEq]at h) λ_ _ _ _ _=>.int
def QK:lX X (dA .Lt) ltR:=lX.aa7 (dw:=λi j=>.bl (decide (i<j))) (lS.c0 zw) (λa b d h=>by cases a<;>cases b<;>simp only[ltR,R.ok.injEq,reduceCtorEq]at h;exact⟨_,_,rfl,rfl,trivial,h.symm⟩) (λa b e h=>by cases a<;>cases b<;>simp only[ltR,reduceCtorEq]at h) λ_ _ _ _ _=>.bl
def lz:lX X (dA .LtE) xy:=lX.aa7 (dw:=λi j=>.bl (decide (i<=j))) (lS.c0 oz) (λa b d h=>by cases a<;>cases b<;>simp only[xy,R.ok.injEq,reduceCtorEq]at h;exact⟨_,_,rfl,rfl,trivial,h.symm⟩) (λa b e h=>by cases a<;>cases b<;>simp only[xy,reduceCtorEq]at h) λ_ _ _ _ _=>.bl
def zH:lX X (dA .Gt) kq:=lX.aa7 (dw:=λi j=>.bl (decide (j<i))) (lS.c0 rj) (λa b d h=>by cases a<;>cases b<;>simp only[kq,R.ok.injEq,reduceCtorEq]at h;exact⟨_,_,rfl,rfl,trivial,h.symm⟩) (λa b e h=>by cases a<;>cases b<;>simp only[kq,reduceCtorEq]at h) λ_ _ _ _ _=>.bl
def LS:lS X (d3 .FloorDiv) (rI (λ_ j=>xS j) λi j=>.int (i.fdiv j)):=opI λ_ _ _ _ _ _ _ a q=>floordiv_int a.1 q (.inl (PyProof.noPylong_of_log2<|IU a.1 a.2))
def G3:lX X (d3 .FloorDiv) S9:=lX.aa7 (dw:=λi j=>.int (i.fdiv j)) LS (λa b d h=>by
 cases a<;>cases b<;>simp only[S9,reduceCtorEq]at h;split at h
 .rename_i f;cases h;exact⟨_,_,rfl,rfl,f,rfl⟩
 .cases h) (λa b e h=>by
  cases a<;>cases b<;>simp only[S9,reduceCtorEq]at h;split at h<;>cases h) λ_ _ _ _ _=>.int
def K7:lX X (d3 .Mod) dJ:=lX.aa7 (dw:=λi j=>.int (i.fmod j)) RG (λa b d h=>by
 cases a<;>cases b<;>simp only[dJ,reduceCtorEq]at h;split at h
 .rename_i f;cases h;exact⟨_,_,rfl,rfl,f,rfl⟩
 .cases h) (λa b e h=>by
  cases a<;>cases b<;>simp only[dJ,reduceCtorEq]at h;split at h<;>cases h) λ_ _ _ _ _=>.int
def NU:lX X (d3 .Pow) OE:=lX.aa7 (dw:=λi j=>.int (i^j.toNat)) ZW (λa b d h=>by
 cases a<;>cases b<;>simp only[OE,reduceCtorEq]at h;split at h
 .rename_i f;cases h;exact⟨_,_,rfl,rfl,f,rfl⟩
 .cases h) (λa b e h=>by
  cases a<;>cases b<;>simp only[OE,reduceCtorEq]at h;split at h<;>cases h) λ_ _ _ _ _=>.int
def UB:lS X (d3 .Mult) (rI n4 λi j=>.int (i*j)):=opI λ_ _ _ _ _ _ _ a q=>mul_int q (MC a)
def m6:lX X (d3 .Mult) gK:=lX.aa7 (dw:=λi j=>.int (i*j)) UB (λa b d h=>by
 cases a<;>cases b<;>simp only[gK,reduceCtorEq]at h;split at h
 .rename_i f;cases h;exact⟨_,_,rfl,rfl,f,rfl⟩
 .cases h) (λa b e h=>by
  cases a<;>cases b<;>simp only[gK,reduceCtorEq]at h;split at h<;>cases h) λ_ _ _ _ _=>.int
def UJ:lS X (d3 .Add) (λx y H Q=>∃l b Y e,x=.ref l/\y=.ref b/\N2 X.K H l Y/\N2 X.K H b e/\Y.length+e.length<=sizeLine/\∀p,H p=none->Q (.ref p) (upd H p (.lst (Y++e)))):=by
 intro i s σ H x y v u Q I A B h;obtain⟨l,b,Y,e,rfl,rfl,C,E,J,q⟩:=h;cases A;cases B;obtain⟨a,r,p,_⟩:=I.list C;obtain⟨f,j,L,_⟩:=I.list E;obtain⟨⟨N,O,k,T⟩,m,o,n,t⟩:=p.isList;obtain⟨⟨zv,U,data2,qu⟩,w,z,n2,d⟩:=L.isList;simp only at o t z d;subst o t z d;have g:a.toArray.size+f.toArray.size<=sizeLine:=by rw[aAn,aAn,<-r.length,<-j.length];exact J
 have ea:a.toArray++f.toArray=(a++f).toArray:=by simp
 refine aFV ⟨_,m,rfl⟩ ⟨_,w,rfl⟩ noFill_list_add seq_list_add PySem.F.slot_list_add PySem.F.entry_list_add (PySem.F.args_list_add_2 _ _) (list_addW l b a.toArray f.toArray n n2 O U T qu g) ⟨m,w,?_⟩;rw[ea];exact⟨.ref _,_,I.ag1 (t':=s.toks) (r.append j) (by rw[aAB];omega),rfl,q _ I.fresh⟩
def OG:lS X (d3 .Add) (λx y H Q=>∃a b e,x=.ref a/\y=.ref b/\U4 X.K H a []/\U4 X.K H b e/\Q (.ref b) H):=by intro f s σ H x y v u Q I o p h;obtain⟨t,b,e,rfl,rfl,r,w,q⟩:=h;cases o;cases p;obtain⟨z,A,B,_⟩:=I.tuple r;obtain⟨U,Y,C,_⟩:=I.tuple w;cases A;obtain⟨⟨E,J,g,L⟩,i,j,n,k⟩:=B;obtain⟨⟨zv,N,data2,O⟩,l,m,T,d⟩:=C;simp only at j k m d;subst j k m d;exact aFV ⟨_,i,rfl⟩ ⟨_,l,rfl⟩ aFD seq_tuple_add PySem.F.slot_tuple_add PySem.F.entry_tuple_add (PySem.F.args_tuple_add_2 _ _) (tuple_addW0 t b _ _ n T J N L O (by simp)) ⟨i,l,.ref b,H,I,rfl,q⟩
def p5:lX X (d3 .Add) pF:=by
 intro H O x y v t Q w o r q;cases v with
 |int i=>
  cases t with
  |int j=>cases o.aa6;cases r.aa6;exact⟨_,ez,i,j,rfl,rfl,q _ H (Same.refl _) .int⟩
  |_=>exact aAk q
 |lst a=>
  cases t with
  |lst b=>
   simp only[pF]at q;split at q
   .rename_i s;obtain⟨l,f,rfl,g,d⟩:=o.aa5;obtain⟨k,m,rfl,h,e⟩:=r.aa5;exact⟨_,UJ,l,k,f,m,rfl,rfl,g,h,by rw[d.length,e.length];exact s,λp n=>q _ _ (j8 n _) (.lst (N2.of j3) (w p n) ((d.append e).same (j8 n _)))⟩
   .exact q.elim
  |_=>exact aAk q
 |tup a=>
  cases t with
  |tup b=>
   cases a with
   |nil=>obtain⟨l,f,rfl,g,d⟩:=o.tupI;obtain⟨k,m,rfl,h,e⟩:=r.tupI;cases d;exact⟨_,OG,l,k,m,rfl,rfl,g,h,q _ H (Same.refl _) (.tup h e)⟩
   |cons x a=>
    cases b with
    |nil=>
     obtain⟨l,f,rfl,g,d⟩:=o.tupI;obtain⟨k,m,rfl,h,e⟩:=r.tupI;cases e;have u:f≠[]:=λz=>by subst z;have:=d.length;simp at this
     simp only[pF]at q;split at q
     .rename_i s;exact⟨_,DR,l,k,f,[],rfl,rfl,g,h,u,by rw[d.length];exact s,λ_=>q _ H (Same.refl _) (.tup g d),λz=>absurd rfl z⟩
     .exact q.elim
    |cons y b=>
     simp only[pF]at q;split at q
     .rename_i s;obtain⟨l,f,rfl,g,d⟩:=o.tupI;obtain⟨k,m,rfl,h,e⟩:=r.tupI;have u:f≠[]:=λz=>by subst z;have:=d.length;simp at this
      have A:m≠[]:=λz=>by subst z;have:=e.length;simp at this
      exact⟨_,DR,l,k,f,m,rfl,rfl,g,h,u,by rw[d.length,e.length];exact s,λz=>absurd z A,λ_ p n=>q _ _ (j8 n _) (.tup (U4.of j3) ((d.append e).same (j8 n _)))⟩
     .exact q.elim
  |_=>cases a<;>exact aAk q
 |_=>exact aAk q
def J1 (x y:D):R D:=match x,y with
 |.lst Y,.int i=>match qQ Y i with|some d=>.ok d|none=>.bad
 |.tup Y,.int i=>match qQ Y i with|some d=>.ok d|none=>.bad
 |_,_=>.bad
def zO {K:i6}{H:Hp}{O:bb->Prop}{vs:List V}{ds:List D}{i:Int}{d:D}(r:Reps K H O vs ds)(h:qQ ds i=some d):∃v,qQ vs i=some v/\Rep K H O v d:=by
 unfold qQ at h⊢;rw[r.length];cases e:JG ds.length i with
 |none=>rw[e]at h;cases h
 |some j=>rw[e]at h;exact r.get h
def f7 (N:PB X a f)(T:PD X b g)(t:TW b:=by exactλ_ _=>rfl):PD X (.Subscript a b U) (λρ=>(f ρ).bind λx=>(g ρ).bind λy=>J1 x y):=by
 refine wN λj s σ H Q I H9 O0 O ρ E q=>?_;refine Subscript_ (MB N T.pb I (mV E q) λv u z x y k A B C h=>?_);obtain⟨J,dy,fr,L,r2,q⟩:=h;cases dy with
 |int i=>
  cases r2.aa6;cases J with
  |lst Y=>
   simp only[J1]at q;cases e:qQ Y i with
   |none=>rw[e]at q;exact q.elim
   |some d=>rw[e]at q;obtain⟨p,l,rfl,m,n⟩:=L.aa5;obtain⟨w,o,r⟩:=zO n e;exact VA a b j z σ k _ _ v u Q A B C ⟨p,l,i,w,rfl,rfl,m,o,q w k (Same.refl _) r⟩ (t _ _)
  |tup Y=>
   simp only[J1]at q;cases e:qQ Y i with
   |none=>rw[e]at q;exact q.elim
   |some d=>rw[e]at q;obtain⟨p,l,rfl,m,n⟩:=L.tupI;obtain⟨w,o,r⟩:=zO n e;exact iw a b j z σ k _ _ v u Q A B C ⟨p,l,i,w,rfl,rfl,m,o,q w k (Same.refl _) r⟩ (t _ _)
  |_=>exact aAk q
 |_=>cases J<;>exact aAk q
def cutD (Y:List D)(lo a:Option Int):List D:=(Y.drop<|HT.sIx Y.length 0 lo).take (HT.sIx Y.length Y.length a-HT.sIx Y.length 0 lo)
def tV {K:i6}{H:Hp}{O:bb->Prop}{vs:List V}{ds:List D}{lo a:Option Int}(r:Reps K H O vs ds):Reps K H O (xR vs lo a) (cutD ds lo a):=by unfold xR cutD;rw[r.length];exact(r.drop _).take _
def PTO (X:Cx)(e:Option cu)(f:Ev->R (Option Int)):Prop:=PO X e λσ H Q=>∃b d O ρ,EnvOk X.K b d H O σ ρ/\match f ρ with
 |.ok o=>∀a,Same H a->Q o a
 |.ex e=>∀a,Same H a->XW X e a
 |.bad=>False
def toI:D->R (Option Int)
 |.int i=>.ok (some i)
 |_=>.bad
def cZ:PTO X none (λ_=>.ok none):=by rintro a s σ H Q I ⟨b,d,O,ρ,E,q⟩;exact WG a s σ H Q I (q H<|Same.refl _)
def V7 (h:PD X e f):PTO X (some e) (λρ=>(f ρ).bind toI):=by rintro a s σ H Q I ⟨b,g,O,ρ,E,q⟩;exact SF h a s σ H Q I ⟨b,g,O,ρ,E,by
 dsimp only at q;cases e:f ρ with
 |ok d=>
  rw[e]at q;cases d with
  |int i=>exactλv j k l=>by cases l;exact⟨i,rfl,q j k⟩
  |_=>exact aAk q
 |ex x=>rw[e]at q;exact q
 |bad=>rw[e]at q;exact q⟩
def MN (x:D)(lo a:Option Int):R D:=match x with
 |.lst Y=>.ok (.lst (cutD Y lo a))
 |.tup Y=>if HT.sIx Y.length 0 lo=0/\HT.sIx Y.length Y.length a=Y.length then .bad else .ok (.tup (cutD Y lo a))
 |_=>.bad
def uD {lo B:Option cu}{C:Pos}{m n:Ev->R (Option Int)}(J:PB X a f)(L:PTO X lo m)(N:PTO X B n):
  PD X (.Subscript a (.Slice lo B none C) T) (λρ=>(f ρ).bind λx=>(m ρ).bind λl=>(n ρ).bind λh=>MN x l h):=by
 refine wN λi s σ H Q I o t O ρ E q=>?_;have u:∀x d l h g,A5 X.K g O x d->(∀p,g p=none->¬O p)->RC X g O (MN d l h) Q->uj X.K x l h g Q\/xj X.K x l h g Q:=λx d l h g r U q=>by
  cases d with
  |lst Y=>obtain⟨p,v,rfl,w,k⟩:=r.aa5;exact .inl ⟨p,v,rfl,w,λp b=>q _ _ (j8 b _) (.lst (N2.of j3) (U p b) ((tV k).same (j8 b _)))⟩
  |tup Y=>
   obtain⟨p,v,rfl,w,k⟩:=r.tupI;simp only[MN]at q;split at q
   .exact q.elim
   .rename_i hn;exact .inr ⟨p,v,rfl,w,by rw[k.length];exact hn,λp b=>q _ _ (j8 b _) (.tup (U4.of j3) ((tV k).same (j8 b _)))⟩
  |_=>exact aAk q
 refine ME (UF.or bz) J L N i s σ H Q I ⟨o,t,O,ρ,E,?_⟩;dsimp only at q;cases y:f ρ with
 |ok d=>
  rw[y]at q;intro x H1 s1 r1;refine⟨o,t,O,ρ,E.grow s1,?_⟩;rw[R.aa0]at q;cases z:m ρ with
  |ok l=>
   rw[z]at q;intro H2 s2;refine⟨o,t,O,ρ,(E.grow s1).grow s2,?_⟩;cases A:n ρ with
   |ok h=>rw[A]at q;intro j e;have q':RC X H O (MN d l h) Q:=q;exact u x d l h j ((r1.same s2).same e) (λp b=>(((E.grow s1).grow s2).grow e).fresh b) (q'.grow<|s1.trans<|s2.trans e)
   |ex x=>rw[A]at q;exactλj e=>q j (s1.trans<|s2.trans e)
   |bad=>rw[A]at q;exact q
  |ex x=>rw[z]at q;exactλj e=>q j (s1.trans e)
  |bad=>rw[z]at q;exact q
 |ex x=>rw[y]at q;exact q
 |bad=>rw[y]at q;exact q
def AY {K:i6}{H:Hp}{O:bb->Prop}{vs:List V}{d:D}(r:Paired (A5 K H O) vs [d]):∃v,vs=[v]/\A5 K H O v d:=by
 cases r with
 |cons a b=>cases b;exact⟨_,rfl,a⟩
def pr2 {K:i6}{H:Hp}{O:bb->Prop}{vs:List V}{d d':D}(r:Paired (A5 K H O) vs [d,d']):∃v a,vs=[v,a]/\A5 K H O v d/\A5 K H O a d':=by
 cases r with
 |cons b f=>obtain⟨a,e,g⟩:=AY f;subst e;exact⟨_,_,rfl,b,g⟩
def oN:List D->R D
 |[.lst Y]=>.ok (.int Y.length)
 |[.tup Y]=>.ok (.int Y.length)
 |_=>.bad
def bT:Y3 X (.builtin "len") oN:=by
 intro H O f e Q g r q;match e,q with
 |[.lst Y],q=>obtain⟨v,rfl,z⟩:=AY r;obtain⟨p,a,rfl,b,d⟩:=z.aa5;exact⟨_,iN,p,a,rfl,.inl b,q _ H (Same.refl _) (by rw[d.length];exact .int)⟩
 |[.tup Y],q=>obtain⟨v,rfl,z⟩:=AY r;obtain⟨p,a,rfl,b,d⟩:=z.tupI;exact⟨_,iN,p,a,rfl,.inr b,q _ H (Same.refl _) (by rw[d.length];exact .int)⟩
def qw:List D->R D
 |[.int i]=>.ok (.int (if i<0 then-i else i))
 |_=>.bad
def aw:Y3 X (.builtin "abs") qw:=by
 intro H O b a Q d r q;match a,q with
 |[.int i],q=>obtain⟨v,rfl,z⟩:=AY r;cases z.aa6;exact⟨_,KJ,i,rfl,q _ H (Same.refl _) .int⟩
def WV:List D->R D
 |[.int i,.int j]=>.ok (.int (if j>i then j else i))
 |_=>.bad
def TY (a:X.calm=true):Y3 X (.builtin "max") WV:=by
 intro H O e b Q f r q;match b,q with
 |[.int i,.int j],q=>obtain⟨v,g,rfl,z,d⟩:=pr2 r;cases z.aa6;cases d.aa6;exact⟨_,IT a,i,j,rfl,q _ H (Same.refl _) .int⟩
def DK:List D->R D
 |[.lst Y]=>.ok (.tup Y)
 |[.tup Y]=>.ok (.tup Y)
 |_=>.bad
def yU:Y3 X (.type "tuple") DK:=by
 intro H O g f Q h r q;match f,q with
 |[.lst Y],q=>obtain⟨v,rfl,z⟩:=AY r;obtain⟨p,b,rfl,a,d⟩:=z.aa5;exact⟨_,fF,p,b,rfl,.inl ⟨a,λl e=>q _ _ (j8 e _) (.tup (U4.of j3) (d.same<|j8 e _))⟩⟩
 |[.tup Y],q=>obtain⟨v,rfl,z⟩:=AY r;obtain⟨p,b,rfl,a,d⟩:=z.tupI;exact⟨_,fF,p,b,rfl,.inr ⟨a,q _ _ (Same.refl _) (.tup a d)⟩⟩
def FE:List D->R D
 |[.lst Y]=>.ok (.lst Y)
 |[.tup Y]=>.ok (.lst Y)
 |_=>.bad
def wL:Y3 X (.type "list") FE:=by
 intro H O h g Q f r q;match g,q with
 |[.lst Y],q=>obtain⟨v,rfl,z⟩:=AY r;obtain⟨p,b,rfl,d,e⟩:=z.aa5;exact⟨_,gZ,p,b,rfl,.inl d,λl a=>q _ _ (j8 a _) (.lst (N2.of j3) (f l a) (e.same<|j8 a _))⟩
 |[.tup Y],q=>obtain⟨v,rfl,z⟩:=AY r;obtain⟨p,b,rfl,d,e⟩:=z.tupI;exact⟨_,gZ,p,b,rfl,.inr d,λl a=>q _ _ (j8 a _) (.lst (N2.of j3) (f l a) (e.same<|j8 a _))⟩
def tyD:D->String
 |.non=> "NoneType"|.bl _=> "bool"|.int _=> "int"|.str _=> "str"|.tup _=> "tuple"|.lst _=> "list"|.dct=> "dict"
def MK (T:String)(d:D):Bool:=tyD d==T||(T== "int"&&tyD d== "bool")
def EQ (T:String):Prop:=∀(K:i6) (d:D),PySem.W.kitOne K (.type (tyD d)) (.type T)=some (MK T d)
def UD:EQ "int":=λK d=>by cases d<;>with_unfolding_all rfl
def MT:EQ "bool":=λK d=>by cases d<;>with_unfolding_all rfl
def WC {O:bb->Prop}(I:Inv X f σ H s)(m:EQ T)(r:A5 X.K H O v d)(g:RelV v u)(q:Q (.bl (MK T d)) H):
  ag (bc X.prog X.w) X.A (call (.builtin "isinstance") [u,.type T]) (EP X f σ Q) X.xe s:=by
 have e:=m X.K d;have b:∀l,EP X f σ Q (.bool (MK T d)) {s with toks:=l}:=λl=>⟨.bl _,H,I.tok _,rfl,q⟩;cases d with
 |non=>cases r.ac2;cases g;exact PySem.W.kia_one PySem.W.kitx_none I.kIn aGB e (λz=>nomatch z) b
 |bl=>cases r.blI;cases g;exact PySem.W.kia_one PySem.W.kitx_bool I.kIn aGB e (λz=>nomatch z) b
 |int=>cases r.aa6;obtain⟨t,rfl⟩:=g;exact PySem.W.kia_one PySem.W.kitx_int I.kIn aGB e (λz=>nomatch z) b
 |str=>cases r.ac4;obtain⟨t,rfl⟩:=g;exact PySem.W.kia_one PySem.W.kitx_str I.kIn aGB e (λz=>nomatch z) b
 |tup Y=>obtain⟨a,y,rfl,h,_⟩:=r.tupI;cases g;obtain⟨i,_,p,_⟩:=I.tuple h;obtain⟨o,j,k,_⟩:=p;exact PySem.W.kia_one PySem.W.kitx_tuple I.kIn ⟨o,j,k⟩ e (λz=>nomatch z) b
 |lst Y=>obtain⟨a,y,rfl,h,_⟩:=r.aa5;cases g;obtain⟨i,_,p,_⟩:=I.list h;obtain⟨o,n,j,k,_⟩:=p;exact PySem.W.kia_one PySem.W.kitx_list I.kIn ⟨o,j,k⟩ e (λz=>nomatch z) b
 |dct=>obtain⟨a,o,rfl,h,x⟩:=r.ag0;cases g;exact PySem.W.kia_one PySem.W.kitx_dict I.kIn ⟨o,(I.hok _ _ h).1,x.1⟩ e (λz=>nomatch z) b
def KL (y:EQ T)(z:PB X a f)(A:cv x=some (.type T):=by decide+kernel)(B:X.mg "isinstance"=none:=by assumption)(j:X.mg x=none:=by assumption)(C:Gl X "isinstance":=by rfl)(k:Gl X x:=by rfl)(J:(x==jh)=false:=by decide)(L:x≠ "__name__":=by decide)(o:ar [a,.Name x pt] X.env=(false,dm a X.env)::ar [.Name x pt] X.env:=by rfl)(N:ar [Expr.Name x pt] X.env=[(false,dm (.Name x pt) X.env)]:=by rfl)(U:(cz b (ar [Expr.Name x pt] X.env)).any (·.1)=false:=by rfl):
  PD X (.Call (.Name "isinstance" p) [a,.Name x pt] [] b) (λρ=>(f ρ).bind λd=>.ok (.bl (MK T d))):=by
 refine wN λg s σ H Q I Y O0 O ρ E q=>?_;refine aAW (M1 (u:=.builtin "isinstance") I C B (by decide+kernel) ?_);have hb:PE X (.Name x pt) (tC<|.ty T):=VT k j A rfl L J;have h:=K3 z (K3 hb bJ (by rw[N];rfl)) o b g s σ H (λt i=>∃v d,t=[v,.ty T]/\A5 X.K i O v d/\Q (.bl (MK T d)) i) I ⟨Y,O0,O,ρ,E,by refine NZ.mono (NZ.seq q) λv i l=>?_;obtain⟨d,_,s1,m,h1⟩:=l;exact⟨v,d,rfl,m,h1 _ i (Same.refl _) .bl⟩⟩
 refine aBQ (F7 h λus s1 l=>?_) o U;obtain⟨t,i,I1,m,v,d,e,r,h⟩:=l;subst e;obtain⟨u,w,rfl,ru,n⟩:=vals2 m;cases n;exact WC I1 y r ru h
end
section
variable{K:i6}
def Kp.lst (k:Kp H O H' d){a:bb}{Y:List V}(n:¬O a)(h:N2 K H a Y)(f:∀o,K.lookup a=some o->¬d a):¬d a/\N2 K H' a Y:=by
 rcases h with(h|⟨o,h⟩)|h
 .exact⟨(k _ _ h n).2,.inl (.inl (k _ _ h n).1)⟩
 .exact⟨(k _ _ h n).2,.inl (.inr ⟨o,(k _ _ h n).1⟩)⟩
 .obtain⟨o,b,m,e,g⟩:=h;exact⟨f o e,.inr ⟨o,b,m,e,g⟩⟩
def Kp.tup (k:Kp H O H' d)(b:∀a,O a->∃o,H a=some o/\Mt o){a:bb}{Y:List V}(h:U4 K H a Y):U4 K H' a Y:=by
 rcases h with(h|⟨o,h⟩)|h
 .exact .inl (.inl (k _ _ h λz=>by obtain⟨o,q,m⟩:=b a z;rw[h]at q;cases q;exact m).1)
 .exact .inl (.inr ⟨o,(k _ _ h λz=>by obtain⟨o,q,m⟩:=b a z;rw[h]at q;cases q;exact m).1⟩)
 .exact .inr h
end
def aI (K:i6)(O:bb->Prop):Prop:=∀a o,K.lookup a=some o->¬O a
def Kp.rep {K:i6}{H H':Hp}{O b:bb->Prop}(k:Kp H O H' b)(e:∀a,O a->∃o,H a=some o/\Mt o)(f:aI K b){v:V}{d:D}(r:Rep K H O v d):Rep K H' b v d:=
 r.mono (λ_ _ h=>k.tup e h) (λa _ n h=>k.lst n h λo q=>f a o q) λa _ n h=>⟨(k a _ h n).2,(k a _ h n).1⟩
def Kp.ac3 {K:i6}{H H':Hp}{O b:bb->Prop}(k:Kp H O H' b)(e:∀a,O a->∃o,H a=some o/\Mt o)(f:aI K b){v:List V}{d:List D}(r:Reps K H O v d):Reps K H' b v d:=
 r.mono (λ_ _ h=>k.tup e h) (λa _ n h=>k.lst n h λo q=>f a o q) λa _ n h=>⟨(k a _ h n).2,(k a _ h n).1⟩
inductive Out where
 |nx (ρ:Ev)|rt (d:D)|bk (ρ:Ev)|ct (ρ:Ev)
def RS (X:Cx)(g:Hp)(h:bb->Prop)(H:Hp)(O:bb->Prop)(r:R Out)(D:Ends):Prop:=match r with
 |.ok (.nx ρ)=>∀f a b,EnvOk X.K g h a b f ρ->aI X.K b->Kp H O a b->D.nx f a
 |.ok (.bk ρ)=>∀f a b,EnvOk X.K g h a b f ρ->aI X.K b->Kp H O a b->D.bk f a
 |.ok (.ct ρ)=>∀f a b,EnvOk X.K g h a b f ρ->aI X.K b->Kp H O a b->D.ct f a
 |.ok (.rt d)=>∀v a,Same g a->Rep X.K a h v d->D.rt v a
 |.ex e=>∀a,Same g a->XW X e a
 |.bad=>False
def tS (X:Cx)(a:Hp)(b:bb->Prop)(F:Ev->R Out):TS:=λD σ H=>∃O ρ,EnvOk X.K a b H O σ ρ/\aI X.K O/\RS X a b H O (F ρ) D
def pL (X:Cx)(st:df)(F:Ev->R Out):Prop:=∀a b,PS X st (tS X a b F)
def bI (X:Cx)(st:List df)(F:Ev->R Out):Prop:=∀a b,wE X st (tS X a b F)
def ZJ {X:Cx}{st:df}{t t':TS}(h:PS X st t)(i:∀D σ H,t' D σ H->t D σ H):PS X st t':=λa s σ H D I q=>h a s σ H D I (i D σ H q)
def RU {X:Cx}{st:List df}{t t':TS}(h:wE X st t)(i:∀D σ H,t' D σ H->t D σ H):wE X st t':=λa s σ H D I q=>h a s σ H D I (i D σ H q)
def AA {X:Cx}{st:df}{t:TS}{F:Ev->R Out}{a:Hp}{b:bb->Prop}(h:PS X st t)(i:∀D σ H O ρ,EnvOk X.K a b H O σ ρ->aI X.K O->RS X a b H O (F ρ) D->t D σ H):PS X st (tS X a b F):=ZJ h λD σ H ⟨O,ρ,E,f,q⟩=>i D σ H O ρ E f q
def uz {X:Cx}{st:List df}{t:TS}{F:Ev->R Out}{a:Hp}{b:bb->Prop}(h:wE X st t)(i:∀D σ H O ρ,EnvOk X.K a b H O σ ρ->aI X.K O->RS X a b H O (F ρ) D->t D σ H):wE X st (tS X a b F):=RU h λD σ H ⟨O,ρ,E,f,q⟩=>i D σ H O ρ E f q
def RS.grow {X:Cx}{i:Hp}{j:bb->Prop}{H l:Hp}{O m:bb->Prop}{r:R Out}{D:Ends}(h:RS X i j H O r D)(k:Kp H O l m):RS X i j l m r D:=by
 cases r with
 |ok o=>
  cases o with
  |nx ρ=>exactλa b g E f q=>h a b g E f (k.trans q)
  |bk ρ=>exactλa b g E f q=>h a b g E f (k.trans q)
  |ct ρ=>exactλa b g E f q=>h a b g E f (k.trans q)
  |rt d=>exact h
 |ex e=>exact h
 |bad=>exact h
def C4 (r:R Out)(F:Ev->R Out):R Out:=match r with
 |.ok (.nx ρ)=>F ρ
 |r=>r
section
variable{st:df} {rest:List df}
def RS.seq {a:Hp}{b:bb->Prop}{H:Hp}{O:bb->Prop}{r:R Out}{D:Ends}(h:RS X a b H O (C4 r G) D):RS X a b H O r {D with nx:=tS X a b G D}:=by
 cases r with
 |ok o=>
  cases o with
  |nx ρ=>exactλi j g E f k=>⟨g,ρ,E,f,(show RS X a b H O (G ρ) D from h).grow k⟩
  |bk ρ=>exact h
  |ct ρ=>exact h
  |rt d=>exact h
 |ex e=>exact h
 |bad=>exact h
def u3:bI X [] (λρ=>.ok (.nx ρ)):=λa b=>uz VX λD σ H O ρ E f q=>q σ H O E f (Kp.refl _ _)
def c6 (d:pL X st F)(e:bI X rest G):bI X (st::rest) (λρ=>C4 (F ρ) G):=λa b=>uz (QG (d a b)<|e a b) λD σ H O ρ E f q=>⟨O,ρ,E,f,RS.seq q⟩
def e9 (a:pL X st F):bI X [st] F:=λb d=>FG (a b d)
def j4 {e:cu}{f:Ev->R D}(g:PD X e f):pL X (.Return (some e) h) (λρ=>(f ρ).bind λd=>.ok (.rt d)):=λi j=>AA (QN g) λD σ H O ρ E k q=>⟨i,j,O,ρ,E,by
 cases a:f ρ with
 |ok d=>rw[a]at q;exactλv b s r=>q v b (E.same.trans s) (r.sub E.sub)
 |ex x=>rw[a]at q;exactλb s=>q b (E.same.trans s)
 |bad=>rw[a]at q;exact q⟩
def j5 (i:Nat){x:Str}{e:cu}{f:Ev->R D}{a:Pos}(j:PD X e f)(k:X.N.Nodup)(l:X.N[i]?=some x:=by rfl)(m:Loc X.env.scope x:=by first|exact aCV rfl|exact aCc rfl)
  (n:ek e (some (.Name x a)) b.line X.env=pure false:=by rfl) (o:X.fn x=true\/X.env.scope.names.lookup x=some .local:=by first|exact .inl rfl|exact .inr rfl|assumption):
  pL X (.Assign [.Name x a] e b) (λρ=>(f ρ).bind λd=>.ok (.nx (ρ.set i (.v d)))):=λp t=>AA (OT k l m j n o) λD σ H O ρ E u q=>⟨p,t,O,ρ,E,by
 cases g:f ρ with
 |ok d=>rw[g]at q;exactλv h s r=>q _ h O ((E.grow s).set i r) u (Kp.of s)
 |ex x=>rw[g]at q;exactλh s=>q h (E.same.trans s)
 |bad=>rw[g]at q;exact q⟩
def D3 {c:cu}{a b:List df}{d:Ev->R Bool}(j:FK X c d)(k:bI X a F)(l:bI X b G):pL X (.If c a b m) (λρ=>(d ρ).bind λt=>if t=true then F ρ else G ρ):=λe f=>AA (tw j (k e f)<|l e f) λD σ H O ρ E h q=>⟨e,f,O,ρ,E,by
 cases g:d ρ with
 |ok t=>
  rw[g]at q;intro i s;cases t with
  |true=>rw[h9 rfl];exact⟨O,ρ,E.grow s,h,RS.grow q (Kp.of s)⟩
  |false=>rw[ib aBb];exact⟨O,ρ,E.grow s,h,RS.grow q (Kp.of s)⟩
 |ex x=>rw[g]at q;exactλi s=>q i (E.same.trans s)
 |bad=>rw[g]at q;exact q⟩
def ZB (K:i6)(J:It)(H:Hp)(O:bb->Prop)(ds:List D):Prop:=∀b e,Kp H O b e->aI K e->(∀a,O a->∃o,H a=some o/\Mt o)->(∀a,e a->∃o,b a=some o/\Mt o)->∀i:Nat,
 (∀d,ds[i]?=some d->J.go i b/\∀x f,J.yld i b x f->Same b f/\Rep K f e x d)/\(ds[i]?=none->J.stop i b)
def tI (X:Cx)(f:Ev->R (List D)):TI:=λσ H R=>∃b d O ρ,EnvOk X.K b d H O σ ρ/\aI X.K O/\match f ρ with
 |.ok g=>∀J a,Same H a->ZB X.K J a O g->R J a
 |.ex e=>∀a,Same H a->XW X e a
 |.bad=>False
def VO (X:Cx)(a y7:cu)(f:Ev->R (List D)):Prop:=PI X a y7 (tI X f)
def CS (h:PI X b y7 t)(i:∀σ H R,t' σ H R->t σ H R):PI X b y7 t':=λa s σ H R I q=>h a s σ H R I (i σ H R q)
def X9:D->R (List D)
 |.lst Y=>.ok Y
 |_=>.bad
def DZ:D->R (List D)
 |.tup Y=>.ok Y
 |_=>.bad
def n9 (h:PD X y7 f):VO X C y7 (λρ=>(f ρ).bind X9):=CS (SJ h) λσ H R ⟨m,p,O,ρ,E,I,q⟩=>⟨m,p,O,ρ,E,by
 dsimp only at q;cases e:f ρ with
 |ok d=>
  rw[e]at q;cases d with
  |lst Y=>
   intro v t s r;cases r with
   |lst h n r=>
    rename_i a b;refine⟨a,rfl,⟨b,h⟩,q (Itl X.K a) t s ?_⟩;intro J L k j u w i;obtain⟨N,g⟩:=k.lst n h λo q=>j a o q;have y:=k.ac3 u j r;refine⟨λd e=>?_,λe=>⟨b,g,by rw[r.length];exact aBR.mp e⟩⟩;obtain⟨v,l,z⟩:=y.get e;exact⟨⟨b,v,g,l⟩,by rintro x Q ⟨A,B⟩;subst A;have:=B b g;rw[l]at this;cases this;exact⟨Same.refl _,z⟩⟩
  |_=>exact aAk q
 |ex x=>rw[e]at q;exact q
 |bad=>rw[e]at q;exact q⟩
def UO (h:PD X y7 f):VO X A y7 (λρ=>(f ρ).bind DZ):=CS (YQ h) λσ H R ⟨m,n,O,ρ,E,B,q⟩=>⟨m,n,O,ρ,E,by
 dsimp only at q;cases e:f ρ with
 |ok d=>
  rw[e]at q;cases d with
  |tup Y=>
   intro v o s r;cases r with
   |tup h r=>
    rename_i a b;refine⟨a,rfl,⟨b,h⟩,q (Itt X.K a) o s ?_⟩;intro C I k p j t i;have g:=k.tup j h;have u:=k.ac3 j p r;refine⟨λd e=>?_,λe=>⟨b,g,by rw[r.length];exact aBR.mp e⟩⟩;obtain⟨v,l,w⟩:=u.get e;exact⟨⟨b,v,g,l⟩,by rintro x J ⟨y,z⟩;subst y;have:=z b g;rw[l]at this;cases this;exact⟨Same.refl _,w⟩⟩
  |_=>exact aAk q
 |ex x=>rw[e]at q;exact q
 |bad=>rw[e]at q;exact q⟩
def ZC (lo c:Int)(n:Nat):It:=⟨λi _=>i<n,λi H x a=>a=H/\x=.int (lo+i*c),λi _=>n<=i⟩
def yQ {P:be}{w:cp}{K:i6}{J:cu}(it:bb)(lo c:Int)(n:Nat):Turn P w K J (ZC lo c n) [it] it (λi h=>IsRangeIter h it (lo+(i:Nat)*c) ((n:Int)-(i:Nat)) c)where
 mem:=by simp
 obj:=λi h st b d=>by
  have e:b=it:=by simpa using d
  subst e;exact⟨_,st,λv z=>by have L:Data.fields _=Data.cell v:=z;cases L⟩
 keep:=λi h g st k=>k it (by simp) _ st
 item:=by intro X l m p q i a s σ H E I j st r;subst l m p;obtain⟨u,x,N,y,A,B⟩:=j it (by simp);have W:=Walks.range (prog:=X.prog) (w:=X.w) (I.ok.hd q) it lo c n;refine W.item i s _ _ r st λv g C O f kk=>?_;obtain⟨t,rfl⟩:=O;have Q:Inv X a σ H {s with heap:=g,toks:=C}:=I.turned (λb o d e=>kk b o (by simpa using d) e) u x y A B;exact⟨_,rfl,KP (s:={s with heap:=g,toks:=C}) (n:= "range_iterator") f rfl rfl (by decide) ⟨.int (lo+i*c),H,Q,⟨t,rfl⟩,⟨rfl,rfl⟩,f,λb d=>(j b d).1⟩⟩
 done:=by intro X l m p q i a s σ H E I j st r;subst l m p;obtain⟨u,x,N,y,A,B⟩:=j it (by simp);exact wpAny_pyNext_range_end (I.ok.hd q) st (by have:n<=i:=r;lia) λg T=>⟨rfl,I.turned (t':=s.toks) (λb o d e=>T b o d e) u x y A B⟩
 self:=λ_ _ _ _ _ st h=>wpAny_pyIter_rangeiter st h
def BZ (lo c:Int)(n:Nat):List D:=(aBy n).map λ(k:Nat)=>D.int (lo+(k:Int)*c)
def jY (K:i6)(H:Hp)(O:bb->Prop)(lo c:Int)(n:Nat):ZB K (ZC lo c n) H O (BZ lo c n):=by
 intro h j k l m b i;unfold BZ;rw[aAI];by_cases a:i<n
 .rw[List.getElem?_range a];refine⟨λd e=>?_,λe=>(by cases e)⟩;cases e;exact⟨a,by rintro x o ⟨f,g⟩;subst f g;exact⟨Same.refl _,.int⟩⟩
 .rw[aBR.mpr (by simpa using a)];exact⟨λd e=>(by cases e),λ_=>aEt a⟩
def lT (a b c:Int):Nat:=if a<b then((b-a-1)/c+1).toNat else 0
def HC (d:0<c):aCA a b c=(lT a b c:Int):=by
 unfold aCA lT;rw[h9 (by lia)];split
 .have:0<=(b-a-1)/c:=Int.ediv_nonneg (by lia) (by lia)
  lia
 .rfl
def HW (j:0<c)(k:c<2^30)(l:-(2^60)<=a)(i:a<2^60)(m:-(2^60)<=b)(n:b<2^60):aGn a b c=true:=by
 unfold aGn;have e:aCA a b c=if a<b then(b-a-1)/c+1 else 0:=by unfold aCA;rw[h9 (by lia)]
 rw[e];have d:a<b->(b-a-1)/c<=b-a-1:=λh=>Int.ediv_le_self _ (by lia);have f:a<b->0<=(b-a-1)/c:=λh=>Int.ediv_nonneg (by lia) (by lia);have g:a<b->(b-a-1)/c*c<=b-a-1:=λh=>Int.ediv_mul_le _ (by lia);simp only[Builtin.Range.rangeFitsLong,aAJ,Bool.or_eq_true,decide_eq_true_eq,beq_iff_eq,show c>0 by lia,if_true];split
 .rename_i h;have d:=d h;have f:=f h;have g:=g h;generalize(b-a-1)/c=q at*
  lia
 .lia
def sS (a b c:Int):Prop:=0<c/\c<2^30/\-(2^60)<=a/\a<2^60/\-(2^60)<=b/\b<2^60
instance(a b c:Int):Decidable (sS a b c):=inferInstanceAs (Decidable<|_/\_)
def jD:List D->R (List D)
 |[.int b]=>if sS 0 b 1 then .ok (BZ 0 1 (lT 0 b 1))else .bad
 |[.int a,.int b]=>if sS a b 1 then .ok (BZ a 1 (lT a b 1))else .bad
 |[.int a,.int b,.int c]=>if sS a b c then .ok (BZ a c (lT a b c))else .bad
 |_=>.bad
def kH {R:It->Hp->Prop}{E:A4}(I:Inv X d σ H s)(h:sS a b c)(q:R (ZC a c (lT a b c)) H):ag (bc X.prog X.w) X.A (pyIter (.ref s.heap.objs.size)) (PIE X d σ y R) E {s with heap:=s.heap.push {cls:=.type "range",data:=.fields #[.int a t,.int b u,.int c v]},toks:=tk}:=by
 obtain⟨g,i,j,k,l,m⟩:=h;refine wpAny_pyIter_range (IsRange.new ..) (HW g i j k l m) ?_;have f:Inv X d σ H {s with heap:=s.heap.push {cls:=.type "range",data:=.fields #[.int a t,.int b u,.int c v]},toks:=tk}:=I.kept λb o e=>aAc _ e;refine⟨(s.heap.push {cls:=.type "range",data:=.fields #[.int a t,.int b u,.int c v]}).objs.size,[(s.heap.push {cls:=.type "range",data:=.fields #[.int a t,.int b u,.int c v]}).objs.size],_,_,H,rfl,
  f.kept (t':=tk) λb o e=>aAc _ e,yQ _ a c (lT a b c),?_,λn p=>?_,q⟩
 .have r:a+((0:Nat):Int)*c=a:=by simp
  have x:((lT a b c:Nat):Int)-((0:Nat):Int)=aCA a b c:=by rw[HC g];simp
  show IsRangeIter _ _ (a+((0:Nat):Int)*c) (((lT a b c:Nat):Int)-((0:Nat):Int)) c;rw[r,x];exact aAp _ rfl
 .have e:n=(s.heap.push {cls:=.type "range",data:=.fields #[.int a t,.int b u,.int c v]}).objs.size:=by simpa using p
  subst e;exact f.ae9 (aAh _) (f.hok.fresh<|aAh _)
def MW {R:It->Hp->Prop}{O:bb->Prop}(I:Inv X e σ H s)(r:Paired (A5 X.K H O) vs ds)(f:l8 vs i)(h:jD ds=.ok j)(q:∀J,ZB X.K J H O j->R J H):ag (bc X.prog X.w) X.A (call (.type "range") i) (λv k=>ag (bc X.prog X.w) X.A (pyIter v) (PIE X e σ y R) X.xe k) X.xe s:=by
 match ds,h with
 |[.int b],h=>
  obtain⟨v,rfl,z⟩:=AY r;cases z.aa6;obtain⟨u,rfl,t,rfl⟩:=vals1 f;simp only[jD]at h;split at h
  .rename_i d;cases h;exact call_range_1 (kH I d<|q _<|jY _ _ _ _ _ _)
  .cases h
 |[.int a,.int b],h=>
  obtain⟨v,l,rfl,z,g⟩:=pr2 r;cases z.aa6;cases g.aa6;obtain⟨u,m,rfl,⟨t,rfl⟩,⟨n,rfl⟩⟩:=vals2 f;simp only[jD]at h;split at h
  .rename_i d;cases h;exact call_range_2 (kH I d<|q _<|jY _ _ _ _ _ _)
  .cases h
 |[.int a,.int b,.int c],h=>
  cases r with
  |cons o r=>
   obtain⟨v,l,rfl,z,g⟩:=pr2 r;cases o.aa6;cases z.aa6;cases g.aa6;cases f with
   |cons p f=>
    obtain⟨u,m,rfl,⟨t,rfl⟩,⟨n,rfl⟩⟩:=vals2 f;obtain⟨B,rfl⟩:=p;simp only[jD]at h;split at h
    .rename_i d;cases h;have x:=d;obtain⟨C,E,_⟩:=x;exact call_range_3 (by lia) (kH (tk:=s.toks) I d<|q _<|jY _ _ _ _ _ _) (.inl (PyProof.noPylong_small (by lia)))
    .cases h
def jV {t e:cu}{es:List cu}{p:Pos}{f:Ev->R (List D)}(u:fx X (e::es) f)(v:Gl X "range":=by rfl)(w:X.mg "range"=none:=by assumption)
  (y:ar (e::es) X.env=(false,dm e X.env)::ar es X.env:=by rfl) (z:(cz i (ar es X.env)).any (·.1)=false:=by rfl):
  VO X t (.Call (.Name "range" p) (e::es) [] i) (λρ=>(f ρ).bind jD):=by
 rintro j s σ H Q I ⟨A,B,O,ρ,E,Y,q⟩;dsimp only at q;refine Call_ (M1 I v w boot_range<|aBk (F7 (u i j s σ H (λl g=>∃h k,Same H g/\Paired (A5 X.K g O) l h/\jD h=.ok k/\∀J,ZB X.K J g O k->Q J g) I ⟨A,B,O,ρ,E,?_⟩) λus m C=>?_) y z)
 .cases n:f ρ with
  |ok h=>
   rw[n]at q;intro l g m o;rw[R.aa0]at q;cases d:jD h with
   |ok k=>rw[d]at q;exact⟨h,k,m,o,d,λJ L=>q J g m L⟩
   |ex x=>
    rw[d]at q;match h,d with
    |[.int b],d=>simp only[jD]at d;split at d<;>cases d
    |[.int a,.int b],d=>simp only[jD]at d;split at d<;>cases d
    |[.int a,.int b,.int c],d=>simp only[jD]at d;split at d<;>cases d
   |bad=>rw[d]at q;exact q.elim
  |ex x=>rw[n]at q;exact q
  |bad=>rw[n]at q;exact q
 .obtain⟨l,g,N,o,h,k,sm,r,T,U⟩:=C;exact MW N r o T U
def tG (X:Cx)(G:D->Ev->R Ev):TG:=λv σ H Q=>∃b e O ρ d f,EnvOk X.K b e H O σ ρ/\Rep X.K H O v d/\G d ρ=.ok f/\∀g a,Same H a->EnvOk X.K b e a O g f->Q g a
def KE (X:Cx)(a:cu)(G:D->Ev->R Ev):Prop:=PG X a (tG X G)
def YB (h:PG X b t)(i:∀v σ H Q,t' v σ H Q->t v σ H Q):PG X b t':=λa s σ H v u Q I r q=>h a s σ H v u Q I r (i v σ H Q q)
def l7 (i:Nat)(a:X.N.Nodup)(b:X.N[i]?=some x:=by rfl)(f:Loc X.env.scope x:=by first|exact aCV rfl|exact aCc rfl)(g:X.fn x=true\/X.env.scope.names.lookup x=some .local:=by first|exact .inl rfl|exact .inr rfl|assumption):
  KE X (.Name x h) (λd ρ=>.ok (ρ.set i (.v d))):=YB (VD a b f g)<|by
 rintro v σ H Q ⟨j,k,O,ρ,d,l,E,r,e,q⟩;cases e;exact q _ H (Same.refl _) (E.set i r)
def tGs (X:Cx)(G:List D->Ev->R Ev):YM:=λh σ H Q=>∃b d O ρ e f,EnvOk X.K b d H O σ ρ/\Reps X.K H O h e/\G e ρ=.ok f/\∀g a,Same H a->EnvOk X.K b d a O g f->Q g a
def UE (X:Cx)(a:List cu)(G:List D->Ev->R Ev):Prop:=jw X a (tGs X G)
def FI {b:List cu}{t t':YM}(h:jw X b t)(i:∀v σ H Q,t' v σ H Q->t v σ H Q):jw X b t':=λa s σ H v u Q I r q=>h a s σ H v u Q I r (i v σ H Q q)
def fO:List D->Ev->R Ev
 |[],ρ=>.ok ρ
 |_,_=>.bad
def F8 (G:D->Ev->R Ev)(a:List D->Ev->R Ev):List D->Ev->R Ev
 |d::b,ρ=>(G d ρ).bind λe=>a b e
 |_,_=>.bad
def Q5:UE X [] fO:=FI RO<|by
 rintro a σ H Q ⟨b,d,O,ρ,f,g,E,r,e,q⟩;cases r with
 |nil=>cases e;exact⟨rfl,q σ H (Same.refl _) E⟩
 |cons _ _=>cases e
def o7 {e:cu}{es:List cu}{G:D->Ev->R Ev}{f:List D->Ev->R Ev}(l:KE X e G)(m:UE X es f)
  (n:(dq (e::es) X.env).map (·.2)=gv e X.env::(dq es X.env).map (·.2):=by rfl):UE X (e::es) (F8 G f):=FI (OJ l m n)<|by
 rintro g σ H Q ⟨h,i,O,ρ,j,o,E,r,e,q⟩;cases r with
 |nil=>cases e
 |@cons v d g j r p=>
  simp only[F8]at e;cases b:G d ρ with
  |ok a=>rw[b]at e;exact⟨v,g,rfl,h,i,O,ρ,d,a,E,r,b,λs A k t=>⟨h,i,O,a,j,o,t,p.same k,e,λu w y z=>q u w (k.trans y) z⟩⟩
  |ex x=>rw[b]at e;cases e
  |bad=>rw[b]at e;cases e
def bW (n:Nat)(b:List D->Ev->R Ev):D->Ev->R Ev
 |.tup a,ρ=>if a.length=n then b a ρ else .bad
 |.lst a,ρ=>if a.length=n then b a ρ else .bad
 |_,_=>.bad
end
section
theorem sI (f:t≠it):∀(n i:Nat) (s:a9) (Q:List ae->a9->Prop),s.heap.IsListIter it t i->s.heap.IsList t items->i+n<=items.size->
  (∀h',h'.IsListIter it t (i+n)->Heap.SameBut it s.heap h'->Q ((items.toList.drop i).take n) {s with heap:=h'})->ag (bc prog w) A (draw (.ref it) n) Q E s
 |0,i,s,Q,a,_,_,e=>by show ag _ _ (pure []) Q E s;exact aAb (by simpa using e s.heap a (aGC ..))
 |n+1,i,s,Q,a,g,l,e=>by
  have h:i<items.size:=by omega
  show ag _ _ (eR (.ref it)>>=_) Q E s;refine aAa (wpAny_pyNext_list_item a g (x:=items[i]) (by simp[h]) λj b k=>?_);refine aAa (aAR (sI f n (i+1) _ _ b (g.extBut k.extBut f) (by omega) λm d o=>aAb ?_));have p:items.toList.drop i=items[i]::items.toList.drop (i+1):=by simp[aDL,h]
  have:=e m (by rw[show i+(n+1)=i+1+n by omega];exact d) (k.trans o);rw[p,List.take_succ_cons]at this;exact this
def kS {Q:List ae->a9->Prop}(n:A.handled=none)(g:s.heap.IsList t items)(p:∀h',Heap.ExtBut s.heap.objs.size s.heap h'->Q items.toList {s with heap:=h'}):ag (bc prog w) A (unpackItems (.ref t) items.size none) Q E s:=by
 have k:t≠s.heap.objs.size:=by obtain⟨o,h,_⟩:=g;exact aAm (aAf h)
 unfold unpackItems;refine aAa ?_
 .unfold notIterableAtAll;refine aAa (aBD g.typeIs slot_list_iter.lookup ?_);refine aAb ?_;simp only[aAq,if_false];refine aAa (aAR<|aDE g ?_);have a:(s.heap.push {cls:=.type "list_iterator",data:=.fields #[.ref t,.int 0 0]}).IsList t items:=by obtain⟨o,h,r⟩:=g;exact⟨o,aAc _ h,r⟩
  refine aAa (aAR (sI k items.size 0 _ _ ⟨_,aAp _ rfl,rfl,rfl⟩ a (by omega) λd f l=>?_));have q:List.take items.size (List.drop 0 items.toList)=items.toList:=by rw[aGi];exact aDn (by simp)
  rw[q];rw[ib (by simp)];have i:d.IsList t items:=a.extBut l.extBut k;refine aAa (aAR (wpAny_pyNext_list_end n f i (by simp) λu j=>?_));simp only[Option.isSome_none,aAq,if_false];refine aAb (p u λb o m e=>j b o m (l.extBut b o m<|aAc _ e))
def iJ {d}{Q:Unit->a9->Prop}(e:A.handled=none)(f:s.heap.IsList t items)(g:(dq a env).length=items.size)(b:(dq a env).findIdx? (·.1)=none)(h:∀h',Heap.ExtBut s.heap.objs.size s.heap h'->ag (bc prog w) A (assignInOrder ((dq a env).map (·.2)) items.toList) Q E {s with heap:=h'}):
  ag (bc prog w) A (gv (.Tuple a d i) env (.ref t)) Q E s:=by
 rw[assign_Tuple];refine aAa (aEA ?_);unfold unpack;rw[g,b];exact aAa (aAR<|kS e f h)
end
section
def X8 (A:X.calm=true)(h:UE X es T)(B:(dq es X.env).length=n:=by rfl)(C:(dq es X.env).findIdx? (·.1)=none:=by rfl):KE X (.Tuple es k U) (bW n T):=by
 rintro f s σ H v u Q I r ⟨J,L,O,ρ,d,N,E,Y,e,q⟩;cases Y with
 |@tup a j l m g=>
  cases r;simp only[bW]at e;split at e
  .rename_i p;obtain⟨t,i,w,hz⟩:=I.tuple m;refine assign_Tuple_tuple (I.ok.hd A) w (by simp[B,<-p,<-g.length,i.length]) C λx y=>?_;have z:Inv X f σ H {s with heap:=x}:=I.kept (t':=s.toks) λb o e=>y b o (aAm<|aAf e) e;exact h f _ σ H j _ Q z (by simpa using i) ⟨J,L,O,ρ,l,N,E,g,e,q⟩
  .cases e
 |@lst a j l m _ g=>
  cases r;simp only[bW]at e;split at e
  .rename_i p;obtain⟨t,i,w,hz⟩:=I.list m;refine iJ (I.ok.hd A) w.isList (by simp[B,<-p,<-g.length,i.length]) C λx y=>?_;have z:Inv X f σ H {s with heap:=x}:=I.kept (t':=s.toks) λb o e=>y b o (aAm<|aAf e) e;exact h f _ σ H j _ Q z (by simpa using i) ⟨J,L,O,ρ,l,N,E,g,e,q⟩
  .cases e
 |_=>cases e
def IL (f:Ev->R D)(G:D->Ev->R Ev):Ev->R Out:=λρ=>(f ρ).bind λd=>match G d ρ with
 |.ok a=>.ok (.nx a)
 |_=>.bad
def vE (l:PD X e f)(m:KE X a G)(n:gk [a] e g.line X.env=pure false:=by rfl)(o:gm [a] e X.env=pure none:=by rfl)(p:(dq [a] X.env).map (·.2)=[gv a X.env]:=by rfl):pL X (.Assign [a] e g) (IL f G):=λi j=>AA (AG l m n o p) λD σ H O ρ E t q=>⟨i,j,O,ρ,E,by
 unfold IL at q;cases h:f ρ with
 |ok d=>
  rw[h,R.aa0]at q;intro v k s r;cases b:G d ρ with
  |ok u=>rw[b]at q;exact⟨i,j,O,ρ,d,u,E.grow s,r,b,λw y z A=>q w y O A t (Kp.of<|s.trans z)⟩
  |ex x=>rw[b]at q;exact aAk q
  |bad=>rw[b]at q;exact aAk q
 |ex x=>rw[h]at q;exactλk s=>q k (E.same.trans s)
 |bad=>rw[h]at q;exact q⟩
def OF (i j:Nat){e g zZ}(o:X.calm=true)(p:X.N.Nodup)(t:KF X [a,b] f)(u:X.N[i]?=some x:=by rfl)(w:X.N[j]?=some y:=by rfl)(z:i≠j:=by decide)(A:X.env.scope.names.lookup x=some .local:=by rfl)(B:X.env.scope.names.lookup y=some .local:=by rfl)(C:gm [.Tuple [.Name x m,.Name y n] e pt] (.Tuple [a,b] g zZ) X.env=pure (some [x,y]):=by rfl)(I:gk [.Tuple [.Name x m,.Name y n] e pt] (.Tuple [a,b] g zZ) h.line X.env=pure false:=by rfl):
  pL X (.Assign [.Tuple [.Name x m,.Name y n] e pt] (.Tuple [a,b] g zZ) h) (λρ=>(f ρ).bind λds=>match ds with
   |[d,d']=>.ok (.nx ((ρ.set i (.v d)).set j (.v d')))
   |_=>.bad):=λJ L=>AA (ZA o p u w z A B t C I) λD σ H O ρ E Q q=>⟨J,L,O,ρ,E,by
 cases k:f ρ with
 |ok ds=>
  rw[k,R.aa0]at q;intro Y l s r;cases r with
  |nil=>exact aAk q
  |cons T r=>
   cases r with
   |nil=>exact aAk q
   |cons U r=>
    cases r with
    |nil=>exact⟨_,_,rfl,q _ l O (((E.grow s).set i T).set j U) Q (Kp.of s)⟩
    |cons _ _=>exact aAk q
 |ex x=>rw[k]at q;exactλl s=>q l (E.same.trans s)
 |bad=>rw[k]at q;exact q⟩
def R8 (G:D->Ev->R Ev)(F:Ev->R Out):List D->Ev->R Out
 |[],ρ=>.ok (.nx ρ)
 |d::e,ρ=>match G d ρ with
  |.ok b=>match F b with
   |.ok (.nx a)=>R8 G F e a
   |.ok (.ct a)=>R8 G F e a
   |.ok (.bk a)=>.ok (.nx a)
   |r=>r
  |_=>.bad
def M0 (hp:PassesOwn (bc X.prog X.w) X.A X.env X.xe)(hc:X.calm=true)(hi:VO X tg y7 f)(hg:KE X tg G)(hb:bI X body F)(hs:∀x,et y7 X.env x=pure x:=by intro _;rfl):pL X (.For tg y7 body [] pos) (λρ=>(f ρ).bind λds=>R8 G F ds ρ):=λj k=>AA (jq hp hc hi hg (hb j k) hs) λD σ H O ρ E fk q=>⟨j,k,O,ρ,E,fk,by
 cases Q:f ρ with
 |ex x=>rw[Q]at q;exactλh s=>q h (E.same.trans s)
 |bad=>rw[Q]at q;exact q
 |ok ds=>
  rw[Q,R.aa0]at q;intro J H1 T hJ;refine⟨λi m U h=>m=ds.length-i/\i<=ds.length/\∃g v,EnvOk X.K j k h g U v/\aI X.K g/\Kp H1 O h g/\RS X j k h g (R8 G F (ds.drop i) v) D,⟨ds.length,by simp,aAX _,O,ρ,E.grow T,fk,Kp.refl _ _,?_⟩,?_⟩
  .rw[aGi];exact q.grow (Kp.of T)
  .rintro i m U h ⟨rfl,hi,g,v,Y,l,k',a⟩;have z:=hJ h g k' l (E.grow T).trk Y.trk i;by_cases ao:i<ds.length
   .obtain⟨go,yl⟩:=z.1 ds[i] (aAg ao);refine .inr ⟨go,λxh u=>∃L b,EnvOk X.K j k u L xh b/\aI X.K L/\Kp H1 O u L/\RS X j k u L (R8 G F (ds.drop<|i+1) b) D,λxh u p=>⟨ds.length-(i+1),by omega,rfl,ao,p⟩,λx u y=>?_⟩;obtain⟨s2,r2⟩:=yl x u y;rw[aDL ao,R8]at a;cases N:G ds[i] v with
    |ex x=>rw[N]at a;exact(show False from a).elim
    |bad=>rw[N]at a;exact(show False from a).elim
    |ok n=>
     rw[N]at a;dsimp only at a;refine⟨j,k,g,v,ds[i],n,Y.grow s2,r2,N,λtf H3 s3 E3=>⟨g,n,E3,l,?_⟩⟩;have kk:Kp h g H3 g:=Kp.of (s2.trans s3);cases e3:F n with
     |ex x=>rw[e3]at a;exact a
     |bad=>rw[e3]at a;exact a
     |ok o=>
      rw[e3]at a;cases o with
      |nx b=>exactλr H4 B C I t=>⟨B,b,C,I,k'.trans (kk.trans t),RS.grow a (kk.trans t)⟩
      |ct b=>exactλr H4 B C I t=>⟨B,b,C,I,k'.trans (kk.trans t),RS.grow a (kk.trans t)⟩
      |bk b=>exactλr H4 B C I t=>a r H4 B C I (kk.trans t)
      |rt d=>exact a
   .have e:i=ds.length:=by omega
    subst e;rw[List.drop_length,R8]at a;exact .inl ⟨z.2 (by simp),a U h g Y l (Kp.refl _ _)⟩⟩
def R3 (c:Ev->R Bool)(F:Ev->R Out):Nat->Ev->R Out
 |0,_=>.bad
 |n+1,ρ=>(c ρ).bind λb=>if b=true then(match F ρ with
  |.ok (.nx a)=>R3 c F n a
  |.ok (.ct a)=>R3 c F n a
  |.ok (.bk a)=>.ok (.nx a)
  |r=>r)else .ok (.nx ρ)
def kJ (n:Ev->Nat)(Y:PassesOwn (bc X.prog X.w) X.A X.env X.xe)(hc:FK X c y)(hb:bI X body F):pL X (.While c body [] pos) (λρ=>R3 y F (n ρ) ρ):=λi j=>AA (OW Y hc<|hb i j) λD σ H O ρ E fk q=>by
 refine⟨λm I z=>∃e g,EnvOk X.K i j z e I g/\aI X.K e/\RS X i j z e (R3 y F m g) D,⟨n ρ,O,ρ,E,fk,q⟩,?_⟩;rintro m I z ⟨e,g,B,l,a⟩;cases m with
 |zero=>exact(show False from a).elim
 |succ m=>
  rw[R3]at a;refine⟨i,j,e,g,B,?_⟩;cases J:y g with
  |ex x=>rw[J]at a;exactλC k=>a C (B.same.trans k)
  |bad=>rw[J]at a;exact a
  |ok b=>
   rw[J,R.aa0]at a;intro C k;cases b with
   |false=>rw[ib aBb]at a⊢;exact a I C e (B.grow k) l (Kp.of k)
   |true=>
    rw[h9 rfl]at a⊢;refine⟨λU L=>∃N r,EnvOk X.K i j L N U r/\aI X.K N/\RS X i j L N (R3 y F m r) D,λU L p=>⟨m,aDi m,p⟩,e,g,B.grow k,l,?_⟩;have kk:Kp z e C e:=Kp.of k;cases Q:F g with
    |ex x=>rw[Q]at a;exact a
    |bad=>rw[Q]at a;exact a
    |ok o=>
     rw[Q]at a;cases o with
     |nx f=>exactλh T s t u v=>⟨s,f,t,u,RS.grow a (kk.trans v)⟩
     |ct f=>exactλh T s t u v=>⟨s,f,t,u,RS.grow a (kk.trans v)⟩
     |bk f=>exactλh T s t u v=>a h T s t u (kk.trans v)
     |rt d=>exact a
end
def jz (K:i6)(n:Nat)(m:List D->R D):Sp:=λf H Q _=>∃O b d,Reps K H O f b/\b.length=n/\(∀a,O a->∃o,H a=some o/\Mt o)/\Tb H/\aI K O/\m b=.ok d/\∀v e,Same H e->Rep K e O v d->Q v e
def k5 (N:List Str)(ds:List D):Ev:=ds.map Sl.v++aCQ (N.length-ds.length) Sl.no
def M6:R Out->R D
 |.ok (.rt d)=>.ok d
 |.ok (.nx _)=>.ok .non
 |.ex e=>.ex e
 |_=>.bad
def rZ {K:i6}{H:Hp}{O:bb->Prop}{N:List Str}{vs:List V}{ds:List D}(r:Reps K H O vs ds)(t:∀a,O a->∃o,H a=some o/\Mt o)(tb:Tb H):EnvOk K H O H O (start N vs) (k5 N ds)where
 len:=by simp[L2.start,k5,r.length]
 same:=Same.refl H
 sub:=λ_ h=>h
 trk:=t
 trk0:=λa h=>let⟨o,q,_⟩:=t a h;⟨o,q⟩
 tab:=tb
 slot:=λi g h=>by
  unfold k5 at h;unfold L2.start;by_cases b:i<ds.length
  .rw[aAZ (by simpa using b),aAI]at h;cases e:ds[i]? with
   |none=>rw[e]at h;cases h
   |some d=>rw[e]at h;have f:Sl.v d=g:=Option.some.inj h;subst f;obtain⟨v,k,l⟩:=r.get e;exact⟨v,by rw[aAZ (by rw[aAj,r.length];exact b),aAI,k];rfl,l⟩
  .rw[aAA (by simpa using b),aBA]at h;split at h
   .cases h;trivial
   .cases h
 inj:=λi j x y a h _ o=>by
  unfold k5 at h;by_cases b:i<ds.length
  .rw[aAZ (by simpa using b),aAI]at h;cases e:ds[i]? with
   |none=>rw[e]at h;cases h
   |some d=>rw[e]at h;have f:Sl.v d=x:=Option.some.inj h;subst f;exact o.elim
  .rw[aAA (by simpa using b),aBA]at h;split at h
   .cases h;exact o.elim
   .cases h
section
variable{K:i6}
abbrev UW (P:be)(w:cp)(K:i6)(mg:cH)(base:cq)(N:List Str)(qual:Str)(sc:hH)(f:bb)(T:ae)(A:cf)(a:List Env)(s:a9)(H:Hp)(E:XK):Cx:=(AL wD P w K mg base N qual sc f T A a s H E).nox
def fnD {x qual:Str}{st:df}{f:bb}{fd:dn}{N ps:List Str}{k:Nat}{m:List D->R D}{F:Ev->R Out}(j:Fun K x qual st f fd)(S:FnScope N ps (c8 st))
  (l:∀(T:ae) (A:cf) (a:List Env) (s:a9) (H:Hp) (E:XK),Room k (A.deeper (envOfC qual (c8 st) s.heap.objs.size f T))->bI (UW P w K mg base N qual (c8 st) f T A a s H E) (t9 st) F)
  (n:∀ds d,ds.length=ps.length->m ds=.ok d->M6 (F (k5 N ds))=.ok d):FnOk P w K mg base wD (k+1) f fd ps (jz K ps.length m):=by
 refine j.ok S (by rintro p H Q E ⟨O,ds,d,r,g,_⟩;rw[r.length];exact g) (λT A a s H p Q E t u=>?_);obtain⟨O,ds,d,r,g,v,y,z,e,q⟩:=u;refine⟨_,l T A a s H E t H O,O,_,rZ r v y,z,?_⟩;have h:=n ds d g e;cases i:F (k5 N ds)with
 |ok o=>
  rw[i]at h;cases o with
  |rt B=>have b:R.ok B=R.ok d:=h;injection b with b;subst b;exact q
  |nx ρ=>have b:R.ok D.non=R.ok d:=h;injection b with b;subst b;exactλJ C L I _ _=>q .non C I.same .non
  |bk ρ=>cases h
  |ct ρ=>cases h
 |ex x=>rw[i]at h;cases h
 |bad=>rw[i]at h;cases h
end
section
def uF (I:Inv X b σ H s)(O:bb->Prop)(t:∀a,O a->∃o,H a=some o/\Mt o):aI X.K O:=λa o d z=>by obtain⟨u,h,_⟩:=t a z;have:=(I.bs a o<|I.ok.mod.kin a o d).2;rw[h]at this;cases this
def SC (F:FnOk X.prog X.w X.K X.mg X.base wD k g o ps (jz X.K n m))(r:Room k X.A)(t:X.mg x=some (.ref g))(u:PySem.W.keepIn X.K (.ref g)=true)(y:Binds X.K o ps [])(B:KF X (e::es) f)(C:∀ρ ds,f ρ=.ok ds->ds.length=n)(J:Gl X x:=by rfl)(L:(x==jh)=false:=by decide)(N:ar (e::es) X.env=(false,dm e X.env)::ar es X.env:=by rfl)(T:(cz i (ar es X.env)).any (·.1)=false:=by rfl):
  PD X (.Call (.Name x p) (e::es) [] i) (λρ=>(f ρ).bind m):=by
 refine wN λa s σ H Q I U Y O ρ E q=>?_;refine RH F r J t u y .nil qz B L N T a s σ H Q I ⟨U,Y,O,ρ,E,?_⟩;dsimp only at q;cases b:f ρ with
 |ex z=>rw[b]at q;exact q
 |bad=>rw[b]at q;exact q
 |ok ds=>
  rw[b,R.aa0]at q;intro vs H1 j r1;rw[aCo];have l:=E.grow j;cases h:m ds with
  |ex z=>rw[h]at q;exact(q H<|Same.refl _).elim
  |bad=>rw[h]at q;exact q.elim
  |ok d=>rw[h]at q;refine⟨O,ds,d,r1,C ρ ds b,l.trk,l.tab,?_,h,λv H' s2 r2=>q v H' (j.trans s2) r2⟩;exact uF I O E.trk
end
def KC (env:Env):List (Str×d9)->List (Str×bb)->List (Str×bb)
 |[],B=>B
 |(n,k)::r,B=>KC env r (if k=.free then(n,(env.cells.lookup n).getD 0)::B else B)
def fM (h:∀y∈d.names,y.2=.free->∃c,env.cells.lookup y.1=some c):closureFor d env=pure (KC env d.names []):=by
 have p:∀(b:List (Str×d9)) (B:List (Str×bb)),(∀y∈b,y.2=.free->∃c,env.cells.lookup y.1=some c)->
   (forIn b B λ(x:Str×d9) (r:List (Str×bb))=>(match x with
    |(f,g)=>if(g==NameKind.free)=true then(do let a<-cellOf env f;pure (aCn ((f,a)::r)))else pure (aCn r):Sem (ForInStep<|List<|Str×bb)))=pure (KC env b B):=by
  intro b;induction b with
  |nil=>intro B _;rfl
  |cons y r m=>
   intro B i;obtain⟨n,k⟩:=y;rw[aDa];by_cases j:k=.free
   .subst j;obtain⟨c,o⟩:=i (n,.free) aAN rfl;have e:cellOf env n=pure c:=by unfold cellOf;rw[o]
    simp only[beq_self_eq_true,if_true,e,pure_bind];rw[m _ λz l=>i z (aAe _ l)];simp[KC,o]
   .have q:(k==NameKind.free)=false:=by simpa using j
    simp only[q,aAq,if_false,pure_bind];rw[m _ λz l=>i z (aAe _ l)];simp[KC,j]
 have e:=p d.names [] h;show((forIn d.names ([]:List (Str×bb)) λ(x:Str×d9) (r:List (Str×bb))=>(match x with
    |(f,g)=>if(g==NameKind.free)=true then(do let a<-cellOf env f;pure (aCn ((f,a)::r)))else pure (aCn r):Sem (ForInStep<|List<|Str×bb)))>>=λs=>pure s)=_
 rw[e];rfl
theorem yR:∀(names:List (Str×d9)) (B:List (Str×bb)) {x:Str} {c:bb},(∀y∈names,y.2=.free->∃c,env.cells.lookup y.1=some c)->(∀x c,B.lookup x=some c->env.cells.lookup x=some c)->
  (KC env names B).lookup x=some c->env.cells.lookup x=some c
 |[],B,x,c,_,b,h=>b x c h
 |(n,k)::r,B,x,c,f,b,h=>by
  refine yR r _ (λy l=>f y (aAe _ l)) (λd g a=>?_) h;by_cases e:k=.free
  .rw[h9 e]at a;obtain⟨c0,i⟩:=f (n,k) aAN e;by_cases j:d=n
   .subst j;rw[aBM]at a;rw[i]at a;rw[i];exact a
   .rw[aBi,beq_eq_false_iff_ne.mpr j]at a;exact b d g a
  .rw[ib e]at a;exact b d g a
theorem uG:∀(names:List (Str×d9)) (B:List (Str×bb)) {x:Str},((x,NameKind.free)∈names\/∃c,B.lookup x=some c)->∃c,(KC env names B).lookup x=some c
 |[],B,x,h=>by
  rcases h with h|h
  .cases h
  .exact h
 |(n,k)::r,B,x,h=>by
  refine uG r _ ?_;rcases h with h|⟨c,h⟩
  .rcases aAd.mp h with e|h
   .cases e;right;rw[h9 rfl,aBM];exact⟨_,rfl⟩
   .exact .inl h
  .right;by_cases a:k=.free
   .rw[h9 a,aBi];cases(x==n)with
    |true=>exact⟨_,rfl⟩
    |false=>exact⟨c,h⟩
   .rw[ib a];exact⟨c,h⟩
theorem iQ {env:Env}:∀{names:List (Str×d9)} {x:Str},
  ((names.map λ(n,k)=>if(k==NameKind.free&&env.scope.kind==.function&&env.kindOf n==some .cell)then(n,aCd)else(n,k)).lookup x=some .cell\/
   (names.map λ(n,k)=>if(k==NameKind.free&&env.scope.kind==.function&&env.kindOf n==some .cell)then(n,aCd)else(n,k)).lookup x=some .free)->(x,NameKind.free)∈names\/names.lookup x=some .cell
 |[],_,h=>by rcases h with h|h<;>cases h
 |(n,k)::r,x,h=>by
  have d:=@iQ env r x;rw[aAr]at h;dsimp only at h;by_cases b:x=n
  .subst b;by_cases a:(k==NameKind.free&&env.scope.kind==.function&&env.kindOf x==some .cell)=true
   .have e:k=.free:=by rw[aAJ,aAJ]at a;simpa using a.1.1
    subst e;exact .inl aAN
   .rw[ib a,aBM]at h;rcases h with h|h
    .right;rw[aBM];exact h
    .have:k=.free:=Option.some.inj h;subst this;exact .inl aAN
  .have f:(r.map λ(n,k)=>if(k==NameKind.free&&env.scope.kind==.function&&env.kindOf n==some .cell)then(n,aCd)else(n,k)).lookup x=some .cell\/
     (r.map λ(n,k)=>if(k==NameKind.free&&env.scope.kind==.function&&env.kindOf n==some .cell)then(n,aCd)else(n,k)).lookup x=some .free:=by
    by_cases a:(k==NameKind.free&&env.scope.kind==.function&&env.kindOf n==some .cell)=true
    .rw[h9 a,aBi,beq_eq_false_iff_ne.mpr b]at h;exact h
    .rw[ib a,aBi,beq_eq_false_iff_ne.mpr b]at h;exact h
   rcases d f with h|h
   .exact .inl (aAe _ h)
   .right;rw[aBi,beq_eq_false_iff_ne.mpr b];exact h
theorem pZ:∀(names:List (Str×d9)) (h:cq) (B:List (Str×bb)) {x:Str} {c:bb},(dC h.objs.size names B).lookup x=some c->B.lookup x=some c\/((pushCells h names).IsCell c none/\h.objs.size<=c)
 |[],h,B,x,c,e=>.inl e
 |(n,k)::r,h,B,x,c,e=>by
  unfold dC at e;unfold pushCells;split at e
  .rename_i b;rw[h9 b];rcases pZ r (h.push {cls:=.type "cell",data:=.cell none}) ((n,h.objs.size)::B) (x:=x) (c:=c) (by rw[aBw];exact e)with a|⟨a,d⟩
   .rw[aBi]at a;cases f:(x==n)with
    |true=>rw[f]at a;have g:h.objs.size=c:=Option.some.inj a;subst g;exact .inr ⟨⟨_,aEI _ _ _ _ (aAp _ rfl),rfl⟩,aAh _⟩
    |false=>rw[f]at a;exact .inl a
   .exact .inr ⟨a,by rw[aBw]at d;exact aCE d⟩
  .rename_i b;rw[ib b];exact pZ r h B e
theorem jZ:∀(names:List (Str×d9)) (n:Nat) (B:List (Str×bb)) {x:Str} {c:bb},(dC n names B).lookup x=some c->B.lookup x=some c\/n<=c
 |[],n,B,x,c,e=>.inl e
 |(m,k)::r,n,B,x,c,e=>by
  unfold dC at e;split at e
  .rcases jZ r (n+1) _ e with a|a
   .rw[aBi]at a;cases b:(x==m)with
    |true=>rw[b]at a;exact .inr (aEn (Option.some.inj a))
    |false=>rw[b]at a;exact .inl a
   .exact .inr (aCE a)
  .exact jZ r n B e
theorem pM:∀(names:List (Str×d9)) (n:Nat) (B:List (Str×bb)) {x:Str} {c:bb},(x,aCd)∈names->(dC n names B).lookup x=some c->n<=c
 |[],n,B,x,c,a,e=>nomatch a
 |(m,k)::r,n,B,x,c,a,e=>by
  unfold dC at e;rcases aAd.mp a with a|a
  .cases a;rw[h9 (show(aCd==aCd)=true from rfl)]at e;rcases jZ r (n+1) _ e with b|b
   .rw[aBM]at b;exact aEn (Option.some.inj b)
   .exact aCE b
  .split at e
   .exact aCE (pM r (n+1) _ a e)
   .exact pM r n B a e
theorem nP:∀(names:List (Str×d9)) (n:Nat) (B:List (Str×bb)) {x:Str},(x,aCd)∉names->(dC n names B).lookup x=B.lookup x
 |[],n,B,x,_=>rfl
 |(m,k)::r,n,B,x,a=>by
  unfold dC;split
  .rename_i b;rw[nP r (n+1) _ λz=>a (aAe _ z),aBi];cases d:(x==m)with
   |true=>
    have e:x=m:=by simpa using d
    have f:k=.cell:=by simpa using b
    exact absurd (by rw[e,f];exact aAN) a
   |false=>rfl
  .exact nP r n B λz=>a (aAe _ z)
theorem jE:∀(names:List (Str×d9)) (n:Nat) (B:List (Str×bb)),(∀x c,B.lookup x=some c->c<n)->(∀x y c,B.lookup x=some c->B.lookup y=some c->x=y)->
  ∀x y c,(dC n names B).lookup x=some c->(dC n names B).lookup y=some c->x=y
 |[],n,B,_,h=>h
 |(m,k)::r,n,B,g,h=>by
  unfold dC;split
  .refine jE r (n+1) _ (λx c e=>?_) λx y c b a=>?_
   .rw[aBi]at e;cases d:(x==m)with
    |true=>rw[d]at e;rw[<-Option.some.inj e];exact aDi _
    |false=>rw[d]at e;exact aBg (g x c e)
   .rw[aBi]at b a;cases d:(x==m)with
    |true=>
     rw[d]at b;cases f:(y==m)with
     |true=>rw[show x=m by simpa using d,show y=m by simpa using f]
     |false=>rw[f]at a;rw[<-Option.some.inj b]at a;exact absurd (g y _ a) (aBf _)
    |false=>
     rw[d]at b;cases f:(y==m)with
     |true=>rw[f]at a;rw[<-Option.some.inj a]at b;exact absurd (g x _ b) (aBf _)
     |false=>rw[f]at a;exact h x y c b a
  .exact jE r n B g h
abbrev cA (X:Cx)(a:hH)(C:bb):List (Str×bb):=dC (C+1) a.names (KC X.env a.names [])
def IE {E:A4}{Q:Env->a9->Prop}(h:Q (newEnv a s.heap.objs.size g (dC (s.heap.objs.size+1) a.names i) q none .none (some env) builtinsNs) {s with heap:=pushCells (s.heap.push {cls:=.type "dict",data:=.dict #[]}) a.names}):
  ag M A (newFunctionEnv a g i [] q none .none (some env)) Q E s:=by
 simp only[newFunctionEnv,Option.isSome_some,if_true];refine aAa (wpAny_alloc ?_);refine aAa (wpAny_layCells _ (λf b d=>by cases e:b==aCd<;>simp[e]) _ _ _ _ ?_);rw[show({s with heap:=s.heap.push {cls:=.type "dict",data:=.dict #[]}}:a9).heap.objs.size=s.heap.objs.size+1 from aBw ..];exact aAa (aAb<|aAb h)
def JD {R:Result->a9->Prop}(I:Nat->a9->Prop)(turn:∀n s,I n s->ag (bc prog w) A (eR it) (λr j=>match r with
   |none=>R (.ok .next) j
   |some v=>ag (bc prog w) A (letOwnedTupleGo a it v) (λ_ f=>ag (bc prog w) A (gv a env v) (λ_ p=>
    ag (bc prog w) A (forIn g true λc r=>if r=true then do let ok<-isTrue c env (dm c env);pure (aCn ok)else pure (aCn r)) (λok k=>
     if ok=true then ag (bc prog w) A (dm i env) (λx q=>ag (bc prog w) A (call (.builtin "list.append") [B,x]) (λ_ t=>∃m,m<n/\I m t) (λ_ _=>False) q) (λ_ _=>False) k
     else∃m,m<n/\I m k) (λ_ _=>False) p) (λ_ _=>False) f) (λ_ _=>False) j) (λ_ _=>False) s) (n:Nat) (h:I n s):fh (bc prog w) A (.compLoop (.ListComp i [⟨a,y7,g,0⟩] e l) 0 it B env) R s:=by
 refine codeAny_loop rfl I (λn s y=>?_) n h;show ag _ A ((compTurn (.ListComp i [⟨a,y7,g,0⟩] e l) 0 it B env).onRaise (λx=>do noteFrame x env;theTreesLotGoes x)) _ _ s;refine wpAny_noted ?_;rw[compTurn_list];refine aAa (aEA<|aAa<|aCs (turn n s y) (λr j d=>?_) λ_ _ b=>b.elim);cases r with
 |none=>exact aAb d
 |some v=>
  refine aAa (aCs d (λ_ f o=>?_) λ_ _ b=>b.elim);refine aAa (aCs o (λ_ p z=>aAa (aCs z (λok k u=>?_) λ_ _ b=>b.elim)) λ_ _ b=>b.elim);cases ok with
  |false=>exact aAb ⟨rfl,u⟩
  |true=>exact aAa (aAa<|aCs u (λx q C=>aAa (aCs C (λ_ t E=>aAb (aAb ⟨rfl,E⟩)) λ_ _ b=>b.elim)) λ_ _ b=>b.elim)
def GO (X:Cx)(pins:N4)(s9:a9)(H9:Hp)(b:List Str)(a:hH)(d:List (Str×bb))(C:bb)(e:List bb):Cx where
 prog:=X.prog
 w:=X.w
 K:=X.K
 mg:=X.mg
 base:=X.base
 A:=X.A
 N:=b
 s9:=s9
 H9:=H9
 env:=compEnvC a d C X.env
 outer:=X.stack
 stack:=X.stack
 ex:=e
 fn:=λx=>a.names.lookup x==some .cell
 calm:=X.calm
 pn:=X.pn++pins
 xe:=λ_ _=>False
structure CompSc (X:Cx)(scope:Scope)(own fr:List Str)(js:List Nat):Prop where
 kind:scope.kind=.function
 apart:∀y∈scope.names,y.2=.free->(y.1,aCd)∉scope.names
 names:∀y∈scope.names,y.2=.local->scope.names.lookup y.1=some .local
 free:∀y∈scope.names,y.2=.free->X.env.kindOf y.1=some .cell\/X.env.kindOf y.1=some .free
 len:js.length=fr.length
 at_:∀(i j:Nat) (x:Str),js[i]?=some j->fr[i]?=some x->X.N[j]?=some x/\(x,NameKind.free)∈scope.names
 nd:js.Nodup
 dis:∀y∈scope.names,y.2=.free->scope.names.lookup y.1=some .free
def seen:Sl->Sl
 |.v d=>.v d
 |.d k=>.d k
 |_=>.no
def i7 (own:List Str)(a:List Nat)(ρ:Ev):Ev:=aCQ own.length Sl.no++a.map λj=>seen (ρ.getD j Sl.no)
def T4 (own:List Str)(a:List Nat)(σ:St):St:=aCQ own.length none++a.map λj=>σ.getD j none
def Inv.ab6 (I:L2.Inv X b σ H s)(S:CompSc X a own f g):∀y∈a.names,y.2=.free->∃c,X.env.cells.lookup y.1=some c:=
 λy d e=>I.ok.has y.1 (S.free y d e)
def W3 (h:(i7 own l ρ)[i]?=some sl):sl=.no\/∃j,((∃d,sl=.v d)\/∃k,sl=.d k)/\own.length<=i/\l[i-own.length]?=some j/\ρ[j]?=some sl:=by
 unfold i7 at h;by_cases f:i<own.length
 .rw[aAZ (by simpa using f),aBA,h9 f]at h;cases h;exact .inl rfl
 .have g:own.length<=i:=aEt f;rw[aAA (by simpa using g),aCp,aAI]at h;cases e:l[i-own.length]? with
  |none=>rw[e]at h;cases h
  |some j=>
   rw[e]at h;have a:seen (ρ.getD j Sl.no)=sl:=Option.some.inj h;rw[aAl]at a;cases b:ρ[j]? with
   |none=>rw[b]at a;subst a;exact .inl rfl
   |some z=>
    rw[b]at a;cases z with
    |v d=>subst a;exact .inr ⟨j,.inl ⟨d,rfl⟩,g,rfl,b⟩
    |d k=>subst a;exact .inr ⟨j,.inr ⟨k,rfl⟩,g,rfl,b⟩
    |_=>subst a;exact .inl rfl
def nJ {σ:St}(a:own.length<=i)(e:b[i-own.length]?=some j)(h:j<σ.length):(T4 own b σ)[i]?=σ[j]?:=by unfold T4;rw[aAA (by simpa using a),aCp,aAI,e];show some (σ.getD j none)=_;rw[aAl,aAg h];rfl
def JM {K:i6}{l H:Hp}{m O:bb->Prop}{σ:St}{ρ:Ev}{own:List Str}{f:List Nat}(s:f.Nodup)(E:EnvOk K l m H O σ ρ):EnvOk K l m H O (T4 own f σ) (i7 own f ρ):=by
 have lt:∀{j g},ρ[j]?=some g->j<σ.length:=λh=>by rw[E.len];exact(aAC.mp h).1
 refine⟨by simp[T4,i7],E.same,E.sub,E.trk,E.trk0,E.tab,λi g h=>?_,λi v x y a b d o n q p=>?_⟩
 .rcases W3 h with rfl|⟨j,_,k,e,b⟩
  .trivial
  .rw[nJ k e (lt b)];exact E.slot j g b
 .rcases W3 b with rfl|⟨j,_,t,e,b⟩
  .exact o.elim
  rcases W3 d with rfl|⟨u,_,k,r,d⟩
  .exact n.elim
  rw[nJ t e (lt b)]at q;rw[nJ k r (lt d)]at p;have:=E.inj j u x y a b d o n q p;subst this;have:=(List.getElem?_inj (aAC.mp e).1 s).mp (e.trans r.symm)
  lia
def IH (I:L2.Inv X pins σ H s)(S:CompSc X a own fr js)(Y:∀b∈fp,lV X pins H b)(ao:∀b∈fp,b<s.heap.objs.size)(e8:h₁=pushCells (s.heap.push {cls:=.type "dict",data:=.dict #[]}) a.names):
  L2.Inv (GO X pins s H (own++fr) a (cA X a s.heap.objs.size) s.heap.objs.size fp) [] (T4 own js σ) H {s with heap:=h₁,toks:=tk}:=by
 have w:=Inv.ab6 I S;have g:∀b o,s.heap.get? b=some o->h₁.get? b=some o:=λb o e=>by rw[e8];exact aEI _ _ _ _ (aAc _ e)
 have hns:h₁.Ns s.heap.objs.size (λ_=>none):=by rw[e8];exact(Heap.Ns.new s.heap<|.type "dict").keeps (aEI _ _)
 have cc:∀x c,(cA X a s.heap.objs.size).lookup x=some c->(KC X.env a.names []).lookup x=some c\/(h₁.IsCell c none/\s.heap.objs.size+1<=c):=λx c h=>by have:=pZ a.names (s.heap.push {cls:=.type "dict",data:=.dict #[]}) (KC X.env a.names []) (x:=x) (c:=c) (by rw[aBw];exact h);rw[aBw,<-e8]at this;exact this
 have J:∀x c,(KC X.env a.names []).lookup x=some c->X.env.cells.lookup x=some c:=λx c h=>yR a.names [] w (λ_ _ z=>(by cases z)) h;have l:∀b o,X.base.get? b=some o->b∉fp:=λb o e B=>by
  rcases(Y b B).2.2.2.1 with z|z
  .exact I.ok.noex b o e z
  .exact absurd (aAw (aAf e)<|aAs I.ok.bsz z) (aBf _)
 have nfs:∀b∈fp,b∉wZ X.stack:=λb B z=>by
  rcases aAd.mp (I.ab5 b z)with e|z
  .exact(Y b B).2.1 e
  .exact(Y b B).2.2.1 z
 have A:∀x c,X.env.cells.lookup x=some c->c<s.heap.objs.size+1:=λx c h=>by obtain⟨v,o,Q,_⟩:=I.cell x c h;exact aBg (aAf Q)
 have has:∀x,((relabel a X.env).names.lookup x=some .cell\/(relabel a X.env).names.lookup x=some .free)->∃c,(cA X a s.heap.objs.size).lookup x=some c:=λx N=>by
  have:((cA X a s.heap.objs.size).lookup x).isSome=true:=PySem.W.cellsFrom_some _ _ _ (by
   rcases iQ N with h|h
   .obtain⟨c,hc⟩:=uG (env:=X.env) a.names [] (x:=x) (.inl h);exact .inr (by rw[hc];rfl)
   .exact .inl h)
  exact aFp.mp this
 refine⟨⟨I.ok.mod,S.kind,I.ok.glob,I.ok.blt,aAh _,jE a.names _ _ (λx c h=>A x c (J x c h)) (λx y c h1 C=>I.ok.inj x y c (J x c h1) (J y c C)),has,λx c hf h=>aCE (pM a.names _ _ (PySem.mem_of_lookup<|eq_of_beq hf) h),I.ok.hd,I.ok.frames,.inl rfl,
  λb B=>⟨aAm (ao b B),λx c h=>(cc x c h).elim (λh=>(Y b B).2.2.2.2.1 x c (J x c h)) λ⟨_,C⟩ z=>absurd (aAw (ao b B)<|aCE C) (by rw[z];exact aBf _)⟩,I.bs,aAs I.ok.bsz I.sz,λb o e=>l b o e,nfs,I.stack,I.ad3⟩,rfl,I.bare,Un.kept g,⟨_,hns,λi x v e1 E L=>?_⟩,λx c h=>?_,I.hok.fresh (aAh _),λx c h=>(cc x c h).elim (λh=>I.freeC x c (J x c h)) λ⟨_,C⟩=>I.hok.fresh (aCE C),λp hp=>?_,I.hok.kept g,?_⟩
 .
  have hlen:(own++fr).length=(T4 own js σ).length:=by simp[T4,S.len]
  unfold T4 at E;by_cases hi:i<own.length
  .rw[aAZ (by simpa using hi),aBA,h9 hi]at E;cases E
  .have dh:own.length<=i:=aEt hi;rw[aAA (by simpa using dh),aCp,aAI]at E;have T:(own++fr)[i]?=some x:=e1;rw[aAA dh]at T;cases e:js[i-own.length]? with
   |none=>rw[e]at E;cases E
   |some j=>
    rw[e]at E;have q:σ.getD j none=some v:=Option.some.inj E;obtain⟨hN,ko⟩:=S.at_ (i-own.length) j x e T;have hσ:σ[j]?=some (some v):=by
     rw[aAl]at q;cases e4:σ[j]? with
     |none=>rw[e4]at q;cases q
     |some z=>rw[e4]at q;exact i5 some q
    have O:=S.free (x,.free) ko rfl;have U:BN X.env.scope x:=.inr O;obtain⟨m,hn,hl⟩:=I.loc;obtain⟨u,r,lk⟩:=hl j x v hN hσ U;refine⟨u,r,?_⟩;rcases lk with⟨km,_⟩|⟨_,c,hc,jg⟩
    .rcases O with O|O<;>(rw[km]at O;cases O)
    .right;obtain⟨c',yo⟩:=uG (env:=X.env) a.names [] (x:=x) (.inl ko);have:=J x c' yo;rw[hc]at this;cases this;refine⟨?_,c,(nP a.names _ _<|S.apart (x,.free) ko rfl).trans yo,?_⟩
     .rcases L with L|L|L
      .
       have hq:(relabel a X.env).names.lookup x=some .local:=L;exfalso;have:∀f:List (Str×d9),(f.map λ(n,k)=>if(k==NameKind.free&&X.env.scope.kind==.function&&X.env.kindOf n==some .cell)then(n,aCd)else(n,k)).lookup x=some .local->f.lookup x=some .local:=by
        intro f;induction f with
        |nil=>intro h;cases h
        |cons y r ih=>
         obtain⟨n,k⟩:=y;intro h;rw[aAr]at h;dsimp only at h;by_cases N:x=n
         .subst N;by_cases t:(k==NameKind.free&&X.env.scope.kind==.function&&X.env.kindOf x==some .cell)=true
          .rw[h9 t,aBM]at h;cases h
          .rw[ib t,aBM]at h;rw[aBM];exact h
         .rw[aBi,beq_eq_false_iff_ne.mpr N];by_cases t:(k==NameKind.free&&X.env.scope.kind==.function&&X.env.kindOf n==some .cell)=true
          .rw[h9 t,aBi,beq_eq_false_iff_ne.mpr N]at h;exact ih h
          .rw[ib t,aBi,beq_eq_false_iff_ne.mpr N]at h;exact ih h
       have C:=this a.names hq;rw[S.dis (x,.free) ko rfl]at C;cases C
      .exact .inl L
      .exact .inr L
     .obtain⟨o,Q,hd⟩:=jg;exact⟨o,g c o Q,hd⟩
 .rcases cc x c h with h|⟨h,_⟩
  .obtain⟨v,o,Q,hd⟩:=I.cell x c (J x c h);exact⟨v,o,g c o Q,hd⟩
  .exact⟨_,h⟩
 .have hp':p∈X.pn++pins:=by simpa[GO]using hp
  obtain⟨e,n,ne,nf,d⟩:=I.pin p hp';refine⟨g _ _ e,n,aAm (aAf e),λz=>?_,d⟩;rcases aAd.mp (I.ab5 p.1 z)with e'|z'
  .exact ne e'
  .exact nf z'
 .simp[T4,GO,S.len]
def u9 (G:D->Ev->R Ev)(ft:Ev->R Bool)(fe:Ev->R D)(ρ:Ev):List D->R (List D)
 |[]=>.ok []
 |d::e=>match G d ρ with
  |.ok a=>(ft a).bind λb=>if b=true then(fe a).bind λr=>(u9 G ft fe ρ e).bind λf=>.ok (r::f)else u9 G ft fe ρ e
  |_=>.bad
def nD (ρ1 ρ:Ev):Prop:=ρ1.length=ρ.length/\∀(i:Nat) (a:Sl),ρ[i]?=some a->a≠.no->ρ1[i]?=some a
def EnvOk.weak {K:i6}{b H:Hp}{d O:bb->Prop}{σ:St}{ρ1 ρ:Ev}(E:EnvOk K b d H O σ ρ1)(h:nD ρ1 ρ):EnvOk K b d H O σ ρ where
 len:=E.len.trans h.1
 same:=E.same
 sub:=E.sub
 trk:=E.trk
 trk0:=E.trk0
 tab:=E.tab
 slot:=λi f e=>by
  by_cases n:f=.no
  .subst n;trivial
  .exact E.slot i f (h.2 i _ e n)
 inj:=λi j x y a l m g k=>E.inj i j x y a (h.2 i _ l (by rintro rfl;exact g)) (h.2 j _ m (by rintro rfl;exact k)) g k
def S8 (H:Hp)(a:bb):Hp:=λb=>if b=a then none else H b
def CO (H:Hp)(a:bb):S8 H a a=none:=h9 rfl
def Q1 (h:b≠a):S8 H a b=H b:=ib h
def II (h:H a=some o):upd (S8 H a) a o=H:=by
 funext b
 unfold upd S8;by_cases d:b=a
 .subst d;rw[h9 rfl,h]
 .rw[ib d,ib d]
def EnvOk.ae2 {K:i6}{d H:Hp}{e O:bb->Prop}{σ:St}{ρ:Ev}{a:bb}{vs:List V}(E:EnvOk K d e H O σ ρ)(h:H a=none)(f:K.lookup a=none):EnvOk K d e (upd H a (.lst vs)) (λb=>O b\/b=a) σ ρ:=E.ab9 h f trivial
def Rep.hidden {K:i6}{H:Hp}{O:bb->Prop}{a:bb}{vs:List V}{v:V}{d:D}(h:H a=some (.lst vs))(r:Rep K H (λb=>O b\/b=a) v d):Rep K (S8 H a) O v d:=by
 refine r.mono (λb Y q=>?_) (λb Y n q=>⟨λz=>n (.inl z),?_⟩) λb φ n q=>⟨λz=>n (.inl z),by rw[Q1 λz=>n (.inr z)];exact q⟩
 .rcases q with(q|⟨o,q⟩)|q
  .exact .inl (.inl (by rw[Q1 (by rintro rfl;rw[h]at q;cases q)];exact q))
  .exact .inl (.inr ⟨o,by rw[Q1 (by rintro rfl;rw[h]at q;cases q)];exact q⟩)
  .exact .inr q
 .have e:b≠a:=λz=>n (.inr z);rcases q with(q|⟨o,q⟩)|q
  .exact .inl (.inl (by rw[Q1 e];exact q))
  .exact .inl (.inr ⟨o,by rw[Q1 e];exact q⟩)
  .exact .inr q
def V5 (h:H a=none)(s:Same (upd H a (.lst vs)) H'):Same H (S8 H' a):=λb o q=>by
 have d:b≠a:=by rintro rfl;rw[h]at q;cases q
 rw[Q1 d];exact s b o (by rw[k9 d];exact q)
def ItC (K:i6)(J:It)(H:Hp)(O:bb->Prop)(ds:List D):Prop:=∀b e,Same H b->Kp H O b e->aI K e->(∀a,O a->∃o,H a=some o/\Mt o)->(∀a,e a->∃o,b a=some o/\Mt o)->∀i:Nat,
 (∀d,ds[i]?=some d->J.go i b/\∀x f,J.yld i b x f->Same b f/\Rep K f e x d)/\(ds[i]?=none->J.stop i b)
def ZB.c {K:i6}(h:ZB K J H O ds):ItC K J H O ds:=λa b _=>h a b
def tIc (X:Cx)(f:Ev->R (List D)):TI:=λσ H R=>∃b d O ρ,EnvOk X.K b d H O σ ρ/\aI X.K O/\match f ρ with
 |.ok g=>∀J a,Same H a->ItC X.K J a O g->R J a
 |.ex e=>∀a,Same H a->XW X e a
 |.bad=>False
def PIC (X:Cx)(a y7:cu)(f:Ev->R (List D)):Prop:=PI X a y7 (tIc X f)
def pic (h:VO X a y7 f):PIC X a y7 f:=CS h λσ H R ⟨b,d,O,ρ,E,k,q⟩=>⟨b,d,O,ρ,E,k,by
 cases e:f ρ with
 |ok i=>rw[e]at q;exactλJ g s h=>q J g s h.c
 |ex x=>rw[e]at q;exact q
 |bad=>rw[e]at q;exact q⟩
section
def SH (X:Cx)(b:List cu)(ft:Ev->R Bool):Prop:=
 ∀(a:N4) (s:a9) (σ:St) (H:Hp) (Q:Bool->Hp->Prop),Inv X a σ H s->tDT X ft σ H Q->
  ag (bc X.prog X.w) X.A (forIn b true λc r=>if r=true then do let ok<-isTrue c X.env (dm c X.env);pure (aCn ok)else pure (aCn r)) (TP X a σ Q) X.xe s
def DV:SH X [] (λ_=>.ok true):=by rintro a s σ H Q I ⟨b,d,O,ρ,E,q⟩;exact wpAny_tests_nil ⟨H,I,q H (Same.refl _)⟩
def SG (h:FK X c ft):SH X [c] ft:=λa s σ H Q I q=>wpAny_tests_one (h a s σ H Q I q)
def wW {tg elt y7:cu}{ifs:List cu}{scope:hH}{own fr:List Str}{js:List Nat}{G:D->Ev->R Ev}{ft:Ev->R Bool}{fe:Ev->R D}{pins:N4}{σ:St}{H:Hp}{s:a9}{H9:Hp}{O0 O:bb->Prop}{ρ:Ev}
  {it:bb} {Q:List bb} {tn:Nat->cq->Prop} {J:It} {ds rs:List D} {RR:ae->bb->Result->a9->Prop} {EE:A4} (hc:X.calm=true) (S:CompSc X scope own fr js)
  (hX:∀t:Cx,(∃s9 Ha C,t=GO X pins s9 Ha (own++fr) scope (cA X scope C) C Q)->KE t tg G/\SH t ifs ft/\PD t elt fe)
  (hG:∀d ρ1,G d (i7 own js ρ)=.ok ρ1->nD ρ1 (i7 own js ρ))
  (I:Inv X pins σ H s) (T:Turn X.prog X.w X.K tg J Q it tn) (st:tn 0 s.heap) (vp:∀b∈Q,lV X pins H b) (E:EnvOk X.K H9 O0 H O σ ρ) (hJ:ItC X.K J H O ds) (hrs:u9 G ft fe (i7 own js ρ) ds=.ok rs) (hlen:ds.length<=sizeLine)
  (fin:∀B C s' H' m,s'.heap.Ns C m->C≠B->s.heap.objs.size<=C->s.heap.objs.size<=B->Same H H'->Rep X.K H' O (.ref B) (.lst rs)->(∃H1 vs,Same H H1/\H1 B=none/\H'=upd H1 B (.lst vs)/\Reps X.K H1 O vs rs)->H' C=none->(∀h',Heap.SameBut C s'.heap h'->Inv X pins σ H' {s' with heap:=h'})->RR (.ref B) C (.ok .next) s'):
  ag (bc X.prog X.w) X.A (newList []) (λB sa=>ag (bc X.prog X.w) X.A (newFunctionEnv scope X.env.globals (KC X.env scope.names []) [] X.env.qual none .none (some X.env)) (λcenv se=>fh (bc X.prog X.w) X.A (.compStart (.ListComp elt [⟨tg,y7,ifs,0⟩] scope pos) 0 (.ref it) B {cenv with scope:=relabel scope X.env}) (RR B cenv.locals) se) EE sa) EE s:=by
 have hO:=uF I O E.trk;refine aBt ?_;have hfr:H s.heap.objs.size=none:=I.hok.fresh (aAh _);have hkl:X.K.lookup s.heap.objs.size=none:=by
  cases e:X.K.lookup s.heap.objs.size with
  |none=>rfl
  |some o=>exact absurd (aAf<|I.kIn _ o e) (aBf _)
 have I1:Inv X pins σ (upd H s.heap.objs.size<|.lst []) {s with heap:=s.heap.push {cls:=.type "list",dict:=none,data:=.seq ([]:List ae).toArray}}:=
  I.laid (t':=s.toks) (λb u e=>aAc _ e) (aAh _) ⟨aAX _,[],0,.nil,aAp _ rfl⟩
 generalize fb:s.heap.objs.size=B at*
 generalize hs1:({s with heap:=s.heap.push {cls:=.type "list",dict:=none,data:=.seq ([]:List ae).toArray}}:a9)=Y at I1⊢;have sz1:Y.heap.objs.size=B+1:=by rw[<-hs1,<-fb];exact aBw _ _
 have keep1:∀b o,s.heap.get? b=some o->Y.heap.get? b=some o:=λb o e=>by rw[<-hs1];exact aAc _ e
 have xn:∀b∈Q,b<B:=λb g=>by obtain⟨o,e,_⟩:=T.obj 0 _ st b g;rw[<-fb];exact aAf e
 have hfp1:∀b∈Q,lV X pins (upd H B<|.lst []) b:=λb g=>by obtain⟨f0,f⟩:=vp b g;exact⟨by rw[k9 (aAm<|xn b g)];exact f0,f⟩
 refine IE ?_;obtain⟨L,e8⟩:∃L,pushCells (Y.heap.push {cls:=.type "dict",data:=.dict #[]}) scope.names=L:=⟨_,rfl⟩;rw[e8];have keep2:∀b o,Y.heap.get? b=some o->L.get? b=some o:=λb o e=>by rw[<-e8];exact aEI _ _ _ _ (aAc _ e)
 have IB:=IH (tk:=Y.toks) I1 S hfp1 (λb g=>by rw[sz1];exact aBg (xn b g)) e8.symm;generalize hC:Y.heap.objs.size=C at*
 obtain⟨hG',hT',hE'⟩:=hX _ ⟨Y,upd H B (.lst []),C,rfl⟩;generalize td:GO X pins Y (upd H B<|.lst []) (own++fr) scope (cA X scope C) C Q=t at IB hG' hT' hE';have eP:t.prog=X.prog:=by rw[<-td];rfl
 have eW:t.w=X.w:=by rw[<-td];rfl
 have eK:t.K=X.K:=by rw[<-td];rfl
 have eA:t.A=X.A:=by rw[<-td];rfl
 have eC:t.calm=true:=by rw[<-td];exact hc
 have eX:t.xe=λ_ _=>False:=by rw[<-td];rfl
 have eE:t.env=compEnvC scope (cA X scope C) C X.env:=by rw[<-td];rfl
 have eX0:t.ex=Q:=by rw[<-td];rfl
 have ePn:t.pn=X.pn++pins:=by rw[<-td];rfl
 have eFs:t.fs=wZ X.stack:=by rw[<-td];rfl
 have eS0:t.s9=Y:=by rw[<-td];rfl
 have eH0:t.H9=upd H B (.lst []):=by rw[<-td];rfl
 have eL:t.env.locals=C:=by rw[eE];rfl
 have eCe:t.env.cells=cA X scope C:=by rw[eE];rfl
 have I2of:=IB;have cell_ne:∀b∈Q,∀x c,t.env.cells.lookup x=some c->c≠b:=λb g x c h=>(I2of.ok.exf b (by rw[eX0];exact g)).2 x c h;have accC:B≠C:=by rw[sz1];exact aAm (aDi _)
 have fpC:∀b∈Q,b≠C:=λb g=>by have h1:=xn b g;rw[sz1];exact aAm (aBg h1)
 have fpB:∀{H':Hp},(∀b∈Q,H' b=none)->∀b∈Q,lV t [] H' b:=λ{H'} hn b g=>by
  obtain⟨f0,f1,f2,f3,f4,f5⟩:=vp b g;refine⟨hn b g,by rw[eL];exact fpC b g,?_,.inl (by rw[eX0];exact g),λx c h=>cell_ne b g x c h,λp hp=>f5 p (by rw[ePn,aCo]at hp;exact hp)⟩;rw[eFs];intro z;rcases aAd.mp (I.ab5 b z)with e|z
  .exact f1 e
  .exact f2 z
 have XC:tn 0 L:=T.keep 0 s.heap L st λb g o e=>keep2 b o (keep1 b o e)
 let Iv:Nat->a9->Prop:=λn s'=>∃i ai N vs rd,n=ds.length-i/\i<=ds.length/\Inv t [] ai (upd N B<|.lst vs) s'/\N B=none/\tn i s'.heap/\(∀b∈Q,N b=none)/\EnvOk X.K H9 O0 N O ai (i7 own js ρ)/\Same H N/\
  Reps X.K N O vs rd/\(∃rest,u9 G ft fe (i7 own js ρ) (ds.drop i)=.ok rest/\rs=rd++rest)/\vs.length<=i
 have loop:fh (bc X.prog X.w) X.A (.compLoop (.ListComp elt [⟨tg,y7,ifs,0⟩] scope pos) 0 (.ref it) (.ref B) (compEnvC scope (cA X scope C) C X.env)) (RR (.ref B) C) {Y with heap:=L}:=by
  refine JD Iv ?_ ds.length ⟨0,_,H,[],[],by simp,aAX _,IB,hfr,XC,λb g=>(vp b g).1,JM S.nd E,Same.refl H,.nil,⟨rs,by rw[aGi];exact hrs,rfl⟩,aAX _⟩;rintro n s2 ⟨i,xh,N,vs,rd,rfl,hi,I2,yr,ku,fx2,E2,yu,r2,⟨rest,l,xo⟩,hvl⟩;have fr2:∀b∈Q,(upd N B<|.lst vs) b=none:=λb g=>by rw[k9 (aAm<|xn b g)];exact fx2 b g
  have sU:=j8 yr (.lst vs);have hit:=hJ (upd N B<|.lst vs) (λb=>O b\/b=B) (yu.trans sU) (λb o q n=>⟨sU b o (yu b o q),λz=>z.elim n λz=>by subst z;rw[hfr]at q;cases q⟩) (λa o q z=>z.elim (hO a o q) λz=>by subst z;rw[hkl]at q;cases q) E.trk
   (λa z=>(E2.ae2 (vs:=vs) yr hkl).trk a z) i
  by_cases ao:i<ds.length
  .obtain⟨go,yl⟩:=hit.1 ds[i] (aAg ao);rw[aDL ao,u9]at l;have qi:=T.item t eP eW eK eC i [] s2 xh _ (λ_ _=>False) I2 (fpB fr2) ku go;rw[eA]at qi;refine F7 qi λr s3 z9=>?_;obtain⟨u,hr,h3⟩:=z9;subst hr;refine F7 h3 λ_ s4 z9=>?_;obtain⟨x,H4,I4,ru,y4,st4,fr4⟩:=z9;obtain⟨sm4,rep4⟩:=yl x H4 y4;cases e1:G ds[i] (i7 own js ρ)with
   |ex z=>rw[e1]at l;cases l
   |bad=>rw[e1]at l;cases l
   |ok ρ1=>
    rw[e1]at l;dsimp only at l;have EB:EnvOk X.K H9 O0 H4 (λb=>O b\/b=B) xh (i7 own js ρ):=(E2.ae2 yr hkl).grow sm4;have I4':=I4.pinned (fpB fr4) (T.obj _ _ st4);have again:∀{s7:a9} {qt:St} {y:Hp} {vs7:List V} {rd7:List D} {rest7:List D},Inv t ([]++qD Q s4.heap) qt y s7->y B=some (.lst vs7)->EnvOk X.K H9 O0 (S8 y B) O qt (i7 own js ρ)->Same H (S8 y B)->Reps X.K (S8 y B) O vs7 rd7->
      u9 G ft fe (i7 own js ρ) (ds.drop<|i+1)=.ok rest7->rs=rd7++rest7->vs7.length<=i+1->∃m,m<ds.length-i/\Iv m s7:=λ{s7 qt y vs7 rd7 rest7} I7 h7 E7 sm7 r7 hr7 hrs7 hv7=>by
     refine⟨ds.length-(i+1),by omega,i+1,qt,S8 y B,vs7,rd7,rfl,ao,?_,CO _ _,T.keep _ _ _ st4 λb g o e=>(I7.pin (b,o)<|aAG _<|aAG _<|bS g e).1,λb g=>?_,E7,sm7,r7,⟨rest7,hr7,hrs7⟩,hv7⟩
     .rw[II h7];exact I7.ab4
     .rw[Q1 (aAm<|xn b g)];obtain⟨o,e,d⟩:=T.obj _ _ st4 b g;exact(I7.pin (b,o)<|aAG _<|aAG _<|bS g e).2.1
    have hasg:=hG' _ s4 xh H4 x u (λU H5=>Same H4 H5/\EnvOk X.K H9 O0 H5 (λb=>O b\/b=B) U ρ1) I4' ru ⟨H9,O0,_,_,ds[i],ρ1,by rw[eK];exact EB,by rw[eK];exact rep4,e1,λU H5 s5 E5=>⟨s5,by rw[eK]at E5;exact E5⟩⟩;rw[eP,eW,eA,eE,eX]at hasg;refine F7 hasg λ_ s5 z9=>?_;obtain⟨U,H5,I5,sm5,E5⟩:=z9;have hacc5:H5 B=some (.lst vs):=sm5 B _ (sm4 B _ j3);cases e2:ft ρ1 with
    |ex z=>rw[e2]at l;cases l
    |bad=>rw[e2]at l;cases l
    |ok b=>
     rw[e2,R.aa0]at l;have htst:=hT' _ s5 U H5 (λc H6=>c=b/\Same H5 H6) I5 ⟨H9,O0,_,ρ1,by rw[eK];exact E5,by rw[e2];exactλH6 s6=>⟨rfl,s6⟩⟩;rw[eP,eW,eA,eE,eX]at htst;refine F7 htst λok s6 z9=>?_;obtain⟨H6,I6,g,sm6⟩:=z9;subst g;have sm46:Same (upd N B<|.lst vs) H6:=sm4.trans (sm5.trans sm6);have hacc6:H6 B=some (.lst vs):=sm6 B _ hacc5;have smx6:Same N (S8 H6 B):=V5 yr sm46;have W1:nD ρ1 (i7 own js ρ):=hG _ _ e1;have Eb:∀{y:Hp},Same H5 y->EnvOk X.K H9 O0 (S8 y B) O U (i7 own js ρ):=λ{y} s7=>by
      have E7:=(E5.grow s7).weak W1;have h7:y B=some (.lst vs):=s7 B _ hacc5;refine⟨E7.len,E2.same.trans (V5 yr<|sm4.trans<|sm5.trans s7),E2.sub,λa z=>?_,E2.trk0,E2.tab.same (V5 yr<|sm4.trans<|sm5.trans s7),λj sl e=>?_,E7.inj⟩
      .obtain⟨o,q,mt⟩:=E2.trk a z;exact⟨o,V5 yr (sm4.trans<|sm5.trans s7) a o q,mt⟩
      .rcases W3 e with rfl|⟨_,⟨d,rfl⟩|⟨k,rfl⟩,_⟩
       .trivial
       .obtain⟨v,h1,h2⟩:=E7.val j d e;exact⟨v,h1,Rep.hidden h7 h2⟩
       .obtain⟨b,o,es,h1,g,h3,h4,h5,h6,h8⟩:=E7.slot j _ e;have nb:b≠B:=by rintro rfl;rw[h7]at h4;cases h4
        exact⟨b,o,es,h1,g.resolve_right nb,h3,by rw[Q1 nb];exact h4,h5,h6.mono (Rep.hidden h7),h8⟩
     cases ok with
     |false=>rw[ib aBb]at l⊢;exact again I6 hacc6 (Eb sm6) (yu.trans smx6) (r2.same smx6) l xo (Nat.le_succ_of_le hvl)
     |true=>
      rw[h9 rfl]at l⊢;cases e3:fe ρ1 with
      |ex z=>rw[e3]at l;cases l
      |bad=>rw[e3]at l;cases l
      |ok dv=>
       rw[e3,R.aa0]at l;cases e4:u9 G ft fe (i7 own js ρ) (ds.drop<|i+1)with
       |ex z=>rw[e4]at l;cases l
       |bad=>rw[e4]at l;cases l
       |ok rest'=>
        rw[e4,R.aa0]at l;have ud:dv::rest'=rest:=R.ok.inj l;have helt:=hE' _ s6 U H6 (λv y=>Same H6 y/\Rep X.K y (λb=>O b\/b=B) v dv) I6 ⟨H9,O0,_,ρ1,by rw[eK];exact E5.grow sm6,by rw[e3,RC];exactλv y s7 r7=>⟨s7,by rw[eK]at r7;exact r7⟩⟩;rw[eP,eW,eA,eE,eX]at helt;refine F7 helt λuv s7 z9=>?_;obtain⟨v,y,I7,ruv,sm7,r7⟩:=z9;have hacc7:y B=some (.lst vs):=sm7 B _ hacc6;have happ:=rY (X:=t) _ s7 U y (.ref B) [v] (.ref B) [uv] (λ_ H8=>H8=upd y B (.lst (vs++[v]))) I7 rfl (.cons ruv .nil) ⟨B,vs,v,rfl,rfl,hacc7,by omega,rfl⟩;rw[eP,eW,eA,eX]at happ;refine F7 happ λ_ s8 z9=>?_;obtain⟨_,H8,I8,_,h8⟩:=z9;subst h8;have hh:S8 (upd y B<|.lst (vs++[v])) B=S8 y B:=by
         funext b
         unfold S8 upd;by_cases g:b=B
         .rw[h9 g,h9 g]
         .rw[ib g,ib g,ib g]
        have smx7:Same N (S8 y B):=V5 yr (sm46.trans sm7);refine again (vs7:=vs++[v]) (rd7:=rd++[dv]) (rest7:=rest') I8 j3 (by rw[hh];exact Eb (sm6.trans sm7)) (by rw[hh];exact yu.trans smx7) ?_ e4 (by rw[xo,<-ud,aFs];rfl) (by rw[aAB];exact Nat.succ_le_succ hvl);rw[hh];exact(r2.same smx7).snoc (Rep.hidden hacc7 r7)
  .have dh:i=ds.length:=by omega
   subst dh;have hstop:=hit.2 (by simp);have qi:=T.done t eP eW eK eC ds.length [] s2 xh _ (λ_ _=>False) I2 (fpB fr2) ku hstop;rw[eA]at qi;refine F7 qi λr s3 z9=>?_;obtain⟨hr,I3⟩:=z9;subst hr;rw[List.drop_length,u9]at l;have ud:([]:List D)=rest:=R.ok.inj l;rw[<-ud,aCo]at xo;obtain⟨m,hm,_⟩:=id I3.loc;rw[eL]at hm;have hfin:Same H (upd N B<|.lst vs):=yu.trans sU;refine fin B C s3 (upd N B<|.lst vs) m hm (aBW accC) (by omega) (aAh _) hfin ?_ ⟨N,vs,yu,yr,rfl,by rw[xo];exact r2⟩ (by rw[<-eL];exact I3.free) (λh' jf=>?_)
   .rw[xo];exact .lst (N2.of j3) (E2.fresh yr) (r2.same sU)
   .have hU:Un (wZ X.stack) Q (upd H B<|.lst []) (upd N B<|.lst vs) Y.heap s3.heap:=by have:=I3.base;rw[eFs,eX0,eH0,eS0]at this;exact this
    have hCn:∀b o,Y.heap.get? b=some o->b≠C:=λb o e=>by have:=aAf e;rw[hC]at this;exact aAm this
    have hU':Un (wZ X.stack) Q (upd H B<|.lst []) (upd N B<|.lst vs) Y.heap h':=⟨λb o e n g hx=>(jf.2 b (hCn b o e)).trans (hU.keep b o e n g hx),λb o e n g hx=>by
      obtain⟨sl,q⟩:=hU.slot b o e n g hx;exact⟨sl,(jf.2 b (hCn b o e)).trans q⟩,hU.free,λb o e hx=>by
      obtain⟨o',q⟩:=hU.there b o e hx;exact⟨o',(jf.2 b (hCn b o e)).trans q⟩,hU.tups,hU.frzs,hU.tbls⟩
    have hCf:upd N B (.lst vs) C=none:=by rw[<-eL];exact I3.free
    have hok':fD X.prog X.w (upd N B<|.lst vs) h':=λb u e=>by
     have g:b≠C:=by rintro rfl;rw[hCf]at e;cases e
     have:=I3.hok b u e;rw[eP,eW]at this;refine this.ab8 (λc v hc q=>(jf.2 c ?_).trans q) (λ_ q=>q) λ_ _ _ q=>q;rcases hc with z|z
     .rw[z];exact g
     .rintro rfl;rw[hCf]at z;cases z
    have hos:s3.os=Y.os:=by have:=I3.os;rw[eS0]at this;exact this
    exact I1.af9 (s':={s3 with heap:=h'}) (ch:=Q) hos hU' hok' I3.bare λb g=>by obtain⟨f0,f1,f2,f3,f4,f5⟩:=vp b g;exact⟨f3,f1,f4,f5⟩
 exact codeAny_compStart_list loop (T.self _ 0 _ _ _ XC loop)
def QW (own L:List Str)(g:List Nat)(hc:X.calm=true)(S:CompSc X b own L g)(hi:PIC X N y7 U)(hX:∀(a:N4) (k:List bb) (i:Cx),(∃s9 Ha C,i=GO X a s9 Ha (own++L) b (cA X b C) C k)->KE i N G/\SH i l ft/\PD i n fe)(hG:∀ρ d ρ1,G d (i7 own g ρ)=.ok ρ1->nD ρ1 (i7 own g ρ))(hs:∀x,et y7 X.env x=pure x:=by intro _;rfl):
  PD X (.ListComp n [⟨N,y7,l,0⟩] b pos) (λρ=>(U ρ).bind λds=>if ds.length<=sizeLine then(u9 G ft fe (i7 own g ρ) ds).bind λf=>.ok (.lst f)else .bad):=by
 refine wN λa s σ H Q I H9 O0 O ρ E q=>?_;dsimp only at q;rw[eval_ListComp];refine wpAny_comprehension_free (use:=none) rfl hs (fM<|Inv.ab6 I S) S.kind S.names ?_;refine F7 (hi a s σ H (λJ o=>∃ds f,Same H o/\ItC X.K J o O ds/\ds.length<=sizeLine/\u9 G ft fe (i7 own g ρ) ds=.ok f/\∀v h,Same H h->Rep X.K h O v (.lst f)->Q v h) I ⟨H9,O0,O,ρ,E,uF I O E.trk,?_⟩) λv Y h1=>F7 h1 λitv s2 h2=>?_
 .cases p:U ρ with
  |ex x=>rw[p]at q;exact q
  |bad=>rw[p]at q;exact q
  |ok ds=>
   rw[p,R.aa0]at q;intro J o Y t;split at q
   .rename_i u;cases j:u9 G ft fe (i7 own g ρ) ds with
    |ex x=>rw[j]at q;exact(q H<|Same.refl _).elim
    |bad=>rw[j]at q;exact q.elim
    |ok f=>rw[j]at q;exact⟨ds,f,Y,t,u,j,q⟩
   .exact q.elim
 .obtain⟨it,k,tn,J,H2,e,I2,T,ku,f2,ds,f,sm,t,u,y,q⟩:=h2;subst e;refine wW (RR:=λB C=>compPost (bc X.prog X.w) X.A X.xe none (EP X a σ Q) B C) hc S (hX a k) (hG ρ) I2 T ku f2 (E.grow sm) t y u ?_;intro B C s' h m hn _ _ _ z r _ _ hI;exact⟨m,hn,λh' jf=>⟨.ref B,h,hI h' jf,rfl,q _ h (sm.trans z) r⟩⟩
def P1 (own g:List Str)(b:List Nat)(k:X.calm=true)(S:CompSc X a own g b)(l:VO X j y7 m)(n:∀(e:N4) (o:List bb) (f:Cx),(∃p q C,f=GO X e p q (own++g) a (cA X a C) C o)->KE f j G/\SH f h ft/\PD f i fe)(r:∀ρ d ρ1,G d (i7 own b ρ)=.ok ρ1->nD ρ1 (i7 own b ρ))(s:∀x,et y7 X.env x=pure x:=by intro _;rfl):
 PD X (.ListComp i [⟨j,y7,h,0⟩] a t) (λρ=>(m ρ).bind λds=>if ds.length<=sizeLine then(u9 G ft fe (i7 own b ρ) ds).bind λu=>.ok (.lst u)else .bad):=QW own g b k S (pic l) n r s
end
def _root_.L2.ObjOk.live (x:ObjOk P w H h a o):h.get? a≠none:=by
 intro z;have b:∀{u:Obj},h.get? a=some u->False:=λq=>by rw[z]at q;cases q
 cases o with
 |lst Y=>obtain⟨_,_,_,_,e⟩:=x;exact b e
 |tup Y=>obtain⟨_,_,_,o,e,_⟩:=x;exact b e
 |dK N=>obtain⟨_,_,_,_,o,_,_,e,_⟩:=x;exact b e
 |dT N=>obtain⟨_,_,_,_,o,_,_,e,_⟩:=x;exact b e
 |set S n=>obtain⟨o,_,_,_,e,_⟩:=x;exact b e
 |ins C d fs=>obtain⟨_,_,_,e,_⟩:=x;exact b e
 |own y=>obtain⟨_,e⟩:=x;exact b e
 |xd fs=>obtain⟨_,⟨_,_,_,e,_⟩,_⟩:=x;exact b e
 |rng lo g=>obtain⟨_,_,_,e⟩:=x;exact b e
 |frz i u=>obtain⟨e,_⟩:=x;exact b e
 |tbl j=>obtain⟨_,e,_⟩:=x;exact b e
 |met f y=>exact b (show h.get? a=some _ from x)
 |ext φ=>obtain⟨_,⟨_,e⟩,_⟩:=x;exact b e
section
end
section
variable{P:be} {w:cp} {K:i6} {mg:cH} {base:cq}
end
section
variable{X:Cx} {E:XK} {st:df} {rest:List df} {F:Ev->R Out} {G Ga Gb:Ev->Option ae} {pos:Pos}
end
section
variable{K:i6} {h:cq} {C:bb} {bmB:List ae} {newId:String}
end
section
variable{X:Cx} {E:XK} {pos av np:Pos} {x:Str} {C:bb} {bmB:List ae} {B newId initId:String}
end
end
end DL
namespace TS
open PySem PyProof.Rows HT
def rS (f:Bool)(x y:ae):keyLt' (tupK f) x y=(do
 let Y<-aCJ x;let a<-aCJ y
 for ((p,q),i)in(Y.toList.zip a.toList).zipIdx do
  if !(<-eqBool p q)then return<-oneLt' (f&&i==0) p q
 return decide (Y.size<a.size)):=rfl
def PZ:ae->Sem (Option ae):=sortPriv%PySem.Builtin.firstOfTuple?
def OM:Array ae->Sem (Option ae):=sortPriv%PySem.Builtin.oneTypeOnly
def HB (v:ae):PZ v=(do
 if(<-typeOf v) !=.type "tuple"then return none
 return (<-aCJ v)[0]?):=rfl
def LD (vs:Array ae):OM vs=(do
 let a<-vs.mapM typeOf
 match a[0]? with
 |some t=>return if a.all (· ==t)then some t else none
 |none=>return none):=rfl
def CQ (a:Array ae):keyKind' a=(do
 let firsts<-a.mapM PZ
 if firsts.all (·.isSome)then
  rule "list.sort.keys-are-tuples"
  return tupK ((<-OM (firsts.filterMap id)).any (· !=.type "tuple"))
 if(firsts[0]?.bind id).isSome then return general'
 return if(<-OM a).isSome then oneType' else general'):=rfl
section
def OC {Q:wO}(f:Bool)(h:Q (decide (a<b)) s):ag (bc prog w) A (oneLt' f (.int a t) (.int b u)) Q E s:=by
 cases f with
 |true=>exact oneLt_int h
 |false=>rw[oneLt'_eq];simp only[aAq,if_false];exact aAa (wY A s a t b u prog w _ _<|aBO h)
def lt_ints (f:Bool){Q:wO}(hl:IsTup s.heap l items)(hb:IsTup s.heap b p)(Y:IntsAre items.toList ns)(hj:IntsAre p.toList L)(h:Q (HT.lexLt ns L) s):ag (bc prog w) A (keyLt' (tupK f) (.ref l) (.ref b)) Q E s:=by
 obtain⟨o,ho,hc,n,hd⟩:=hl;obtain⟨o2,jv,jo,n2,N⟩:=hb;have z1:items.size=ns.length:=by rw[<-Y.length];simp
 have z2:p.size=L.length:=by rw[<-hj.length];simp
 rw[rS];refine aAa (aEm ho hd<|aAa<|aEm jv N ?_);refine aAa (aCh _ (λrest b m=>b.1=none/\m=s/\∃(k:Nat) (H I:List ae) (r v:List Int),rest=(H.zip I).zipIdx k/\IntsAre H r/\IntsAre I v/\r.length+p.size=v.length+items.size/\Q (HT.lexLt r v) s)
  (λb m=>m=s/\(∀c,b.1=some c->Q c s)/\(b.1=none->Q (decide (items.size<p.size)) s)) ?turn ?fin _ _ ⟨rfl,rfl,0,items.toList,p.toList,ns,L,rfl,Y,hj,by lia,h⟩|>λz=>aCs z ?post λ_ _ e=>e)
 case post=>
  rintro⟨b1,b2⟩ m ⟨rfl,q1,q2⟩;cases b1 with
  |none=>exact aAb (q2 rfl)
  |some c=>exact aAb (q1 c rfl)
 case fin=>
  rintro⟨b1,b2⟩ m ⟨jb,rfl,k,H,I,r,v,j,O,J,d,g⟩;refine⟨rfl,λc e=>(by rw[jb]at e;cases e),λ_=>?_⟩;cases O with
  |nil=>
   cases J with
   |nil=>rw[lexLt_nil_nil]at g;simp only[aBo]at d;rw[decide_eq_false (by lia)];exact g
   |cons c u hw=>rw[E9]at g;simp only[aBo,aAt]at d;rw[decide_eq_true (by lia)];exact g
  |cons a t hv=>
   cases J with
   |nil=>rw[z8]at g;simp only[aBo,aAt]at d;rw[decide_eq_false (by lia)];exact g
   |cons c u hw=>rw[aBK,aEu]at j;cases j
 case turn=>
  rintro⟨⟨y,x⟩,i⟩ rest b m ⟨jb,rfl,k,H,I,r,v,j,O,J,d,g⟩;cases O with
  |nil=>rw[aFr,aEJ]at j;cases j
  |cons a t B=>
   cases J with
   |nil=>rw[aFc,aEJ]at j;cases j
   |cons c u C=>
    rw[aBK,aEu]at j;injection j with T ah;injection T with T U;injection T with hy hx;subst hy hx U;rw[lexLt_cons]at g;simp only[aAt]at d;obtain⟨e,he,qh⟩:=oI A m a t c u;refine aAa (he prog w _ _ ?_);cases e with
    |true=>rw[h9 (qh.mp rfl)]at g;exact aAb ⟨rfl,rfl,_,_,_,_,_,ah,B,C,by lia,g⟩
    |false=>rw[ib (λq=>absurd (qh.mpr q) aBb)]at g;exact aAa (OC _ (aAb ⟨rfl,λc e=>(by cases e;exact g),λe=>(by cases e)⟩))
end
section
theorem GI {α β:Type}{M:Model}{f:α->Sem β}(g:α->β):∀(Y:List α) {Q:List β->a9->Prop},(∀x∈Y,∀{Q:β->a9->Prop},Q (g x) s->ag M A (f x) Q E s)->Q (Y.map g) s->ag M A (Y.mapM f) Q E s
 |[],Q,_,q=>by rw[List.mapM_nil];exact aAb q
 |x::Y,Q,h,q=>by rw[List.mapM_cons];exact aAa (h x (.head _) (aAa (GI g Y (λy a=>h y (.tail _ a)) (aAb q))))
def EW {α β:Type}{M:Model}{f:α->Sem β}(g:α->β)(Y:List α){Q:Array β->a9->Prop}(h:∀x∈Y,∀{Q:β->a9->Prop},Q (g x) s->ag M A (f x) Q E s)(q:Q (Y.map g).toArray s):ag M A (Y.toArray.mapM f) Q E s:=by rw[List.mapM_toArray];show ag M A (List.toArray<$>Y.mapM f) Q E s;rw[map_eq_pure_bind];exact aAa (GI g Y h<|aAb q)
def kind_tuples {vs:List ae}{f:Bool}{T:String}{Q:SortKind->a9->Prop}(b:ae->ae)(h:∀x∈vs,∃a items,x=.ref a/\IsTup s.heap a items/\items[0]?=some (b x)/\s.TypeIs (b x) T)(i:vs≠[])(j:f=(aCt T !=aCt "tuple"))
  (q:Q (tupK f) s):ag (bc prog w) A (keyKind' vs.toArray) Q E s:=by
 rw[CQ];refine aAa (EW (λx=>some (b x)) vs (λx d {Q} e=>?_) ?_)
 .obtain⟨a,items,rfl,⟨o,g,k,n,l⟩,m,_⟩:=h x d;rw[HB];refine aAa (aDV (T:= "tuple") ⟨o,g,k⟩ ?_);rw[ib (by simp)];refine aAa (aEm g l ?_);rw[m];exact aAb e
 .have p:((vs.map λx=>some (b x)).toArray.all λx=>x.isSome)=true:=by simp
  have r:(vs.map λx=>some (b x)).toArray.filterMap id=(vs.map b).toArray:=by
   rw[List.filterMap_toArray,aDq];congr 1;induction vs with
   |nil=>rfl
   |cons v vs B=>simp
  simp only[p,if_true,r];refine aAa (aDD ?_);refine aAa ?_;rw[LD];refine aAa (EW (λ_=>aCt T) (vs.map b) (λx d {Q} e=>?_) ?_)
  .obtain⟨y,t,rfl⟩:=aAi.mp d;obtain⟨_,_,_,_,_,u⟩:=h y t;exact aDV u e
  .cases vs with
   |nil=>exact absurd rfl i
   |cons v vs=>
    simp only[aAr,aBL];have z:((aCt T::aDt ((λ_=>aCt T)∘b) vs).toArray.all λx=>x==aCt T)=true:=by simp
    simp only[aBY,aCx,z,if_true];refine aAb (aAb ?_);rw[j]at q;exact q
end
theorem lex_irrefl:∀a:List Int,HT.lexLt a a=false
 |[]=>rfl
 |x::Y=>by rw[lexLt_cons,h9 rfl];exact lex_irrefl Y
theorem lex_total:∀a b:List Int,HT.lexLt a b=false->HT.lexLt b a=false->a=b
 |[],[],_,_=>rfl
 |[],_::_,h,_=>by rw[E9]at h;cases h
 |_::_,[],_,h=>by rw[E9]at h;cases h
 |x::Y,y::g,d,f=>by
  rw[lexLt_cons]at d f;by_cases e:x=y
  .subst e;rw[h9 rfl]at d f;rw[lex_total Y g d f]
  .rw[ib e]at d;rw[ib (aBW e)]at f;have:=of_decide_eq_false d;have:=of_decide_eq_false f;omega
theorem lex_trans:∀a b c:List Int,HT.lexLt a b=true->HT.lexLt b c=true->HT.lexLt a c=true
 |[],[],_,h,_=>by rw[lexLt_nil_nil]at h;cases h
 |[],_::_,[],_,h=>by rw[z8]at h;cases h
 |[],_::_,_::_,_,_=>rfl
 |_::_,[],_,h,_=>by rw[z8]at h;cases h
 |_::_,_::_,[],_,h=>by rw[z8]at h;cases h
 |x::Y,y::i,z::j,f,d=>by
  rw[lexLt_cons]at f d⊢;by_cases e:x=y
  .subst e;rw[h9 rfl]at f;by_cases g:x=z
   .subst g;rw[h9 rfl]at d⊢;exact lex_trans Y i j f d
   .rw[ib g]at d⊢;exact d
  .rw[ib e]at f;have k:=of_decide_eq_true f;by_cases g:y=z
   .subst g;rw[ib e];exact f
   .rw[ib g]at d;have l:=of_decide_eq_true d;rw[ib (by omega)];exact decide_eq_true (by omega)
theorem FS:∀a b c:List Int,HT.lexLt a c=true->HT.lexLt a b=true\/HT.lexLt b c=true
 |[],[],_,h=>.inr h
 |[],_::_,_,_=>.inl rfl
 |_::_,_,[],h=>by rw[z8]at h;cases h
 |_::_,[],_::_,_=>.inr rfl
 |x::Y,y::f,z::g,h=>by
  rw[lexLt_cons]at h;rw[lexLt_cons,lexLt_cons];by_cases e:x=y
  .subst e;rw[h9 rfl];by_cases d:x=z
   .subst d;rw[h9 rfl]at h⊢;exact FS Y f g h
   .rw[ib d]at h⊢;exact .inr h
  .rw[ib e];by_cases l:x<y
   .exact .inl (decide_eq_true l)
   .refine .inr ?_;by_cases d:x=z
    .subst d;rw[ib (aBW e)];exact decide_eq_true (by omega)
    .rw[ib d]at h;have:=of_decide_eq_true h;rw[ib (by omega)];exact decide_eq_true (by omega)
open Classical in
def kV (vs:List ae) (key:ae->List Int):KeyKind where
 α:=List Int
 blt:=HT.lexLt
 irrefl:=lex_irrefl
 trans:=lex_trans
 negTrans:=FS
 total:=lex_total
 keyOf:=λv=>if v∈vs then some (key v)else none
 dflt:=[]
open Classical in
def XB (h:v∈vs):(kV vs key).keyOf v=some (key v):=h9 h
open Classical in
def WR (e:(kV vs key).keyOf v=some l):v∈vs/\key v=l:=by
 have a:(if v∈vs then some (key v)else none)=some l:=e;split at a
 .rename_i h;cases a;exact⟨h,rfl⟩
 .cases a
def nZ (vs:List ae):(pairsOf vs).toList=vs.map λv=>(v,v):=by
 unfold pairsOf;rw[List.zip_toArray];show vs.zip vs=_;induction vs with
 |nil=>rfl
 |cons v vs a=>rw[aBK,aAr,a]
section
def IY {a:bb}{vs:List ae}{n:Nat}{f:Bool}{key:ae->List Int}{P:Fin->a9->Prop}(J:s.heap.get? a=some (seqObj "list" vs.toArray n))
  (L:∀d,kj a s d->∀x∈vs,∀y∈vs,∀(prog:be) (w:cp) (E:A4) {Q:wO},Q (HT.lexLt (key x) (key y)) d->ag (bc prog w) A (keyLt' (tupK f) x y) Q E d)
  (N:2<=vs.length->∀d,kj a s d->∀{Q:SortKind->a9->Prop},Q (tupK f) d->ag (bc prog w) A (keyKind' vs.toArray) Q E d) (m:vs.length<64)
  (h:∀o:List ae,o.Perm vs->o.Pairwise (λx y=>HT.lexLt (key y) (key x)=false)->P (.done (.ret .none)) {s with heap:=sortedHeap s.heap a vs o.toArray}):
  ag (bc prog w) A (Builtin.«list.sort» ⟨[.ref a],[]⟩) P E s:=by
 refine zT (κ:=kV vs key) (f:=f) J (λp g=>?_) (λd r prog w E x y k l Q O T q=>?_) (λU d r {Q} q=>N U d r q) m λb e Y=>?_
 .rw[nZ]at g;obtain⟨v,t,rfl⟩:=aAi.mp g;exact⟨key v,XB t⟩
 .obtain⟨m1,u⟩:=WR O;obtain⟨m2,z⟩:=WR T;subst u z;exact L d r x m1 y m2 prog w E q
 .have C:(arrOf b).toList.Perm (vs.map λv=>(v,v)):=by rw[<-nZ];exact aEQ.mp e
  have same:∀p∈(arrOf b).toList,p.1=p.2/\p.2∈vs:=λp g=>by obtain⟨v,t,rfl⟩:=aAi.mp (C.mem_iff.mp g);exact⟨rfl,t⟩
  have ea:(arrOf b).map (·.2)=((arrOf b).toList.map (·.2)).toArray:=by apply Array.ext';simp
  rw[ea];refine h _ ?_ ?_
  .have:=C.map (·.2);rw[aBL,show((λx:ae×ae=>x.2)∘λv=>(v,v))=id from rfl,List.map_id]at this;exact this
  .rw[aCl];intro i j hi hj kh;have dh:i<(arrOf b).size:=by simpa using hi
   have H:j<(arrOf b).size:=by simpa using hj
   have B:(arrOf b).size=(pairsOf vs).size:=e.size_eq;have q:=Y i j (aDx kh) (by rw[<-B];exact H);have kk:∀k (I:k<(arrOf b).size),KK (kV vs key) (arrOf b) k=key (arrOf b)[k].2:=λk I=>by unfold KK;rw[getElem?_pos _ k I];obtain⟨u,z⟩:=same (arrOf b)[k] (by simp);show((kV vs key).keyOf (arrOf b)[k].1).getD _=_;rw[u,XB z];rfl
   rw[kk i dh,kk j H]at q;rw[aDj,aDj,aGf,aGf];exact q
def sorted_keys {x:ae}{vs:List ae}{f:Bool}{key:ae->List Int}{Q:A4}{C:a9->Prop}(u:∀{p:List ae->a9->Prop},(∀s',C s'->p vs s')->ag (bc prog w) A.in1 (collect x) p E s)
  (v:∀s',C s'->∀a,(∀b o,s'.heap.get? b=some o->a.heap.get? b=some o)->∀x∈vs,∀y∈vs,∀(prog:be) (w:cp) (r:cf) (E:A4) (N:r.units<=A.units+5) {Q:wO},Q (HT.lexLt (key x) (key y)) a->ag (bc prog w) r (keyLt' (tupK f) x y) Q E a)
  (z:2<=vs.length->∀s',C s'->∀a,(∀b o,s'.heap.get? b=some o->a.heap.get? b=some o)->∀(A:cf) {Q:SortKind->a9->Prop},Q (tupK f) a->ag (bc prog w) A (keyKind' vs.toArray) Q E a) (j:vs.length<64)
  (h:∀(s':a9) (g:List ae) (h':cq) (l:bb),C s'->g.Perm vs->g.Pairwise (λx y=>HT.lexLt (key y) (key x)=false)->(∀b o,s'.heap.get? b=some o->h'.get? b=some o)->s'.heap.objs.size<=l->(∃n,h'.get? l=some (seqObj "list" g.toArray n))->Q (.ref l) {s' with heap:=h'}):
  ag (bc prog w) A (call (.builtin "sorted") [x]) Q E s:=by
 refine Calls.call_function_entry kind_sorted plain_sorted entry_sorted (args_sorted1 _) ?_;unfold Builtin.«sorted»;refine aAa (m:=checkCount "sorted" 1 1 _) (aAb ?_);refine aAa (u λs' k=>?_);refine aAa (wpAny_newList ?_);have d:(s'.heap.push<|seqObj "list" vs.toArray 0).get? s'.heap.objs.size=some (seqObj "list" vs.toArray 0):=aAp _ rfl;have t:∀a,kj s'.heap.objs.size {s' with heap:=s'.heap.push (seqObj "list" vs.toArray 0)} a->∀b o,s'.heap.get? b=some o->a.heap.get? b=some o:=λa i b o e=>i b o (aAm<|aAf e) (aAc _ e);refine aAa (aAR (aBC slot_list_sort ⟨_,d,rfl⟩ entry_list_sort (IY (key:=key) (f:=f) d (λa i x B y H prog w E {Q} q=>v s' k a (t a i) x B y H prog w _ E (by simp) q) (λI a i {Q} q=>z I s' k a (t a i) _ q) j λg J L=>⟨_,rfl,?_⟩)<|args_list_sort _));refine aAb ⟨_,rfl,h s' g _ _ k J L (λb o e=>?_) (aAh _) (sortedHeap_at d)⟩;rw[sortedHeap_old (aAm<|aAf e) (by rw[aBw];exact aBg (aAf e))];exact aAc _ e
end
end TS
namespace DL
open PySem PySem.Spec L2
section
variable [Tabs]
end
section
variable [Tabs]
end
section
variable [Tabs]
end
end DL
namespace DL
open PySem PySem.Spec L2
open PyProof.Rows hiding St
variable [Tabs]
omit [Tabs]in
def xV {ns:List Int}(h:PySem.W.WData.layableAll [PySem.W.WData.list (ns.map PySem.W.WData.int)]=true):∀x∈ns,aBe x<=1048576:=λx a=>by
 have b:=(PySem.W.layW_cons h).1;have d:=PySem.W.layableW_item b (.int x) (aAi.mpr ⟨x,a,rfl⟩);have e:=PySem.W.lay0_int d;have f:PyData.layable0 (.int x)=true:=by simpa[PyData.layableAll0]using e
 exact PyData.bits_of_layable f
def w9 (P:be)(w:cp)(K:i6)(mg:cH)(base:cq)(k:Nat)(x:Str)(n:Nat)(m:List D->R D):Prop:=
 ∃g a b,FnOk P w K mg base wD k g a b (jz K n m)/\Binds K a b []/\PySem.W.keepIn K (.ref g)=true/\mg x=some (.ref g)
def IQ (f:Ev->R (List D))(n:Nat):Prop:=∀ρ a,f ρ=.ok a->a.length=n
def aG:IQ P9 0:=λρ a h=>by cases h;rfl
def A1 (h:IQ g n):IQ (p6 f g) (n+1):=λρ j e=>by
 unfold p6 at e;cases b:f ρ with
 |ok d=>
  rw[b,R.aa0]at e;cases a:g ρ with
  |ok i=>rw[a]at e;cases e;rw[aAt,h ρ i a]
  |ex x=>rw[a]at e;cases e
  |bad=>rw[a]at e;cases e
 |ex x=>rw[b]at e;cases e
 |bad=>rw[b]at e;cases e
section
def uQ (c:w9 X.prog X.w X.K X.mg X.base k x n m)(d:Room k X.A)(h:KF X (e::es) f)(i:IQ f n)(j:Gl X x:=by rfl)(l:(x==jh)=false:=by decide)(o:ar (e::es) X.env=(false,dm e X.env)::ar es X.env:=by rfl)(q:(cz a (ar es X.env)).any (·.1)=false:=by rfl):
  PD X (.Call (.Name x p) (e::es) [] a) (λρ=>(f ρ).bind m):=by
 obtain⟨g,s,t,F,b,r,em⟩:=c;exact SC F d em r b h i j l o q
end
def YV {P:be}{w:cp}{K:i6}{mg:cH}{base:cq}{x qual:Str}{st:df}{f:bb}{fd:dn}{N ps:List Str}{k:Nat}{m:List D->R D}{F:Ev->R Out}(e:Fun K x qual st f fd)(S:FnScope N ps (c8 st))(b:Binds K fd ps [])(g:mg x=some (.ref f))
  (h:∀(T:ae) (A:cf) (a:List Env) (s:a9) (H:Hp) (E:XK),Room k (A.deeper (envOfC qual (c8 st) s.heap.objs.size f T))->bI (UW P w K mg base N qual (c8 st) f T A a s H E) (t9 st) F)
  (i:∀ds d,ds.length=ps.length->m ds=.ok d->M6 (F (k5 N ds))=.ok d):w9 P w K mg base (k+1) x ps.length m:=
 ⟨f,fd,ps,fnD e S h i,b,e.kp,g⟩
def p8:∀d ρ1,(R.ok ((i7 [x] a ρ).set 0 (Sl.v d)):R Ev)=.ok ρ1->nD ρ1 (i7 [x] a ρ):=λd ρ1 h=>by
 cases h;refine⟨by simp,λi e h b=>?_⟩;cases i with
 |zero=>exact absurd (by simpa[i7]using h.symm) b
 |succ i=>rw[aCw (by lia)];exact h
def BG (sc:hH)(N:List Str)(a:hH)(d:List Str)(b:List Nat):Bool:=
 decide (a.kind=.function)&&a.names.all (λy=>decide (y.2=.free->(y.1,aCd)∉a.names))&&a.names.all (λy=>decide (y.2=.local->a.names.lookup y.1=some .local))&&
 a.names.all (λy=>decide (y.2=.free->sc.names.lookup y.1=some .cell\/sc.names.lookup y.1=some .free))&&decide (b.length=d.length)&&(b.zip d).all (λp=>decide (N[p.1]?=some p.2/\(p.2,NameKind.free)∈a.names))&&decide b.Nodup&&
 a.names.all (λy=>decide (y.2=.free->a.names.lookup y.1=some .free))
def F1 (b:X.env.scope=sc:=by rfl)(d:X.N=N:=by rfl)(h:BG sc N a e f=true:=by decide+kernel):CompSc X a own e f:=by simp only[BG,aAJ,aBE,decide_eq_true_eq]at h;obtain⟨⟨⟨⟨⟨⟨⟨g,k⟩,l⟩,m⟩,n⟩,o⟩,p⟩,q⟩:=h;subst b d;refine⟨g,k,l,m,n,λi j x r s=>?_,p,q⟩;refine o (j,x) (aAu (i:=i) ?_);rw[aBH];exact⟨r,s⟩
def RQ (h:BG X.env.scope X.N a b d=true:=by first|kernel_rfl|with_unfolding_all rfl):CompSc X a own b d:=F1 rfl rfl h
def AE (σ:List (Nat×D))(h:∀p∈σ,p.1<Y.length):nD (σ.foldl (λr p=>r.set p.1 (Sl.v p.2)) (i7 Y a ρ)) (i7 Y a ρ):=by
 have f:∀(σ:List (Nat×D)) (r:Ev),(∀p∈σ,p.1<Y.length)->r.length=(i7 Y a ρ).length->(∀i,Y.length<=i->r[i]?=(i7 Y a ρ)[i]?)->
   (σ.foldl (λr p=>r.set p.1 (Sl.v p.2)) r).length=(i7 Y a ρ).length/\∀i,Y.length<=i->(σ.foldl (λr p=>r.set p.1 (Sl.v p.2)) r)[i]?=(i7 Y a ρ)[i]?:=by
  intro σ;induction σ with
  |nil=>intro r _ b d;exact⟨b,d⟩
  |cons p σ l=>intro r g b d;refine l _ (λq m=>g q (aAe _ m)) (by rw[aFW];exact b) λi k=>?_;have:=g p aAN;rw[aCw (by lia)];exact d i k
 obtain⟨b,d⟩:=f σ _ h rfl λ_ _=>rfl;refine⟨b,λi n e o=>?_⟩;by_cases k:i<Y.length
 .have:n=.no:=by
   rcases W3 e with z|⟨j,_,s,_⟩
   .exact z
   .lia
  exact absurd this o
 .rw[d i (by lia)];exact e
def BU:∀d ρ1,bW 3 (F8 (λd ρ=>.ok (ρ.set 0 (.v d))) (F8 (λd ρ=>.ok (ρ.set 1 (.v d))) (F8 (λd ρ=>.ok (ρ.set 2 (.v d))) fO))) d (i7 [x,y,z] e ρ)=.ok ρ1->nD ρ1 (i7 [x,y,z] e ρ):=λd ρ1 h=>by
 have f:∀g:List D,g.length=3->F8 (λd ρ=>.ok (ρ.set 0<|.v d)) (F8 (λd ρ=>.ok (ρ.set 1<|.v d))<|F8 (λd ρ=>.ok (ρ.set 2<|.v d)) fO) g (i7 [x,y,z] e ρ)=.ok ρ1->nD ρ1 (i7 [x,y,z] e ρ)
  |[a,b,c],_,h=>by cases h;exact AE (Y:=[x,y,z]) [(0,a),(1,b),(2,c)] (by simp)
 unfold bW at h;split at h
 .split at h
  .exact f _ ‹_› h
  .cases h
 .split at h
  .exact f _ ‹_› h
  .cases h
 .cases h
end DL
namespace DL.Att2
open PySem PySem.W PySem.Calls PyProof.Rows
def attach_bits {l:OpenLaw}{n:Nat}{q:be}{b:List Str}{v:(Str->Option ae)->cq->Prop}{y:cp->cq->Prop}{d:DefRec}
  (C:l.most=some n) (p:d.params.defaults=[])
  (call:∀(w:cp) (s e:a9) (mg t:cH) (fa:bb) (o:Obj) (u cd h:ae) (a:bb) (vs:List ae) (ns:List Int),
   Ground q b [] v w s mg t e.heap->y w e.heap->
   e.heap.get? fa=some o->o.data=.func (docDef d.name d.params d.body d.scope u cd h)->e.heap.CodeRec cd d.name->mg d.name=some (.ref fa)->
   e.heap.get? a=some {cls:=.type "list",data:=.seq vs.toArray}->IntsAre vs ns->ns.length<=n->(∀x∈ns,aBe x<=1048576)->e.gens=#[]->
   fh (bc l.prog w) callerA (.call (.ref fa) ⟨[.ref a],[]⟩) (λr s'=>r=.ok (.ret (.bool true))/\OldK e.heap s'.heap/\s'.os=e.os/\AllBare s'.gens) e):
  WalkO q b v y l.row.toRowW d [] (λf vs=>PySem.call f vs):=by
 intro w s e mg t G Y fa o u cd h E kV H I J z L N A B as j g O Q T;obtain rfl:E=.none:=Dflts.none z p;obtain rfl:kV=.none:=Dflts.noKw z;obtain⟨a,vs,ns,rfl,rfl,k,i,m⟩:=Att.script_of C j Q;have U:=DL.xV (ns:=ns) (by first|exact g|exact g.1|(simpa using g));refine enter_call (aDU (call w s e mg t fa o u cd h a vs ns G Y H (fd_plain I) J L k i m U N) λr s' hq=>?_);obtain⟨rfl,h2,h3,h4⟩:=hq;exact⟨.inl ⟨.bool true,.bool true,[],rfl,λ_=>rfl,.bool true,Att.post_true l _,λ_=>⟨aGx,λ_ hm=>(nomatch hm)⟩⟩,h2,h3,h4⟩
end DL.Att2
namespace DL
open PySem PySem.Spec L2
open PyProof.Rows hiding St
variable [Tabs]
end DL
namespace DL
open PySem L2
abbrev bits (a:Int):Nat:=aBe a
def j1 (h:n4 a b):gK (.int a) (.int b)=.ok (.int (a*b)):=h9 h
def kG (h:xS b):S9 (.int a) (.int b)=.ok (.int (a.fdiv b)):=h9 h
def xG (h:b≠0):dJ (.int a) (.int b)=.ok (.int (a.fmod b)):=h9 h
def KY (h:0<=b/\b<=1000000/\a.natAbs<2^64):OE (.int a) (.int b)=.ok (.int (a^b.toNat)):=h9 h
def n4.of (d:bits a<=m)(e:bits b<=n)(f:m<=60000000:=by decide)(g:n<=60000000:=by decide):n4 a b:=⟨aAs d f,aAs e g⟩
def bits_add (d:bits a<=n)(e:bits b<=n):bits (a+b)<=n+1:=by have:=PyProof.Rows.bits_add d e;rw[Nat.max_self]at this;exact this
def bits_sub (d:bits a<=n)(e:bits b<=n):bits (a-b)<=n+1:=by have:=PyProof.Rows.bits_sub d e;rw[Nat.max_self]at this;exact this
def bits_mul (d:bits a<=m)(e:bits b<=n):bits (a*b)<=m+n:=PyProof.Rows.bits_mul d e
def bits_neg (b:bits a<=m):bits (-a)<=m:=PyProof.Rows.bits_neg b
def GH (h:a.natAbs<2^n):bits a<=n:=PyProof.Rows.intBits_le h
def DY (h:bits a<=n):a.natAbs<2^n:=PyProof.Rows.lt_pow_of_bits h (aAh n)
@[simp]def J9 (d:D)(ρ:Ev):Z8 0 (Sl.v d::ρ)=.ok d:=rfl
@[simp]def X5 (i:Nat)(x:Sl)(ρ:Ev):Z8 (i+1) (x::ρ)=Z8 i ρ:=rfl
@[simp]def V8 (d:D)(ρ:Ev):uV 0 (Sl.v d::ρ)=.ok d:=rfl
@[simp]def CD (d:List D)(ρ:Ev):uV 0 (Sl.o d::ρ)=.ok (.lst d):=rfl
@[simp]def S6 (i:Nat)(x:Sl)(ρ:Ev):uV (i+1) (x::ρ)=uV i ρ:=rfl
@[simp]def R7 (d:D)(ρ:Ev):XI d ρ=.ok d:=rfl
@[simp]def B7 (ρ:Ev)(F:Ev->R Out):C4 (.ok (.nx ρ)) F=F ρ:=rfl
@[simp]def tz (d:D)(F:Ev->R Out):C4 (.ok (.rt d)) F=.ok (.rt d):=rfl
@[simp]def a0f (d:D):M6 (.ok (.rt d))=.ok d:=rfl
@[simp]def a0k (ρ:Ev):M6 (.ok (.nx ρ))=.ok .non:=rfl
@[simp]def t8 (f:Ev->R D)(g:Ev->R (List D))(ρ:Ev):p6 f g ρ=(f ρ).bind λd=>(g ρ).bind λds=>.ok (d::ds):=rfl
@[simp]def x6 (ρ:Ev):P9 ρ=.ok []:=rfl
@[simp]def a3b (a b:D):fA [a,b]=.ok (.tup [a,b]):=rfl
@[simp]def a3m (a b c:D):fA [a,b,c]=.ok (.tup [a,b,c]):=rfl
@[simp]def a3n (a b c d:D):fA [a,b,c,d]=.ok (.tup [a,b,c,d]):=rfl
@[simp]def a2y:yV []=.ok (.lst []):=rfl
@[simp]def a2u (x y z:D):J1 (.tup [x,y,z]) (.int 0)=.ok x:=rfl
@[simp]def a2o (x y z:D):J1 (.tup [x,y,z]) (.int 1)=.ok y:=rfl
@[simp]def a2z (x y z:D):J1 (.tup [x,y,z]) (.int 2)=.ok z:=rfl
@[simp]def a3d (x y z t:D):J1 (.tup [x,y,z,t]) (.int 0)=.ok x:=rfl
@[simp]def a2s (x y z t:D):J1 (.tup [x,y,z,t]) (.int 1)=.ok y:=rfl
@[simp]def a3c (x y z t:D):J1 (.tup [x,y,z,t]) (.int 2)=.ok z:=rfl
@[simp]def a3a (x y z t:D):J1 (.tup [x,y,z,t]) (.int 3)=.ok t:=rfl
@[simp]def a2q (x y:D):J1 (.tup [x,y]) (.int 0)=.ok x:=rfl
@[simp]def a3o (x y:D):J1 (.tup [x,y]) (.int 1)=.ok y:=rfl
def N1 (h:qQ Y i=some d):J1 (.lst Y) (.int i)=.ok d:=by simp only[J1,h]
def EM {Y:List D}{i:Int}{d:D}(h:qQ Y i=some d):J1 (.tup Y) (.int i)=.ok d:=by simp only[J1,h]
@[simp]def mO (a b:Int):pF (.int a) (.int b)=.ok (.int (a+b)):=rfl
@[simp]def vS (a b:Int):LU (.int a) (.int b)=.ok (.int (a-b)):=rfl
@[simp]def a1n (a b:Int):ltR (.int a) (.int b)=.ok (.bl (decide (a<b))):=rfl
@[simp]def DM (a b:Int):xy (.int a) (.int b)=.ok (.bl (decide (a<=b))):=rfl
@[simp]def qE (a b:Int):kq (.int a) (.int b)=.ok (.bl (decide (b<a))):=rfl
@[simp]def a1o (a:Int):RP (.int a)=.ok (.int (-a)):=rfl
@[simp]def DX (b:Bool):xP (.bl b)=.ok b:=rfl
@[simp]def a3i (b:Int):toI (.int b)=.ok (some b):=rfl
@[simp]def AK (Y:List D):oN [.lst Y]=.ok (.int Y.length):=rfl
@[simp]def ZM (a:Int):qw [.int a]=.ok (.int (if a<0 then-a else a)):=rfl
@[simp]def a0p (a b:Int):WV [.int a,.int b]=.ok (.int (if b>a then b else a)):=rfl
@[simp]def vI (f g:Ev->R Bool)(ρ:Ev):fw f g ρ=(f ρ).bind λb=>if b=true then g ρ else .ok false:=rfl
@[simp]def a2g (f g:Ev->R Bool)(ρ:Ev):orB f g ρ=(f ρ).bind λb=>if b=true then .ok true else g ρ:=rfl
@[simp]def a0z (a b:Int):XD (.int a) (.int b)=.ok (.bl (a==b)):=by simp only[XD,A9,u8];rfl
@[simp]def AN (a b:Int):BC (.int a) (.int b)=.ok (.bl (!(a==b))):=by simp only[BC,A9,u8];rfl
@[simp]def YS (a b c d e f:Int):XD (.tup [.int a,.int b,.int c]) (.tup [.int d,.int e,.int f])=.ok (.bl (a==d&&(b==e&&c==f))):=by simp[XD,A9,C3,u8,X4]
@[simp]def jR (a b c d e f:Int):BC (.tup [.int a,.int b,.int c]) (.tup [.int d,.int e,.int f])=.ok (.bl (!(a==d&&(b==e&&c==f)))):=by simp[BC,A9,C3,u8,X4]
theorem L0 (r:D->D):∀{ds:List D},(∀d∈ds,∃ρ1,G d ρ=.ok ρ1/\fe ρ1=.ok (r d))->u9 G (λ_=>.ok true) fe ρ ds=.ok (ds.map r)
 |[],_=>rfl
 |d::ds,h=>by obtain⟨ρ1,a,b⟩:=h d aAN;rw[u9,a];simp only[R.aa0,if_true,b,L0 r λd e=>h d (aAe _ e),aAr]
def V2 {α:Type}{Y:List α}{k:Int}(h0:0<=k):qQ Y k=Y[k.toNat]?:=by
 unfold qQ JG;rw[h9 h0];by_cases h:k<Y.length
 .rw[h9 h];rfl
 .rw[ib h,aBR.mpr (by omega)];rfl
def M2 (n:Nat)(Y:List D):Prop:=∀x∈Y,∃i,x=.int i/\bits i<=n
def VZ {n:Nat}{ns:List Int}(h:∀x∈ns,bits x<=n):M2 n (ns.map D.int):=λx a=>by obtain⟨i,b,rfl⟩:=aAi.mp a;exact⟨i,rfl,h i b⟩
def sQ (g:Int->Int)(Y:List D)(k:Int):D:=match Y[k.toNat]? with
 |some d=>d
 |none=>.int (g k)
def GU (h:M2 n Y)(g:Int->Int)(k:Int):∃i,sQ g Y k=.int i/\(bits i<=n\/i=g k):=by
 unfold sQ;cases e:Y[k.toNat]? with
 |none=>exact⟨_,rfl,.inr rfl⟩
 |some d=>obtain⟨i,rfl,a⟩:=h d (aAu e);exact⟨i,rfl,.inl a⟩
def L4 (b:-((2:Int)^n)<a)(d:a<(2:Int)^n):bits a<=n:=GH (by
 have e:((2^n:Nat):Int)=(2:Int)^n:=by simp
 omega)
def bits_fmod {a b:Int}{n:Nat}(h0:b≠0)(d:bits b<=n):bits (a.fmod b)<=n:=PyProof.Rows.bits_fmod_by h0 d
def bits_fdiv (d:bits a<=n):bits (a.fdiv b)<=n:=PyProof.Rows.bits_fdiv d
def o8 (h:bits a<=m)(b:m<=n:=by decide):bits a<=n:=aAs h b
@[simp]def a4a:jD [.int 3]=.ok [.int 0,.int 1,.int 2]:=rfl
@[simp]def aH (Y:List D):X9 (.lst Y)=.ok Y:=rfl
@[simp]def IW (Y:List D):DZ (.tup Y)=.ok Y:=rfl
@[simp]def ZI (G:D->Ev->R Ev)(ft:Ev->R Bool)(fe:Ev->R D)(ρ:Ev):u9 G ft fe ρ []=.ok []:=rfl
@[simp]def YF (i:Nat)(ft:Ev->R Bool)(fe:Ev->R D)(ρ:Ev)(d:D)(ds:List D):u9 (λd ρ=>.ok (ρ.set i (Sl.v d))) ft fe ρ (d::ds)=(ft (ρ.set i (Sl.v d))).bind λb=>if b=true then(fe (ρ.set i (Sl.v d))).bind λr=>(u9 (λd ρ=>.ok (ρ.set i (Sl.v d))) ft fe ρ ds).bind λa=>.ok (r::a)else u9 (λd ρ=>.ok (ρ.set i (Sl.v d))) ft fe ρ ds:=rfl
@[simp]def a0l (d:D):seen (.v d)=.v d:=rfl
def XU (x:D)(r:List D):J1 (.tup (x::r)) (.int 0)=.ok x:=EM (by rw[V2 (by decide)];rfl)
def WW (x y:D)(r:List D):J1 (.tup (x::y::r)) (.int 1)=.ok y:=EM (by rw[V2 (by decide)];rfl)
def WT (x y z:D)(r:List D):J1 (.tup (x::y::z::r)) (.int 2)=.ok z:=EM (by rw[V2 (by decide)];rfl)
theorem fY (Iv:Nat->Ev->Prop)(d:∀n ρ,Iv (n+1) ρ->c ρ=.ok false\/(c ρ=.ok true/\∃ρ2,F ρ=.ok (.nx ρ2)/\Iv n ρ2))(a:∀ρ,¬Iv 0 ρ):∀n ρ,Iv n ρ->∃m b,R3 c F n ρ=.ok (.nx b)/\Iv m b/\c b=.ok false
 |0,ρ,h=>absurd h (a ρ)
 |n+1,ρ,h=>by
  rcases d n ρ h with e|⟨e,ρ2,f,g⟩
  .exact⟨n+1,ρ,by rw[R3,e];rfl,h,e⟩
  .obtain⟨m,b,i,j,k⟩:=fY Iv d a n ρ2 g;exact⟨m,b,by rw[R3,e];simp only[R.aa0,if_true,f];exact i,j,k⟩
def HF {Iv:Nat->Ev->Prop}(f:∀n ρ,Iv (n+1) ρ->c ρ=.ok false\/(c ρ=.ok true/\∃ρ2,F ρ=.ok (.nx ρ2)/\Iv n ρ2))(h0:Iv n ρ)(g:∀n a,Iv n a->c a=.ok false->M6 (i a)=.ok d)(b:∀ρ,¬Iv 0 ρ:=by(intro ρ;rintro⟨x,y,_,z,_⟩;omega)):
  M6 (C4 (R3 c F n ρ) i)=.ok d:=by
 obtain⟨m,a,e,h,j⟩:=fY Iv f b n ρ h0;rw[e];exact g m a h j
end DL
namespace DL
open PySem PySem.Spec L2
open PyProof.Rows hiding St
section
variable [Tabs]
section
variable{K:i6}
def EnvOk.ad7 (E:EnvOk K e f H O σ ρ)(i:Nat)(h:H a=none)(d:K.lookup a=none)(r:Reps K H O vs Y):
  EnvOk K e f (upd H a (.lst vs)) (λb=>O b\/b=a) (σ.set i (some (.ref a))) (ρ.set i (.o Y)):=
 E.ad8 i h d trivial λg=>⟨a,vs,rfl,.inr rfl,g,j3,r.ab9 h d⟩
def EnvOk.disown (E:EnvOk K f g H O σ ρ)(e:ρ[i]?=some (.o Y)):∃d,EnvOk K f g H d σ (ρ.set i (.v (.lst Y)))/\(∀b,d b->O b):=by obtain⟨a,l,h,m,n,j,k⟩:=E.own i Y e;exact⟨λb=>O b/\b≠a,E.af0 e trivial h (λz=>z) ⟨.ref a,rfl,.lst (N2.of j) (λz=>z.2 rfl) (k.sub λ_ z=>z.1)⟩,λb z=>z.1⟩
def EnvOk.write (E:EnvOk K k l H O σ ρ)(e:ρ[i]?=some (.o Y))(b:σ[i]?=some (some (V.ref a)))(r:Reps K H O d f):
  EnvOk K k l (upd H a (.lst d)) O σ (ρ.set i (.o f))/\Kp H O (upd H a (.lst d)) O:=by
 obtain⟨g,q,m,h,n,j,s⟩:=E.own i Y e;have p:g=a:=by rw[m]at b;cases b;rfl
 subst p;exact E.ad6 e trivial b j trivial trivial λ_ _ _=>⟨g,d,rfl,h,n,j3,r.upd j trivial h⟩
end
section
def tF (X:Cx)(f:Ev->R (List D)):TE:=λσ H Q=>∃h i O ρ,EnvOk X.K h i H O σ ρ/\match f ρ with
 |.ok j=>∀d b a,Same H b->b a=none->Reps X.K b O d j->Q (.ref a) (upd b a<|.lst d)
 |.ex e=>∀g,Same H g->XW X e g
 |.bad=>False
def PF (X:Cx)(e:cu)(f:Ev->R (List D)):Prop:=PE X e (tF X f)
def PM (I:Inv X b σ H s)(h:H a=some o):X.K.lookup a=none:=by
 cases e:X.K.lookup a with
 |none=>rfl
 |some d=>have:=(I.bs a d<|I.ok.mod.kin a d e).2;rw[h]at this;cases this
def PF.pd (h:PF X e f):PD X e (λρ=>(f ρ).bind λds=>.ok (.lst ds)):=UH h λσ H Q i j O ρ E q=>⟨i,j,O,ρ,E,by
 dsimp only at q;cases b:f ρ with
 |ok ds=>rw[b]at q;intro k l a g d r;exact q _ _ (g.trans<|j8 d _) (.lst (N2.of j3) ((E.grow g).fresh d) (r.same<|j8 d _))
 |ex x=>rw[b]at q;exact q
 |bad=>rw[b]at q;exact q⟩
def oJ (h:KF X es f):PF X (.List es e) (λρ=>(f ρ).bind λds=>if ds.length<=sizeLine then .ok ds else .bad):=
 UH (OQ h) λσ H Q g i O ρ E q=>⟨g,i,O,ρ,E,by
  dsimp only at q;cases a:f ρ with
  |ok ds=>
   rw[a,R.aa0]at q;intro j k l d;by_cases b:ds.length<=sizeLine
   .rw[h9 b]at q;exact⟨by rw[d.length];exact b,λp m=>q j k p l m d⟩
   .rw[ib b]at q;exact aAk q
  |ex x=>rw[a]at q;exact q
  |bad=>rw[a]at q;exact q⟩
def gQ (i:Nat)(L:PF X e f)(Q:X.N.Nodup)(T:X.N[i]?=some x:=by rfl)(U:Loc X.env.scope x:=by first|exact aCV rfl|exact aCc rfl)(Y:ek e (some (.Name x j)) p.line X.env=pure false:=by rfl)(hf:X.fn x=true\/X.env.scope.names.lookup x=some .local:=by first|exact .inl rfl|exact .inr rfl|assumption):
  pL X (.Assign [.Name x j] e p) (λρ=>(f ρ).bind λds=>.ok (.nx (ρ.set i (.o ds)))):=by
 rintro w A k s σ H D I ⟨O,ρ,E,fk,q⟩;dsimp only at q;refine aFn (F7 (L k s σ H (λv B=>∃h g a ds,v=.ref a/\B=upd g a (.lst h)/\Same H g/\g a=none/\Reps X.K g O h ds/\RS X w A H O (.ok (.nx (ρ.set i<|.o ds))) D) I ⟨w,A,O,ρ,E,?_⟩) λv C z9=>?_) Y
 .cases l:f ρ with
  |ok ds=>rw[l,R.aa0]at q;exactλh g a C m r=>⟨h,g,a,ds,rfl,rfl,C,m,r,q⟩
  |ex x=>rw[l]at q;exactλH' s=>q H' (E.same.trans s)
  |bad=>rw[l]at q;exact q
 .obtain⟨y,B,t,r2,h,g,a,ds,l,e2,d,m,r,q'⟩:=z9;subst l e2;refine Q6 t Q T U r2 (λs3 I3=>⟨_,_,I3,?_⟩) hf;have hk:=PM t (j3 (H:=g) (a:=a) (o:=.lst h));have J:=(E.grow d).ad7 i m hk r;refine q' _ _ _ J (uF t _ J.trk) ?_;exactλb o u n=>⟨by rw[k9 (t5 (d b o u) m)];exact d b o u,λz=>z.elim n (t5 (d b o u) m)⟩
def RZ (i:Nat)(ρ:Ev):Ev:=match ρ[i]? with
 |some (.o Y)=>ρ.set i (.v (.lst Y))
 |_=>ρ
def GM (i:Nat){st:df}(h:pL X st F):pL X st (λρ=>F (RZ i ρ)):=by
 intro g j f s σ H D I ⟨O,ρ,E,k,q⟩;dsimp only at q;unfold RZ at q;cases e:ρ[i]? with
 |none=>rw[e]at q;exact h g j f s σ H D I ⟨O,ρ,E,k,q⟩
 |some l=>
  rw[e]at q;cases l with
  |x C=>exact h g j f s σ H D I ⟨O,ρ,E,k,q⟩
  |c m φ=>exact h g j f s σ H D I ⟨O,ρ,E,k,q⟩
  |d N=>exact h g j f s σ H D I ⟨O,ρ,E,k,q⟩
  |no=>exact h g j f s σ H D I ⟨O,ρ,E,k,q⟩
  |v d=>exact h g j f s σ H D I ⟨O,ρ,E,k,q⟩
  |o Y=>obtain⟨p,r,sub⟩:=E.disown e;exact h g j f s σ H D I ⟨p,_,r,λa o t z=>k a o t (sub a z),RS.grow q λb o u n=>⟨u,λz=>n (sub b z)⟩⟩
def BR (i:Nat)(ρ:Ev)(d:D):R Out:=match ρ[i]? with
 |some (.o Y)=>if Y.length<sizeLine then .ok (.nx (ρ.set i<|.o (Y++[d])))else .bad
 |_=>.bad
def gI (i:Nat)(z:PD X e f)(A:X.N[i]?=some x:=by rfl)(B:BN X.env.scope x:=by first|exact aCV rfl|exact aCc (aCV rfl)|exact aCc (aCc rfl))(I:(x==jh)=false:=by decide)(J:(x==ji)=false:=by decide)(L:gn (.Name x p) "append" X.env (dm (.Name x p) X.env)=dm (.Name x p) X.env:=by rfl)(Q:((cz g (ar [e] X.env)).all (λx=>!x.1)&&(backToKw g (keywordEach [] X.env)).all (λx=>x.1.isSome)
   &&decide ([e].length+([]:List Keyword).length+(if([]:List Keyword).isEmpty then 0 else 1)<30))=true:=by rfl) (T:(b.endLine==g.line)=true:=by rfl) (r:ar [e] X.env=(false,dm e X.env)::ar [] X.env:=by rfl) (U:(cz g (ar [] X.env)).any (·.1)=false:=by rfl) (xp:ek (.Call (.Attribute (.Name x p) "append" b) [e] [] g) none l.line X.env=pure false:=by rfl):
  pL X (.Expr (.Call (.Attribute (.Name x p) "append" b) [e] [] g) l) (λρ=>(f ρ).bind (BR i ρ)):=λH9 O0=>
 AA (mS (XA PySem.F.plainAttrs_list PySem.F.slot_list_append PySem.F.type_list_append rY (R6 A B I J) (i8 z u0 r) L Q T r U) xp) λD σ H O ρ E fk q=>by
 cases j:f ρ with
 |ok d=>
  rw[j,R.aa0]at q;unfold BR at q;cases h:ρ[i]? with
  |none=>rw[h]at q;exact aAk q
  |some s=>
   rw[h]at q;cases s with
   |x C=>exact aAk q
   |c m φ=>exact aAk q
   |d N=>exact aAk q
   |no=>exact aAk q
   |v d=>exact aAk q
   |o Y=>
    dsimp only at q;split at q
    .rename_i hz;obtain⟨a,t,u,h2,h3,w,y⟩:=E.own i Y h;refine⟨_,u,.inl ⟨rfl,t,N2.of w⟩,H9,O0,O,ρ,E,?_⟩;show IG X H O ((f ρ).bind λd=>(R.ok []).bind λds=>.ok (d::ds)) _;rw[j];intro us H1 k n;cases n with
     |cons n rn=>cases rn;have E1:=E.grow k;refine⟨a,t,_,rfl,rfl,k _ _ w,by rw[y.length];exact hz,?_⟩;obtain⟨E2,k2⟩:=E1.write h u ((y.same k).snoc n);exact q σ _ O E2 fk ((Kp.of k).trans k2)
    .exact aAk q
 |ex x=>
  rw[j]at q;cases h:ρ[i]? with
  |none=>exact(q H E.same).elim
  |some s=>exact(q H E.same).elim
 |bad=>rw[j]at q;exact aAk q
def RY (i:Nat)(ρ:Ev)(d:D):R Out:=match ρ[i]?,d with
 |some (.o Y),.lst a=>if Y.length+a.length<=sizeLine then .ok (.nx (ρ.set i<|.o (Y++a)))else .bad
 |_,_=>.bad
def AR (i:Nat)(ρ:Ev):R (D×Ev):=match ρ[i]? with
 |some (.o Y)=>match Y[Y.length-1]? with
  |some d=>.ok (d,ρ.set i (.o Y.dropLast))
  |none=>.bad
 |_=>.bad
def SM (i:Nat)(r:X.N[i]?=some x:=by rfl)(s:BN X.env.scope x:=by first|exact aCV rfl|exact aCc (aCV rfl)|exact aCc (aCc rfl))(t:(x==jh)=false:=by decide)(u:(x==ji)=false:=by decide)(w:gn (.Name x p) "pop" X.env (dm (.Name x p) X.env)=dm (.Name x p) X.env:=by rfl)(y:(b.endLine==j.line)=true:=by rfl)(A:ek (.Call (.Attribute (.Name x p) "pop" b) [] [] j) none f.line X.env=pure false:=by rfl):
  pL X (.Expr (.Call (.Attribute (.Name x p) "pop" b) [] [] j) f) (λρ=>(AR i ρ).bind λz=>.ok (.nx z.2)):=λT U=>
 AA (mS (PJ PySem.F.plainAttrs_list PySem.F.slot_list_pop PySem.F.type_list_pop LF (R6 r s t u) w y) A) λD σ H O ρ E B q=>by
 unfold AR at q;cases e:ρ[i]? with
 |none=>rw[e]at q;exact aAk q
 |some I=>
  rw[e]at q;cases I with
  |x C=>exact aAk q
  |c m φ=>exact aAk q
  |d N=>exact aAk q
  |no=>exact aAk q
  |v d=>exact aAk q
  |o Y=>
   dsimp only at q;cases g:Y[Y.length-1]? with
   |none=>rw[g]at q;exact aAk q
   |some d=>rw[g]at q;obtain⟨a,k,l,h2,h3,n,h⟩:=E.own i Y e;obtain⟨v,J,g2⟩:=h.get g;refine⟨_,l,.inl ⟨rfl,k,N2.of n⟩,a,k,v,rfl,rfl,n,by rw[h.length];exact J,?_⟩;obtain⟨L,Q⟩:=E.write e l h.dropLast;exact q σ _ O L B Q
def BL (j i:Nat)(f:X.N.Nodup)(kh:i≠j:=by decide)(A:X.N[i]?=some x:=by rfl)(B:X.N[j]?=some y:=by rfl)(I:BN X.env.scope x:=by first|exact aCV rfl|exact aCc (aCV rfl)|exact aCc (aCc rfl))(J:(x==jh)=false:=by decide)(L:(x==ji)=false:=by decide)(Q:gn (.Name x p) "pop" X.env (dm (.Name x p) X.env)=dm (.Name x p) X.env:=by rfl)(T:(b.endLine==n.line)=true:=by rfl)(g:Loc X.env.scope y:=by first|exact aCV rfl|exact aCc rfl)(U:ek (.Call (.Attribute (.Name x p) "pop" b) [] [] n) (some (.Name y py)) h.line X.env=pure false:=by rfl)(hf:X.fn y=true\/X.env.scope.names.lookup y=some .local:=by first|exact .inl rfl|exact .inr rfl|assumption):
  pL X (.Assign [.Name y py] (.Call (.Attribute (.Name x p) "pop" b) [] [] n) h) (λρ=>(AR i ρ).bind λz=>.ok (.nx (z.2.set j (.v z.1)))):=λH9 O0=>
 AA (OT f B g (PJ PySem.F.plainAttrs_list PySem.F.slot_list_pop PySem.F.type_list_pop LF (R6 A I J L) Q T) U hf) λD σ H O ρ E r q=>by
 unfold AR at q;cases e:ρ[i]? with
 |none=>rw[e]at q;exact aAk q
 |some sl=>
  rw[e]at q;cases sl with
  |x C=>exact aAk q
  |c m φ=>exact aAk q
  |d N=>exact aAk q
  |no=>exact aAk q
  |v d=>exact aAk q
  |o Y=>
   dsimp only at q;cases k:Y[Y.length-1]? with
   |none=>rw[k]at q;exact aAk q
   |some d=>rw[k]at q;obtain⟨a,s,t,h2,h3,u,l⟩:=E.own i Y e;obtain⟨v,g1,g2⟩:=l.get k;refine⟨_,t,.inl ⟨rfl,s,N2.of u⟩,a,s,v,rfl,rfl,u,by rw[l.length];exact g1,?_⟩;obtain⟨E2,w⟩:=E.write e t l.dropLast;exact q _ _ O (E2.set j<|w.rep E.trk r g2) r w
def az (i:Nat)(ρ:Ev)(k d:D):R Out:=match ρ[i]?,k with
 |some (.o Y),.int k=>match JG Y.length k with
  |some j=>.ok (.nx (ρ.set i<|.o (Y.set j d)))
  |none=>.bad
 |_,_=>.bad
def IM (i:Nat)(Q:PD X e f)(T:PD X k g)(U:X.N[i]?=some x:=by rfl)(hv:BN X.env.scope x:=by first|exact aCV rfl|exact aCc (aCV rfl)|exact aCc (aCc rfl))(hd:(x==jh)=false:=by decide)(gg:(x==ji)=false:=by decide)(ha:∀v,gv (.Subscript (.Name x p) k ps) X.env v=(do
   let h<-fg [v] (dm (.Name x p) X.env)
   let t<-fg [v,h] (dm k X.env)
   standAt ps
   fg [v,h,t] (setItem h t v)
   release [v,h,t] []):=by intro _;rfl) (hs:gk [.Subscript (.Name x p) k ps] e u.line X.env=pure false:=by rfl) (hw:gm [.Subscript (.Name x p) k ps] e X.env=pure none:=by rfl) (l:(dq [.Subscript (.Name x p) k ps] X.env).map (·.2)=[gv (.Subscript (.Name x p) k ps) X.env]:=by rfl):
  pL X (.Assign [.Subscript (.Name x p) k ps] e u) (λρ=>(f ρ).bind λd=>(g ρ).bind λw=>az i ρ w d):=λB I=>
 AA (AG Q (NK (R6 U hv hd gg) T QQ ha) hs hw l) λD σ H O ρ E fk q=>⟨B,I,O,ρ,E,by
  cases y:f ρ with
  |ok d=>
   rw[y,R.aa0]at q;intro v H1 J r1;have z:=E.grow J;cases n:g ρ with
   |ok w=>
    rw[n,R.aa0]at q;unfold az at q;cases r:ρ[i]? with
    |none=>rw[r]at q;exact aAk q
    |some sl=>
     rw[r]at q;cases sl with
     |x C=>exact aAk q
     |c m φ=>exact aAk q
     |d N=>exact aAk q
     |no=>exact aAk q
     |v d=>exact aAk q
     |o Y=>
      obtain⟨a,vs,l,h2,h3,h4,L⟩:=z.own i Y r;refine⟨_,l,B,I,O,ρ,z,?_⟩;rw[n];intro kv H2 b r2;have E2:=z.grow b;cases w with
      |int kk=>
       dsimp only at q;cases A:JG Y.length kk with
       |none=>rw[A]at q;exact aAk q
       |some j=>rw[A]at q;cases r2;refine⟨a,vs,kk,j,rfl,rfl,b _ _ h4,by rw[L.length];exact A,?_⟩;obtain⟨E3,k3⟩:=E2.write r l ((L.same b).set (r1.same b) j);exact q σ _ O E3 fk (((Kp.of J).trans (Kp.of b)).trans k3)
      |_=>exact aAk q
   |ex x=>rw[n]at q;exact(q H E.same).elim
   |bad=>rw[n]at q;exact aAk q
  |ex x=>rw[y]at q;exactλH' s=>q H' (E.same.trans s)
  |bad=>rw[y]at q;exact q⟩
def sN (i:Nat)(own fr:List Str)(U:List Nat)(hN:X.N.Nodup)(hc:X.calm=true)(S:CompSc X f own fr U)(hi:VO X tg y7 fi)(hX:∀(g:N4) (fp:List bb) (X':Cx),(∃s9 Ha C,X'=GO X g s9 Ha (own++fr) f (cA X f C) C fp)->KE X' tg G/\SH X' l ft/\PD X' t fe)(hG:∀ρ d ρ1,G d (i7 own U ρ)=.ok ρ1->nD ρ1 (i7 own U ρ))(hy:X.N[i]?=some y:=by rfl)(Y:X.env.scope.names.lookup y=some .local:=by rfl)(xp:ek (.ListComp t [⟨tg,y7,l,0⟩] f pos) (some (.Name y py)) spos.line X.env=pure true:=by rfl)(hs:∀x,et y7 X.env x=pure x:=by intro _;rfl):
  pL X (.Assign [.Name y py] (.ListComp t [⟨tg,y7,l,0⟩] f pos) spos) (λρ=>((fi ρ).bind λds=>if ds.length<=sizeLine then(u9 G ft fe (i7 own U ρ) ds).bind λh=>R.ok h else .bad).bind λh=>.ok (.nx (ρ.set i (.o h)))):=by
 rintro H9 O0 g s σ H D I ⟨O,ρ,E,fk,q⟩;dsimp only at q;rw[exec_Assign_Name_used _ _ _ _ xp];refine aAa (aEA<|aAa ?_);show ag _ X.A (do let _<-comprehension (.ListComp t [⟨tg,y7,l,0⟩] f pos) f X.env _ (newList []) false (dm y7 X.env) (some<|gv (.Name y py) X.env)) _ _ s;refine aAa (aCs (wpAny_comprehension_free (use:=some (gv (.Name y py) X.env)) (Q:=λ_ u=>SP X g D .next u) rfl hs (fM<|Inv.ab6 I S) S.kind S.names ?_) (λ_ u hq=>aAb (aAb hq)) λ_ _ e=>e);refine F7 (hi g s σ H (λJ H1=>∃ds h,Same H H1/\ZB X.K J H1 O ds/\ds.length<=sizeLine/\u9 G ft fe (i7 own U ρ) ds=.ok h/\RS X H9 O0 H O (.ok (.nx (ρ.set i<|.o h))) D) I ⟨H9,O0,O,ρ,E,uF I O E.trk,?_⟩) λv s1 h1=>F7 h1 λitv s2 h2=>?_
 .cases e1:fi ρ with
  |ex x=>rw[e1]at q;exactλH' s=>q H' (E.same.trans s)
  |bad=>rw[e1]at q;exact q
  |ok ds=>
   rw[e1,R.aa0]at q;intro J H1 s1 hJ;split at q
   .rename_i hl;cases e2:u9 G ft fe (i7 own U ρ) ds with
    |ex x=>rw[e2]at q;exact(q H E.same).elim
    |bad=>rw[e2]at q;exact q.elim
    |ok h=>rw[e2]at q;exact⟨ds,h,s1,hJ,hl,e2,q⟩
   .exact q.elim
 .obtain⟨it,fp,tn,J,H2,e,I2,T,ku,f2,ds,h,sm,hJ,hl,hrs,q⟩:=h2;subst e;refine wW (RR:=λB C=>compPost (bc X.prog X.w) X.A X.xe (some<|gv (.Name y py) X.env) (λ_ u=>SP X g D .next u) B C) hc S (hX g fp) (hG ρ) I2 T ku f2 (E.grow sm) hJ.c hrs hl ?_;intro B C u H' m hn hCa j has sm' r nw hC hI;have I3:=hI u.heap (aGC ..);show ag _ X.A (gv (.Name y py) X.env<|.ref B) _ _ u;refine wpAny_assign_Name (sT (i:=i) (v:=.ref B) I3 hN hy (.inl Y) rfl (λs4 I4 z9=>?_)<|.inr Y);obtain⟨a,hsb,ha⟩:=z9;have jg:∀x c,X.env.cells.lookup x=some c->c≠C:=λx c hc=>by obtain⟨v,hv⟩:=I2.cell x c hc;exact aAm (aAw hv.lt j)
  have hCL:C≠X.env.locals:=aDd (aAw I2.lt j);have hCa2:C≠a:=by
   rcases ha with ha|ha
   .rw[ha];exact hCL
   .exact aBW (jg y a ha)
  refine⟨m,hn.sameBut hsb hCa2,λh' jf=>?_⟩;obtain⟨H1,vs,k,L,eH,rr⟩:=nw;subst eH;have E2:=((E.grow sm).grow k).ad7 i L (PM I3<|j3 (H:=H1) (a:=B) (o:=.lst vs)) rr;refine⟨_,_,?_,q _ _ _ E2 (uF I3 _ E2.trk) λb o hb n=>⟨by rw[k9 (t5 ((sm.trans k) b o hb) L)];exact(sm.trans k) b o hb,λz=>z.elim n (t5 ((sm.trans k) b o hb) L)⟩⟩;exact I4.turned (t':=s4.toks) (it:=C) (λb o hb e=>(jf.2 b hb).trans e) hC hCL (.inr (aAs I2.sz j)) jg λp hp=>aAm (aAw (aAf (I2.pin p hp).1) j)
def aT (i:Nat)(own s:List Str)(g:List Nat)(hN:X.N.Nodup)(hc:X.calm=true)(S:CompSc X f own s g)(t:VO X u y7 Q)(hX:∀(h:N4) (fp:List bb) (p:Cx),(∃s9 Ha C,p=GO X h s9 Ha (own++s) f (cA X f C) C fp)->KE p u G/\SH p j ft/\PD p l fe)(hG:∀ρ d ρ1,G d (i7 own g ρ)=.ok ρ1->nD ρ1 (i7 own g ρ))(hy:X.N[i]?=some y:=by rfl)(w:X.env.scope.names.lookup y=some .local:=by rfl)(xp:ek (.ListComp l [⟨u,y7,j,0⟩] f A) (some (.Name y py)) m.line X.env=pure true:=by rfl)(hs:∀x,et y7 X.env x=pure x:=by intro _;rfl):
  pL X (.Assign [.Name y py] (.ListComp l [⟨u,y7,j,0⟩] f A) m) (λρ=>((Q ρ).bind λds=>if ds.length<=sizeLine then(u9 G ft fe (i7 own g ρ) ds).bind λr=>.ok (D.lst r)else .bad).bind λd=>.ok (.nx (ρ.set i (.v d)))):=λT U=>AA (sN i own s g hN hc S t hX hG hy w xp hs T U) λD σ H O ρ E fk q=>⟨O,ρ,E,fk,by
 dsimp only at q⊢;cases B:Q ρ with
 |ex x=>rw[B]at q;exact q
 |bad=>rw[B]at q;exact q
 |ok ds=>
  rw[B,R.aa0]at q;rw[R.aa0];by_cases hl:ds.length<=sizeLine
  .rw[h9 hl]at q⊢;cases I:u9 G ft fe (i7 own g ρ) ds with
   |ex x=>rw[I]at q;exact q
   |bad=>rw[I]at q;exact q
   |ok r=>
    rw[I]at q;intro ai H' O' J f' L;by_cases t:i<ρ.length
    .obtain⟨O2,E2,sub⟩:=J.disown (i:=i) (Y:=r) (by rw[aBJ t]);rw[List.set_set]at E2;exact q ai H' O2 E2 (λa o k z=>f' a o k (sub a z)) λb o hb n=>⟨(L b o hb n).1,λz=>(L b o hb n).2 (sub b z)⟩
    .have e:∀x,ρ.set i x=ρ:=λx=>List.set_eq_of_length_le (by lia);have q:RS X T U H O (.ok (.nx (ρ.set i<|.v (.lst r)))) D:=q;rw[e]at J q;exact q ai H' O' J f' L
  .rw[ib hl]at q;exact aAk q⟩
def kM {st:df}:pL X st (λ_=>.bad):=λa b=>AA LY λD σ H O ρ E d q=>q
end
end
section
theorem aV {α β:Type}[BEq α][LawfulBEq α]:∀{l:List (α×β)} {a:α} {b:β},(l.map (·.1)).Nodup->(a,b)∈l->l.lookup a=some b
 |(x,y)::l,a,b,h,f=>by
  rw[aAr,aAE]at h;rw[aBi];rcases aAd.mp f with e|d
  .cases e;simp
  .have:(a==x)=false:=by rw[beq_eq_false_iff_ne];rintro rfl;exact h.1 (aAi.mpr ⟨(a,b),d,rfl⟩)
   rw[this];exact aV h.2 d
theorem mem_lookup {α β:Type}[BEq α][LawfulBEq α]:∀{l:List (α×β)} {a:α} {b:β},l.lookup a=some b->(a,b)∈l
 |(x,y)::l,a,b,h=>by
  rw[aBi]at h;split at h
  .rename_i q;cases h;rw[eq_of_beq q];exact .head _
  .exact .tail _ (mem_lookup h)
def vW (o:Obj):Prop:=∃v,o.data=.cell v
def cQ (H:Hp)(cs:N4):Hp:=λb=>match cs.lookup b with
 |some o=>some (.frz o (.own b))
 |none=>H b
def Q8 (H:Hp)(cs:N4):Hp:=λb=>match cs.lookup b with
 |some _=>none
 |none=>H b
section
variable{K:i6}
def dR (e:cs.lookup b=some o):cQ H cs b=some (.frz o (.own b)):=by unfold cQ;rw[e]
def R0 (e:cs.lookup b=none):cQ H cs b=H b:=by unfold cQ;rw[e]
def bF (e:cs.lookup b=some o):Q8 H cs b=none:=by unfold Q8;rw[e]
def M8 (e:cs.lookup b=none):Q8 H cs b=H b:=by unfold Q8;rw[e]
def D7 (a:∀b o,cs.lookup b=some o->H b=none)(e:H b=some u):cQ H cs b=some u:=by
 cases q:cs.lookup b with
 |none=>rw[R0 q];exact e
 |some o=>rw[a b o q]at e;cases e
def dU (a:∀b o,cs.lookup b=some o->H b=none):Same H (cQ H cs):=λb u e=>D7 a e
def x5 (a:∀b o,cs.lookup b=some o->H b=some (.frz o (.own b)))(e:H b=some u)(ne:∀o,cs.lookup b=some o->u≠.frz o (.own b)):Q8 H cs b=some u:=by
 cases q:cs.lookup b with
 |none=>rw[M8 q];exact e
 |some o=>rw[a b o q]at e;cases e;exact absurd rfl (ne o q)
def NI (x:fD P w H h)(a:∀b o,cs.lookup b=some o->h.get? b=some o/\H b=none):fD P w (cQ H cs) h:=λb u e=>by
 have d:∀b o,cs.lookup b=some o->H b=none:=λb o q=>(a b o q).2;cases q:cs.lookup b with
 |some o=>rw[dR q]at e;cases e;exact⟨(a b o q).1,⟨o,(a b o q).1⟩⟩
 |none=>rw[R0 q]at e;exact(x b u e).ab8 (λ_ _ _ z=>z) (λc z=>D7 d z) λc u _ z=>D7 d z
def OI (x:fD P w H h)(d:∀b o,cs.lookup b=some o->H b=some (.frz o (.own b))/\vW o):fD P w (Q8 H cs) h:=λb u e=>by
 have g:∀b o,cs.lookup b=some o->H b=some (.frz o (.own b)):=λb o q=>(d b o q).1;cases q:cs.lookup b with
 |some o=>rw[bF q]at e;cases e
 |none=>rw[M8 q]at e;refine(x b u e).ab8 (λ_ _ _ z=>z) (λc z=>x5 g z λo _ a=>by cases a) λc u f z=>x5 g z λo q a=>?_;subst a;obtain⟨k,j⟩:=f;obtain⟨v,i⟩:=(d c o q).2;rw[j]at i;cases i
def ZN (U:Un fs [] (cQ H cs) g h h')(k:fD P w g h')(i:∀b o,cs.lookup b=some o->h.get? b=some o/\H b=none/\vW o):Un fs [] H (Q8 g cs) h h'/\fD P w (Q8 g cs) h'/\∀b o,cs.lookup b=some o->g b=some (.frz o (.own b)):=by
 have j:∀b o,cs.lookup b=some o->H b=none:=λb o q=>(i b o q).2.1;have a:∀b o,cs.lookup b=some o->g b=some (.frz o (.own b)):=λb o q=>U.frzs b o _ (dR q);refine⟨⟨λb o e n l d=>?_,λb o e n l d=>?_,λb o e n d=>?_,λb o e d=>U.there b o e d,λb Y e=>?_,λb o u e=>?_,λb m e=>?_⟩,OI k λb o q=>⟨a b o q,(i b o q).2.2⟩,a⟩
 .cases q:cs.lookup b with
  |none=>exact U.keep b o e (by rw[R0 q];exact n) l d
  |some f=>have:=(i b f q).1;rw[e]at this;cases this;exact(k b _<|a b o q).1
 .cases q:cs.lookup b with
  |none=>exact U.slot b o e (by rw[R0 q];exact n) l d
  |some f=>have:=(i b f q).1;rw[e]at this;cases this;exact⟨o.slots,(k b _<|a b o q).1⟩
 .cases q:cs.lookup b with
  |none=>rw[M8 q];exact U.free b o e (by rw[R0 q];exact n) d
  |some f=>exact bF q
 .exact x5 a (U.tups b Y<|D7 j e) λo _ z=>by cases z
 .refine x5 a (U.frzs b o u<|D7 j e) λf q z=>?_;rw[j b f q]at e;cases e
 .exact x5 a (U.tbls b m<|D7 j e) λo _ z=>by cases z
def gx (U:Un fs [] (Q8 H cs) f h h')(k:fD P w f h')(i:∀b o,cs.lookup b=some o->h.get? b=some o/\H b=some (.frz o (.own b))/\b∉fs):Un fs [] H (cQ f cs) h h'/\fD P w (cQ f cs) h'/\Same f (cQ f cs):=by
 have j:∀b o,cs.lookup b=some o->H b=some (.frz o (.own b)):=λb o q=>(i b o q).2.1;have g:∀b o,cs.lookup b=some o->f b=none:=λb o q=>U.free b o (i b o q).1 (bF q) (by simp);have m:∀b o,cs.lookup b=some o->h'.get? b=some o:=λb o q=>U.keep b o (i b o q).1 (bF q) (i b o q).2.2 (by simp);have a:∀b,H b=none->cs.lookup b=none:=λb n=>by
  cases q:cs.lookup b with
  |none=>rfl
  |some o=>rw[j b o q]at n;cases n
 refine⟨⟨λb o e n l d=>U.keep b o e (by rw[M8 (a b n)];exact n) l d,λb o e n l d=>U.slot b o e (by rw[M8 (a b n)];exact n) l d,λb o e n d=>?_,λb o e d=>U.there b o e d,λb Y e=>?_,λb o u e=>?_,λb p e=>?_⟩,
  NI k λb o q=>⟨m b o q,g b o q⟩,dU g⟩
 .rw[R0 (a b n)];exact U.free b o e (by rw[M8 (a b n)];exact n) d
 .exact D7 g (U.tups b Y (x5 j e λo _ z=>by cases z))
 .cases q:cs.lookup b with
  |none=>exact D7 g (U.frzs b o u (by rw[M8 q];exact e))
  |some r=>rw[j b r q]at e;cases e;exact dR q
 .exact D7 g (U.tbls b p (x5 j e λo _ z=>by cases z))
def ES (d:∀b o,cs.lookup b=some o->H b=some (.frz o (.own b)))(q:U4 K H a Y):U4 K (Q8 H cs) a Y:=by
 rcases q with(q|⟨o,q⟩)|q
 .exact .inl (.inl (x5 d q λo _ z=>by cases z))
 .exact .inl (.inr ⟨o,x5 d q λo _ z=>by cases z⟩)
 .exact .inr q
def EN (d:∀b o,cs.lookup b=some o->H b=some (.frz o (.own b)))(q:N2 K H a Y):N2 K (Q8 H cs) a Y:=by
 rcases q with(q|⟨o,q⟩)|q
 .exact .inl (.inl (x5 d q λo _ z=>by cases z))
 .exact .inl (.inr ⟨o,x5 d q λo _ z=>by cases z⟩)
 .exact .inr q
def FP {cs:N4}{φ:cq->Prop}(a:∀b o,cs.lookup b=some o->H b=some (.frz o (.own b)))(q:H b=some (.ext φ)):Q8 H cs b=some (.ext φ):=by
 unfold Q8;cases e:cs.lookup b with
 |none=>simpa[e]using q
 |some o=>have:=a b o e;rw[q]at this;cases this
def Rep.hid (a:∀b o,cs.lookup b=some o->H b=some (.frz o (.own b)))(r:Rep K H O v d):Rep K (Q8 H cs) O v d:=r.mono (λ_ _ q=>ES a q) (λ_ _ n q=>⟨n,EN a q⟩) λb φ n q=>⟨n,FP a q⟩
def Reps.hid (a:∀b o,cs.lookup b=some o->H b=some (.frz o (.own b)))(r:Reps K H O v d):Reps K (Q8 H cs) O v d:=r.mono (λ_ _ q=>ES a q) (λ_ _ n q=>⟨n,EN a q⟩) λb φ n q=>⟨n,FP a q⟩
end
variable [Tabs]
section
variable(P:be) (w:cp) (K:i6) (mg:cH) (base:cq) (k:Nat)
def KH (n:Nat)(m:List D->R D)(H:Hp)(O:bb->Prop)(a:bb):Prop:=
 (∃i j l p,H a=some (.frz ⟨i,j,.func l,p⟩ (.own a)))/\
 ∀(A:cf) (b:List Env) (s:a9) (g:List ae) (h:List V) (e:List D) (d:D) (Q:VK) (E:XK),Room k A->Env0 P w K mg base A b s H->l8 h g->Reps K H O h e->e.length=n->(∀a,O a->∃o,H a=some o/\Mt o)->Tb H->aI K O->m e=.ok d->
  (∀v f,Same H f->Rep K f O v d->Q v f)->fh (bc P w) A (.call (.ref a) ⟨g,[]⟩) (CR wD b P w H s Q E) s
end
open Classical in
def callC (Φ:(List D->R D)->Hp->(bb->Prop)->bb->Prop) (i:Nat) (f:Ev->R (List D)):Ev->R D:=λρ=>match ρ[i]? with
 |some (.c m φ)=>if φ=Φ m then(f ρ).bind m else .bad
 |_=>.bad
section
def NQ (i:Nat)(ha:KF X (e::es) f)(hl:IQ f n)(hr:Room k X.A)(hN:X.N[i]?=some x:=by rfl)(hv:BN X.env.scope x:=by first|exact aCV rfl|exact aCc (aCV rfl)|exact aCc (aCc rfl))(hd:(x==jh)=false:=by decide)(gg:(x==ji)=false:=by decide)(he:ar (e::es) X.env=(false,dm e X.env)::ar es X.env:=by rfl)(bo:(cz h (ar es X.env)).any (·.1)=false:=by rfl):
  PD X (.Call (.Name x p) (e::es) [] h) (callC (KH X.prog X.w X.K X.mg X.base k n) i f):=by
 refine wN λb s σ H Q I H9 O0 O ρ E q=>?_;unfold callC at q;cases y:ρ[i]? with
 |none=>rw[y]at q;exact q.elim
 |some l=>
  rw[y]at q;cases l with
  |c m φ=>
   dsimp only at q;split at q
   .rename_i B;subst B;obtain⟨a,h1,T⟩:=E.slot i _ y;obtain⟨⟨U,Y,fd,l,hf⟩,_⟩:=T H O (Kp.refl _ _);refine aAW (F7 (R6 hN hv hd gg b s σ H (λv H'=>v=.ref a/\H'=H) I ⟨_,h1,rfl,rfl⟩) λu s1 z9=>?_);obtain⟨v,H1,I1,r1,ev,eH⟩:=z9;subst ev eH;obtain rfl:u=aDJ a:=r1;refine PySem.W.callWith_F ⟨U,Y,fd,l,(I1.hok a _ hf).1⟩ (F7 (ha h b s1 σ H1 _ I1 ⟨H9,O0,O,ρ,E,IG.seq q⟩) λus s2 ⟨vs,H2,o,rv,C,e2,J,rr,g⟩=>⟨⟨U,Y,fd,l,(o.hok a _<|J _ _ hf).1⟩,?_⟩) he bo;cases t:m C with
    |ex z=>rw[t]at g;exact(g H2<|Same.refl _).elim
    |bad=>rw[t]at g;exact g.elim
    |ok d=>
     rw[t]at g;have L:=E.grow J;refine wpAny_call (aDU ((T H2 O<|Kp.of J).2 X.A X.stack s2 us vs C d Q (λ_ _ _=>False) hr o.af4 rv rr (hl ρ C e2) L.trk L.tab (uF o O L.trk) t g) λr s' j=>?_);cases r with
     |error e=>exact j.elim
     |ok fl=>
      cases fl with
      |ret u=>exact o.after j
      |next=>exact aAk j
      |brk=>exact aAk j
      |cont=>exact aAk j
   .exact q.elim
  |_=>exact q.elim
end
def spF (K:i6)(Φ:(List D->R D)->Hp->(bb->Prop)->bb->Prop)(M:D->(List D->R D)->(List D->R D)->R D):Sp:=λl H Q _=>∃O v1 g h i j k d,l=[v1,.ref h,.ref j]/\Rep K H O v1 g/\(∀b e,Kp H O b e->Φ i b e h)/\(∀b e,Kp H O b e->Φ k b e j)/\
 (∀a,O a->∃o,H a=some o/\Mt o)/\Tb H/\aI K O/\M g i k=.ok d/\∀v f,Same H f->Rep K f O v d->Q v f
def kQ (N:List Str)(Φ:(List D->R D)->Hp->(bb->Prop)->bb->Prop)(d:D)(a b:List D->R D):Ev:=.v d::.c a (Φ a)::.c b (Φ b)::aCQ (N.length-3) Sl.no
def BH {K:i6}{H:Hp}{O:bb->Prop}{N:List Str}{v1:V}{f:D}{a1 a2:bb}{g k:List D->R D}{Φ:(List D->R D)->Hp->(bb->Prop)->bb->Prop}(r:Rep K H O v1 f)(l:∀d e,Kp H O d e->Φ g d e a1)(m:∀d e,Kp H O d e->Φ k d e a2)
  (t:∀a,O a->∃o,H a=some o/\Mt o) (tb:Tb H):EnvOk K H O H O (start N [v1,.ref a1,.ref a2]) (kQ N Φ f g k)where
 len:=by simp[L2.start,kQ]
 same:=Same.refl H
 sub:=λ_ h=>h
 trk:=t
 trk0:=λa h=>let⟨o,q,_⟩:=t a h;⟨o,q⟩
 tab:=tb
 slot:=λi n h=>by
  match i with
  |0=>cases h;exact⟨v1,rfl,r⟩
  |1=>cases h;exact⟨a1,rfl,l⟩
  |2=>cases h;exact⟨a2,rfl,m⟩
  |i+3=>
   have b:(aCQ (N.length-3) Sl.no)[i]?=some n:=h;rw[aBA]at b;split at b
   .cases b;trivial
   .cases b
 inj:=λi j x y a h _ o=>by
  match i with
  |0=>cases h;exact o.elim
  |1=>cases h;exact o.elim
  |2=>cases h;exact o.elim
  |i+3=>
   have b:(aCQ (N.length-3) Sl.no)[i]?=some x:=h;rw[aBA]at b;split at b
   .cases b;exact o.elim
   .cases b
section
variable{K:i6}
def fnF {x qual:Str}{st:df}{f:bb}{fd:dn}{N ps:List Str}{k:Nat}{M:D->(List D->R D)->(List D->R D)->R D}{Φ:(List D->R D)->Hp->(bb->Prop)->bb->Prop}{F:Ev->R Out}(m:Fun K x qual st f fd)(S:FnScope N ps (c8 st))(n:ps.length=3)
  (p:∀(T:ae) (A:cf) (a:List Env) (s:a9) (H:Hp) (E:XK),Room k (A.deeper (envOfC qual (c8 st) s.heap.objs.size f T))->bI (UW P w K mg base N qual (c8 st) f T A a s H E) (t9 st) F)
  (t:∀g i j d,M g i j=.ok d->M6 (F (kQ N Φ g i j))=.ok d):FnOk P w K mg base wD (k+1) f fd ps (spF K Φ M):=by
 refine m.ok S (λu H Q E z=>by obtain⟨O,v1,g,v,i,y,j,d,e,_⟩:=z;rw[e,n];rfl) (λT A a s H u Q E B z=>?_);obtain⟨O,v1,g,v,i,y,j,d,C,r,I,J,L,U,Y,e,q⟩:=z;subst C;refine⟨_,p T A a s H E B H O,O,_,BH r I J L U,Y,?_⟩;have h:=t g i j d e;cases l:F (kQ N Φ g i j)with
 |ok o=>
  rw[l]at h;cases o with
  |rt d'=>have b:R.ok d'=R.ok d:=h;injection b with b;subst b;exact q
  |nx ρ=>have b:R.ok D.non=R.ok d:=h;injection b with b;subst b;exactλai H' O' E' _ _=>q .non H' E'.same .non
  |bk ρ=>cases h
  |ct ρ=>cases h
 |ex x=>rw[l]at h;cases h
 |bad=>rw[l]at h;cases h
end
structure NScope (ps ls fn:List Str)(sc:Scope):Prop where
 kind:sc.kind=.function
 co:sc.isCoroutine=false
 gen:sc.isGenerator=false
 nd:(ps++(ls++fn)).Nodup
 par:∀x∈ps,sc.names.lookup x=some .local
 fre:∀x∈fn,sc.names.lookup x=some .free
 all:∀x,sc.names.lookup x=some .free->x∈fn
 nocell:∀y∈sc.names,y.2≠.cell
abbrev cxM (P:be)(w:cp)(K:i6)(mg:cH)(base:cq)(N:List Str)(env:Env)(A:cf)(outer:List Env)(s:a9)(H:Hp):Cx where
 prog:=P
 w:=w
 K:=K
 mg:=mg
 base:=base
 A:=A.deeper env
 N:=N
 s9:=s
 H9:=H
 env:=env
 outer:=outer
 stack:=env::outer
 ex:=[]
 calm:=true
 fn:=λ_=>false
 pn:=[]
 xe:=λ_ _=>False
def M7 {α:Type}(vs:List α)(n:Nat)(no:α)(ws:List α):List α:=vs++(aCQ n no++ws)
def gN {α:Type}{vs ws:List α}{n i:Nat}{no a:α}(h:(M7 vs n no ws)[i]?=some a):vs[i]?=some a\/a=no\/(vs.length+n<=i/\ws[i-(vs.length+n)]?=some a):=by
 unfold M7 at h;by_cases d:i<vs.length
 .rw[aAZ d]at h;exact .inl h
 .rw[aAA (by lia)]at h;by_cases b:i-vs.length<n
  .rw[aAZ (by simpa using b),aBA,h9 b]at h;exact .inr (.inl (Option.some.inj h).symm)
  .rw[aAA (by simpa using b),aCp]at h;exact .inr (.inr ⟨by lia,by rw[show i-(vs.length+n)=i-vs.length-n by lia];exact h⟩)
def OO {α:Type}{vs ws:List α}{n i:Nat}{no a:α}(h:vs[i]?=some a):(M7 vs n no ws)[i]?=some a:=by unfold M7;rw[aAZ (aAC.mp h).1];exact h
def PL {α:Type}{vs ws:List α}{n i:Nat}{no a:α}(h:ws[i]?=some a):(M7 vs n no ws)[vs.length+n+i]?=some a:=by unfold M7;rw[aAA (by lia),aAA (by simp;lia),aCp,show vs.length+n+i-vs.length-n=i by lia];exact h
section
variable{K:i6}
def BA {A:cf}{g:List Env}{s:a9}{H:Hp}{N:List ae}{vs wv:List V}{h₁:cq}{tk:Nat}(S:NScope ps k fn d)(T:A.handled=none)(j:Env0 P w K mg base A g s H)(B:vs.length=ps.length)(r:l8 vs N)(O:wv.length=fn.length)
  (Q:∀(i:Nat) (x:Str) (v:V),fn[i]?=some x->wv[i]?=some v->∃c u,clos.lookup x=some c/\RelV v u/\s.heap.IsCell c (some u)) (t:∀x c,clos.lookup x=some c->(∃v,s.heap.IsCell c v)/\H c=none)
  (U:∀x y c,clos.lookup x=some c->clos.lookup y=some c->x=y) (I:h₁.Ns s.heap.objs.size (λx=>(ps.zip N).reverse.lookup x)) (C:∀b o,s.heap.get? b=some o->h₁.get? b=some o):
  Inv (cxM P w K mg base (ps++(k++fn)) (PySem.W.envX qual d s.heap.objs.size fa cd clos) A g s H) [] (M7 (vs.map some) k.length none (wv.map some)) H {s with heap:=h₁,toks:=tk}:=by
 have l:∀b:bb,b∉(cxM P w K mg base (ps++(k++fn)) (PySem.W.envX qual d s.heap.objs.size fa cd clos) A g s H).ex:=λb z=>absurd (show b∈([]:List bb)from z) (by simp);have J:ps.Nodup:=(aCD.mp S.nd).1;refine⟨⟨j.mod,S.kind,rfl,rfl,aAh _,U,λy m=>?_,λy c Y _=>(by cases Y),λ_=>T,aGa j.frames,.inr ⟨rfl,rfl⟩,λb z=>absurd z (l b),j.bs,j.bsz,λb _ _=>l b,λb z=>absurd z (l b),j.funs,j.frf⟩,
  rfl,j.bare,Un.kept C,⟨_,I,λi y v h1 f h3=>?_⟩,λy c h=>?_,j.hok.fresh (aAh _),λy c h=>(t y c h).2,λp hp=>absurd (show p∈([]:N4)from hp) (by simp),j.hok.kept C,?_⟩
 .have m:d.names.lookup y=some .cell\/d.names.lookup y=some .free:=m;rcases m with m|m
  .exact absurd rfl (S.nocell _<|PySem.mem_of_lookup m)
  .have hm:=S.all y m;obtain⟨i,E,e⟩:=aBp hm;have hw:i<wv.length:=by rw[O];exact E
   obtain⟨c,u,q,_⟩:=Q i y wv[i] (by rw[aAg E,e]) (aAg hw);exact⟨c,q⟩
 .have n:(ps++(k++fn))[i]?=some y:=h1;rcases gN f with f|f|⟨h4,f⟩
  .rw[aAI]at f;cases e:vs[i]? with
   |none=>rw[e]at f;cases f
   |some a=>
    rw[e]at f;have L:a=v:=Option.some.inj (Option.some.inj f);subst L;obtain⟨u,hu,rv⟩:=r.get e;have E:i<ps.length:=by rw[<-B];exact(aAC.mp e).1
    rw[aAZ E]at n;refine⟨u,rv,.inl ⟨S.par y (aAu n),?_⟩⟩;refine aV ?_ ?_
    .rw[aFE];refine(List.reverse_perm _).nodup_iff.mpr ?_;rw[List.map_fst_zip (by rw[<-B,r.length];exact aAh _)];exact J
    .rw[aCv];exact aAu (i:=i) (by rw[aBH];exact⟨n,hu⟩)
  .cases f
  .rw[aAj]at h4 f;rw[aAI]at f;cases e:wv[i-(vs.length+k.length)]? with
   |none=>rw[e]at f;cases f
   |some a=>rw[e]at f;have L:a=v:=Option.some.inj (Option.some.inj f);subst L;rw[aAA (by lia),aAA (by lia),<-B,show i-vs.length-k.length=i-(vs.length+k.length)by lia]at n;obtain⟨c,u,q1,q2,q3⟩:=Q _ y a n e;exact⟨u,q2,.inr ⟨.inr (S.fre y<|aAu n),c,q1,q3.keeps C⟩⟩
 .obtain⟨⟨v,z⟩,_⟩:=t y c h;exact⟨v,z.keeps C⟩
 .unfold M7;simp[B,O]
def BW {H:Hp}{O:bb->Prop}{vs wv:List V}{ds wd:List D}{n:Nat}(r:Reps K H O vs ds)(k:Reps K H O wv wd)(t:∀a,O a->∃o,H a=some o/\Mt o)(tb:Tb H):
  EnvOk K H O H O (M7 (vs.map some) n none (wv.map some)) (M7 (ds.map Sl.v) n .no (wd.map Sl.v))where
 len:=by unfold M7;simp[r.length,k.length]
 same:=Same.refl H
 sub:=λ_ h=>h
 trk:=t
 trk0:=λa h=>let⟨o,q,_⟩:=t a h;⟨o,q⟩
 tab:=tb
 slot:=λi l h=>by
  rcases gN h with h|h|⟨m,h⟩
  .rw[aAI]at h;cases e:ds[i]? with
   |none=>rw[e]at h;cases h
   |some d=>rw[e]at h;have b:Sl.v d=l:=Option.some.inj h;subst b;obtain⟨v,f,g⟩:=r.get e;exact⟨v,OO (by rw[aAI,f];rfl),g⟩
  .subst h;trivial
  .rw[aAI,aAj]at h;rw[aAj]at m;cases e:wd[i-(ds.length+n)]? with
   |none=>rw[e]at h;cases h
   |some d=>rw[e]at h;have b:Sl.v d=l:=Option.some.inj h;subst b;obtain⟨v,f,g⟩:=k.get e;refine⟨v,?_,g⟩;have:=PL (vs:=vs.map some) (n:=n) (no:=(none:Option V)) (ws:=wv.map some) (i:=i-(ds.length+n)) (a:=some v) (by rw[aAI,f];rfl);rw[aAj,r.length,show ds.length+n+(i-(ds.length+n))=i by lia]at this;exact this
 inj:=λi j x y a h _ o=>by
  rcases gN h with h|h|⟨_,h⟩
  .obtain⟨d,_,rfl⟩:=aAi.mp (aAu h);exact o.elim
  .subst h;exact o.elim
  .obtain⟨d,_,rfl⟩:=aAi.mp (aAu h);exact o.elim
def ij {name:Str}{j:Arguments}{body:List df}{doc pm ctv:ae}{T:bb}{oc:Obj}{k:Nat}{m:List D->R D}{F:Ev->R Out}{H:Hp}{O:bb->Prop}{cs:N4}{wv:List V}{wd:List D}(S:NScope ps ls fn g)
  (hb:∀(A:cf) (f:List Env) (s:a9) (H:Hp),Room k (A.deeper (PySem.W.envX qual g s.heap.objs.size fa (.ref T) clos))->bI (cxM P w K mg base (ps++(ls++fn)) (PySem.W.envX qual g s.heap.objs.size fa (.ref T) clos) A f s H) body F)
  (hm:∀ds d,ds.length=ps.length->m ds=.ok d->M6 (F (M7 (ds.map Sl.v) ls.length .no (wd.map Sl.v)))=.ok d)
  (xr:∀(s:a9) (U:List ae),U.length=ps.length->BindsTo s (PySem.W.fnX name qual j body g clos .none .none doc pm none (.ref T) ctv) ⟨U,[]⟩ (ps.zip U))
  (hfa:H fa=some (.frz (PySem.W.fnMade name qual j body g clos doc pm T ctv) (.own fa))) (hc:H T=some (.frz oc (.own T))) (bu:∃vs t,oc.data=.fields vs/\vs[1]?=some (.str qual t))
  (xl:∀b o,cs.lookup b=some o->H b=some (.frz o (.own b))/\vW o) (yv:∀(i:Nat) (x:Str) (v:V),fn[i]?=some x->wv[i]?=some v->∃c u o,clos.lookup x=some c/\cs.lookup c=some o/\o.data=.cell (some u)/\RelV v u)
  (hcc:∀x c,clos.lookup x=some c->∃o,cs.lookup c=some o) (mi:∀x y c,clos.lookup x=some c->clos.lookup y=some c->x=y) (si:wv.length=fn.length) (hr:Reps K H O wv wd) (hO:∀a,O a->∃o,H a=some o/\Mt o):
  ∀B Y,Kp H O B Y->KH P w K mg base (k+1) ps.length m B Y fa:=by
 intro B Y kp;have fz:∀b o u,H b=some (.frz o u)->B b=some (.frz o u):=λb o u e=>(kp b _ e λz=>by obtain⟨o',q,mt⟩:=hO b z;rw[e]at q;cases q;exact mt).1;have l:∀b o,cs.lookup b=some o->B b=some (.frz o (.own b)):=λb o q=>fz _ _ _ (xl b o q).1;refine⟨⟨_,_,_,_,fz _ _ _ hfa⟩,λA f s U vs ds d Q E qm C rv rr hl ht tb fk em q=>?_⟩;have KX:K.In s.heap:=C.mod.kin.keeps λb o e=>(C.bs b o e).1;have lim:s.heap.NoLimit:=C.mod.nolimit.keeps λb o e=>(C.bs b o e).1;have gfa:=(C.hok fa _<|fz _ _ _ hfa).1;have goc:=(C.hok T _<|fz _ _ _ hc).1;obtain⟨ovs,ot,od1,od2⟩:=bu;have hidn:∀b,B b=none->Q8 B cs b=none:=λb n=>by
  cases z:cs.lookup b with
  |none=>rw[M8 z];exact n
  |some o=>exact bF z
 have e1:Env0 P w K mg base A f s (Q8 B cs):=⟨C.frames,C.mod,λb o e=>⟨(C.bs b o e).1,hidn b (C.bs b o e).2⟩,C.bsz,C.funs,λb hb=>hidn b (C.frf b hb),OI C.hok λb o z=>⟨l b o z,(xl b o z).2⟩,C.bare⟩;have N:∀b o,cs.lookup b=some o->s.heap.get? b=some o:=λb o z=>(C.hok b _<|l b o z).1;have cfs:∀b o,cs.lookup b=some o->b∉wZ f:=λb o z hb=>by have:=C.frf b hb;rw[l b o z]at this;cases this
 have hul:U.length=ps.length:=by rw[<-rv.length,rr.length];exact hl
 have hvl:vs.length=ps.length:=by rw[rr.length];exact hl
 have rwv:Reps K (Q8 B cs) Y wv wd:=(kp.ac3 hO fk hr).hid l;have tb1:Tb (Q8 B cs):=λp hp=>x5 l (tb p hp) λo _ z=>by cases z
 have ht1:∀a,Y a->∃o,Q8 B cs a=some o/\Mt o:=λa z=>by obtain⟨o,q1,q2⟩:=ht a z;exact⟨o,x5 l q1 λo' _ z'=>by subst z';exact q2,q2⟩
 let Q':VK:=λv H3=>(∀b o,cs.lookup b=some o->H3 b=none)->Q v (cQ H3 cs)
 have qq:∀v L,Same (Q8 B cs) L->Rep K L Y v d->Q' v L:=λv L sm r hn=>by
  refine q v _ (λb u e=>?_) (r.same<|dU hn);cases z:cs.lookup b with
  |none=>exact D7 hn (sm b u (by rw[M8 z];exact e))
  |some o=>rw[l b o z]at e;cases e;exact dR z
 have fin:∀{u:ae} {s':a9},CE f P w (Q8 B cs) s Q' u s'->CE f P w B s Q u s':=λ{u s'} ⟨v,H3,os,bare,un,hok,r,qv⟩=>by obtain⟨U2,k2,yu⟩:=gx un hok λb o z=>⟨N b o z,l b o z,cfs b o z⟩;exact⟨v,_,os,bare,U2,k2,r,qv λb o z=>un.free b o (N b o z) (bF z) (by simp)⟩
 refine codeAny_call_def (fd:=PySem.W.fnX name qual j body g clos .none .none doc pm none (.ref T) ctv) (body:=body) (binds:=ps.zip U) qm.depth gfa rfl lim ⟨T,oc,ovs,ot,rfl,goc,od1,od2⟩ rfl (xr s U hul) S.nocell (λy hy=>S.par y.1 (aDY hy).1) (λh₁ hns hk=>?_) S.co S.gen S.kind;show ag (bc P w) (A.deeper<|PySem.W.envX qual g s.heap.objs.size fa (.ref T) clos) (execs body<|PySem.W.envX qual g s.heap.objs.size fa (.ref T) clos) _ _ _;have I:=BA (qual:=qual) (fa:=fa) (cd:=.ref T) (clos:=clos) (tk:=s.toks+(ps.zip U).length) S qm.hd e1 hvl rv si (λi x v h1 h2=>by
   obtain⟨c,u,o,q1,q2,q3,q4⟩:=yv i x v h1 h2;exact⟨c,u,q1,q4,o,N c o q2,q3⟩) (λx c h=>by
   obtain⟨o,z⟩:=hcc x c h;obtain⟨v,z2⟩:=(xl c o z).2;exact⟨⟨v,o,N c o z,z2⟩,bF z⟩) mi hns hk
 have hx:=hb A f s (Q8 B cs) (qm.deeper _) (Q8 B cs) Y [] _ _ _ {nx:=λ_ L=>Q' .non L,rt:=Q'} I ⟨Y,_,BW (rr.hid l) rwv ht1 tb1,fk,?_⟩
 .refine aCs hx (λfl s' hs=>?_) λe s' hs=>hs.elim;have fin2:∀{ai:St} {L:Hp} {v:V} {u:ae},Inv (cxM P w K mg base (ps++(ls++fn)) (PySem.W.envX qual g s.heap.objs.size fa (.ref T) clos) A f s<|Q8 B cs) [] ai L s'->RelV v u->Q' v L->CE f P w B s Q u s':=
   λ{ai L v u} J rv q=>fin ⟨v,L,J.os,J.bare,J.base,J.hok,rv,q⟩
  cases fl with
  |ret u=>obtain⟨v,ai,L,J,rv,q⟩:=hs;exact fin2 J rv q
  |next=>obtain⟨ai,L,J,q⟩:=hs;exact fin2 (v:=V.non) (u:=Value.none) J rfl q
  |brk=>obtain⟨_,_,_,q⟩:=hs;exact aAk q
  |cont=>obtain⟨_,_,_,q⟩:=hs;exact aAk q
 .have h:=hm ds d hl em;cases e1:F (M7 (ds.map Sl.v) ls.length .no (wd.map Sl.v))with
  |ok o=>
   rw[e1]at h;cases o with
   |rt d'=>have h':R.ok d'=R.ok d:=h;injection h' with h';subst h';exact qq
   |nx ρ=>have h':R.ok D.non=R.ok d:=h;injection h' with h';subst h';exactλai L O' E' _ _=>qq .non L E'.same .non
   |bk ρ=>cases h
   |ct ρ=>cases h
  |ex x=>rw[e1]at h;cases h
  |bad=>rw[e1]at h;cases h
end
end
section
variable [Tabs]
def iM (mg:cH)(base:cq):Prop:=∃b a,mg "__builtins__"=some (.ref b)/\b≠builtinsNs/\base.get? b=some a/\a.cls=.type "module"/\a.dict=some builtinsNs/\a.data=.plain
def tO:∀(l:List ae),TriplesOk l->eY d l=some x->eY d (l++[eh a,eh b,c])=some x:=λl h e=>by
 fun_induction TriplesOk l with
 |case1=>simp[eY]at e
 |case2 i t j u y rest g=>
  simp only[aBh,eY]at e⊢;split at e
  .rename_i f;rw[h9 f];exact e
  .rename_i f;rw[ib f];exact g h e
 |case3 l k m=>exact h.elim
def KI (ne:¬(a=d.line/\b=d.col)):∀(l:List ae),TriplesOk l->eY d l=none->eY d (l++[eh a,eh b,c])=none:=λl h e=>by
 fun_induction TriplesOk l with
 |case1=>simp only[aDB,eh,eY];rw[ib];simp only[aAJ,beq_iff_eq];exact ne
 |case2 i t j u y rest f=>
  simp only[aBh,eY]at e⊢;split at e
  .cases e
  .rename_i g;rw[ib g];exact f h e
 |case3 l k m=>exact h.elim
def gB (H:Hp)(fa:bb)(name qual:Str)(a:Arguments)(body:List df)(b:hH)(clos:List (Str×bb)):Prop:=
 ∃d g e i f,H fa=some (.frz (PySem.W.fnMade name qual a body b clos e i d f) (.own fa))/\H d=some (.frz g (.own d))/\∃h t,g.data=.fields h/\h[1]?=some (.str qual t)
def gB.same (h:gB H fa name qual a body b clos)(s:Same H H'):gB H' fa name qual a body b clos:=
 let⟨f,g,d,i,e,j,k,l⟩:=h;⟨f,g,d,i,e,s _ _ j,s _ _ k,l⟩
section
def zI {Q:Flow->a9->Prop}(I:Inv X pins σ H s)(hB:iM X.mg X.base)(lh:X.env.code=.ref c)(hK:PySem.W.codeHdIn X.K c x=true)(hT:H x=some (.tbl tb))(hq:qualnameIn X.env name name=qual)(hm:(g,qual)∈tb)(hu:∀p∈tb,p.1.line=g.line->p.1.col=g.col->p.2=qual)(yv:closureFor f X.env=pure clos)(hd0:d.defaults=[])(hk0:d.kw_defaults=[])(ha:annTrees d none X.env=[])(hN:X.N.Nodup)(hi:X.N[i]?=some name)(hx:Loc X.env.scope name)(hf:X.fn name=true\/X.env.scope.names.lookup name=some .local)(h:∀fa H' s',Inv X pins (σ.set i (some (.ref fa))) H' s'->Same H H'->gB H' fa name qual d body f clos->Q .next s'):ag (bc X.prog X.w) X.A (exec (.FunctionDef name d body [] none [] f none name g) X.env) Q X.xe s:=by
 refine PySem.W.nestDef_K hd0 hk0 ha ?_;rw[hq];have hg:s.heap.Ns bg X.mg:=I.mod.glob.keeps I.bk;have C:PySem.W.CodeHd s.heap c x:=PySem.W.codeHd_of_K I.kIn hK;obtain⟨ps,hP,m,L⟩:=I.hok x _ hT;have hgP:bg≠x:=λq=>by obtain⟨o,es,ep,e,hd,_⟩:=hg;rw[q,hP]at e;cases e;cases hd
 have O:s.heap.BuiltinsAt X.mg x:=by
  obtain⟨bm,ob,b1,b2,b3,b4,b5,b6⟩:=hB;have y:=I.bk _ _ b3;refine⟨bm,ob,b1,b2,λq=>?_,λq=>?_,y,b4,b5,b6⟩
  .obtain⟨o,es,ep,e,hd,_⟩:=hg;rw[<-q,y]at e;cases e;rw[hd]at b6;cases b6
  .rw[q,hP]at y;cases y;cases b4
 have T:∀b,H b=none->b≠x:=λb n z=>by rw[z,hT]at n;cases n
 have neL:X.env.locals≠x:=T _ I.free;rcases L _ hm with hnf|⟨j,oc,vs,t,zo,yo,gg⟩
 .refine PySem.W.makeFunction_K (mg:=X.mg) yv I.ok.glob hg lh C hP m hnf hgP O λj k l h' tk hx' B ao hrec htb=>?_;obtain⟨c2,oc,vs,t,e2,bu,hd,hv⟩:=hrec;cases e2;have old:∀b u,H b=some u->b<s.heap.objs.size:=λb u e=>I.hok.lt e;have hcN:H j=none:=I.hok.fresh B;have E:H h'.objs.size=none:=I.hok.fresh (aAs B<|aDx ao);have ncf:j≠h'.objs.size:=aAm ao;have J:Same H (upd (upd H j<|.frz oc (.own j)) h'.objs.size<|.frz (PySem.W.fnMade name qual d body f clos l ((X.mg "__name__").getD .none) j k) (.own h'.objs.size)):=λb u e=>by rw[k9 (t5 e E),k9 (t5 e hcN)];exact e
  have qo:∀b o,b≠x->s.heap.get? b=some o->(h'.push<|PySem.W.fnMade name qual d body f clos l ((X.mg "__name__").getD .none) j k).get? b=some o:=λb o O e=>aAc _ (hx' b o O e);have lts:∀b o,s.heap.get? b=some o->b≠j/\b≠h'.objs.size:=λb o e=>⟨aAm (aAw (aAf e) B),aAm (aAw (aAf e)<|aAs B<|aDx ao)⟩;have I1:=I.step (H':=upd (upd H j<|.frz oc (.own j)) h'.objs.size (.frz (PySem.W.fnMade name qual d body f clos l ((X.mg "__name__").getD .none) j k) (.own h'.objs.size)))
   (h':=h'.push (PySem.W.fnMade name qual d body f clos l ((X.mg "__name__").getD .none) j k)) (g':=s.gens) (t':=tk) (d':=s.drawn) (ch:=[]) (λ_ z=>nomatch z) (λb o _ _ _ e n=>qo b o (T b n) e) (λb o _ _ _ e n=>⟨o.slots,qo b o (T b n) e⟩)
   (λb o _ e n=>by rw[k9 (lts b o e).2,k9 (lts b o e).1];exact n) (λb o _ e=>by
    by_cases O:b=x
    .subst O;exact⟨_,aAc _ htb⟩
    .exact⟨o,qo b o O e⟩) (λb Y e=>J _ _ e) (λb o u e=>J _ _ e) (λb tb e=>J _ _ e) (λm' hm'=>by
    obtain⟨o,es,ep,e,r⟩:=hm';exact⟨o,es,ep,qo _ o neL e,r⟩) (λb u e=>by
    by_cases za:b=h'.objs.size
    .subst za;rw[j3]at e;cases e;exact⟨aAp _ rfl,_,aAp _ rfl⟩
    .rw[k9 za]at e;by_cases hbc:b=j
     .subst hbc;rw[j3]at e;cases e;exact⟨aAc _ bu,_,aAc _ bu⟩
     .rw[k9 hbc]at e;by_cases hbP:b=x
      .subst hbP;rw[hT]at e;cases e;refine⟨_,aAc _ htb,?_,λp hp=>?_⟩
       .rw[aGo];exact TriplesOk_snoc _ _ _ _ m
       .rw[aGo];show eY p.1 (ps.toList++[eh g.line,eh g.col,.ref j])=none\/_;by_cases U:(g.line:Int)=p.1.line/\(g.col:Int)=p.1.col
        .rcases L p hp with h0|⟨c3,oc3,vs3,t3,h0,h1,h2⟩
         .have e1:g.line=p.1.line:=by exact_mod_cast U.1
          have e2:g.col=p.1.col:=by exact_mod_cast U.2
          refine .inr ⟨j,oc,vs,t,?_,by rw[k9 ncf,j3],hd,?_⟩
          .rw[e1,e2];exact codeAmong_snoc _ m h0
          .rw[hu p hp e1.symm e2.symm];exact hv
         .exact .inr ⟨c3,oc3,vs3,t3,tO _ m h0,J _ _ h1,h2⟩
        .rcases L p hp with h0|⟨c3,oc3,vs3,t3,h0,h1,h2⟩
         .exact .inl (KI U _ m h0)
         .exact .inr ⟨c3,oc3,vs3,t3,tO _ m h0,J _ _ h1,h2⟩
      .refine(I.hok b u e).ab8 (λb2 v hc q=>qo b2 v (λz=>?_) q) (λb2 z=>J _ _ z) λb2 u _ z=>J _ _ z;rcases hc with hc|hc
       .exact hbP (hc▸z)
       .rw[z,hT]at hc;cases hc) I.bare
  refine Q6 I1 hN hi hx (show RelV (.ref h'.objs.size) _ from rfl) (λs' I'=>h _ _ s' I' J ⟨j,oc,l,_,k,j3,by rw[k9 ncf,j3],vs,t,hd,hv⟩) hf
 .refine PySem.W.makeFunction_hit (mg:=X.mg) yv I.ok.glob hg lh C hP m zo O λk l h' tk hk hsz=>?_;have E:H h'.objs.size=none:=I.hok.fresh hsz;have I1:=I.laid (a:=h'.objs.size) (o:=.frz (PySem.W.fnMade name qual d body f clos l ((X.mg "__name__").getD .none) j k) (.own h'.objs.size)) (h':=h'.push (PySem.W.fnMade name qual d body f clos l ((X.mg "__name__").getD .none) j k)) (t':=tk)
   (λb u e=>aAc _ (hk b u e)) hsz ⟨aAp _ rfl,_,aAp _ rfl⟩
  refine Q6 I1 hN hi hx (show RelV (.ref h'.objs.size) _ from rfl) (λs' I'=>h _ _ s' I' (j8 E _) ⟨j,oc,l,_,k,j3,j8 E _ _ _ yo,vs,t,gg⟩) hf
end
structure Nst where
 name:Str
 qual:Str
 params:Arguments
 body:List Stmt
 scope:Scope
 pos:Pos
 ps:List Str
 ls:List Str
 fn:List Str
 js:List Nat
 F:Ev->R Out
 mm:List D->List D->R D
 i:Nat
abbrev Nst.stmt (n:Nst):df:=.FunctionDef n.name n.params n.body [] none [] n.scope none n.name n.pos
structure NstOk (X:Cx)(k:Nat)(n:Nst):Prop where
 sc:NScope n.ps n.ls n.fn n.scope
 one:n.ps.length=1
 body:∀(fa:Addr) (cd:Value) (clos:List (Str×Addr)) (A:Around) (outer:List Env) (s:Shared) (H:Hp),Room k (A.deeper (PySem.W.envX n.qual n.scope s.heap.objs.size fa cd clos))->bI (cxM X.prog X.w X.K X.mg X.base (n.ps++(n.ls++n.fn)) (PySem.W.envX n.qual n.scope s.heap.objs.size fa cd clos) A outer s H) n.body n.F
 mm:∀wd ds d,wd.length=n.fn.length->ds.length=n.ps.length->n.mm wd ds=.ok d->M6 (n.F (M7 (ds.map Sl.v) n.ls.length .no (wd.map Sl.v)))=.ok d
 bind:∀(clos:List (Str×Addr)) (doc pm cd ctv:Value) (us:List Value),us.length=n.ps.length->bindArgs (PySem.W.fnX n.name n.qual n.params n.body n.scope clos .none .none doc pm none cd ctv) ⟨us,[]⟩=pure (n.ps.zip us)
 len:n.js.length=n.fn.length
 at_:∀(i j:Nat) (x:Str),n.js[i]?=some j->n.fn[i]?=some x->X.N[j]?=some x/\X.env.scope.names.lookup x=some .cell
 d0:n.params.defaults=[]
 k0:n.params.kw_defaults=[]
 nm:X.N[n.i]?=some n.name
 lc:Loc X.env.scope n.name
 st:X.fn n.name=true\/X.env.scope.names.lookup n.name=some .local
 dbg:(n.name==jh)=false
 cdt:(n.name==ji)=false
structure ClosOk (X:Cx)(n:Nst)(clos:List (Str×Addr)):Prop where
 eq:closureFor n.scope X.env=pure clos
 ann:annTrees n.params none X.env=[]
 qn:qualnameIn X.env n.name n.name=n.qual
 sub:∀x c,clos.lookup x=some c->X.env.cells.lookup x=some c
 has:∀x∈n.fn,∃c,clos.lookup x=some c
def dN:List Nat->Ev->R (List D)
 |[],_=>.ok []
 |j::a,ρ=>(Z8 j ρ).bind λd=>(dN a ρ).bind λb=>.ok (d::b)
theorem QT {K:i6}{l H:Hp}{m O:bb->Prop}{σ:St}{ρ:Ev}(E:EnvOk K l m H O σ ρ):∀{b:List Nat} {wd:List D},dN b ρ=.ok wd->∃wv,Reps K H O wv wd/\wv.length=b.length/\∀(i j:Nat) (v:V),b[i]?=some j->wv[i]?=some v->σ[j]?=some (some v)
 |[],wd,h=>by cases h;exact⟨[],.nil,rfl,λi j v e=>by simp at e⟩
 |j::b,wd,h=>by
  unfold dN at h;cases a:Z8 j ρ with
  |ok d=>
   rw[a,R.aa0]at h;cases f:dN b ρ with
   |ok u=>
    rw[f,R.aa0]at h;cases h;obtain⟨wv,r,n,at_⟩:=QT E f;have:ρ[j]?=some (.v d):=by
     unfold Z8 at a;split at a
     .rename_i q;cases a;exact q
     .cases a
    obtain⟨v,o,p⟩:=E.val j d this;refine⟨v::wv,.cons p r,by simp[n],λi s t g k=>?_⟩;cases i with
    |zero=>simp at g k;subst g k;exact o
    |succ i=>exact at_ i s t (by simpa using g) (by simpa using k)
   |ex z=>rw[f]at h;cases h
   |bad=>rw[f]at h;cases h
  |ex z=>rw[a]at h;cases h
  |bad=>rw[a]at h;cases h
section
def T7 (h:cq)(a:List (Str×bb)):List (bb×Obj):=a.filterMap λp=>(h.get? p.2).map λo=>(p.2,o)
def L5 (e:(T7 h a).lookup b=some o):h.get? b=some o/\∃x,(x,b)∈a:=by
 obtain⟨p,d,q⟩:=aCb.mp (mem_lookup e);cases z:h.get? p.2 with
 |none=>rw[z]at q;cases q
 |some f=>rw[z]at q;have g:(p.2,f)=(b,o):=Option.some.inj q;injection g with i j;subst i j;exact⟨z,p.1,d⟩
def lD (f:(x,b)∈a)(e:h.get? b=some o):∃d,(T7 h a).lookup b=some d:=by
 have:(b,o)∈T7 h a:=aCb.mpr ⟨(x,b),f,by show(h.get? b).map _=_;rw[e];rfl⟩;cases q:(T7 h a).lookup b with
 |some d=>exact⟨d,rfl⟩
 |none=>have:=List.lookup_eq_none_iff.mp q (b,o) this;simp at this
def sk (X:Cx)(n1 n2:Nst)(clos1 clos2:List (Str×bb))(f:Ev->R D)(M:D->(List D->R D)->(List D->R D)->R D):TE:=λσ H Q=>∃d e O ρ b a,EnvOk X.K d e H O σ ρ/\σ[n1.i]?=some (some<|V.ref b)/\σ[n2.i]?=some (some<|V.ref a)/\
 gB H b n1.name n1.qual n1.params n1.body n1.scope clos1/\gB H a n2.name n2.qual n2.params n2.body n2.scope clos2/\RC X H O ((f ρ).bind λg=>(dN n1.js ρ).bind λh=>(dN n2.js ρ).bind λj=>M g (n1.mm h) (n2.mm j)) Q
def zE {n:Nst}{clos a:List (Str×bb)}{k:Nat}{h:N4}{σ:St}{H:Hp}{s:a9}{H9:Hp}{O0 O:bb->Prop}{ρ:Ev}{fa:bb}{wd:List D}(ok:NstOk X k n)(j:ClosOk X n clos)(I:Inv X h σ H s)(E:EnvOk X.K H9 O0 H O σ ρ)
  (hA:∀p∈clos,p∈a) (l:∀x b,(x,b)∈a->X.env.cells.lookup x=some b) (r:gB H fa n.name n.qual n.params n.body n.scope clos) (hw:dN n.js ρ=.ok wd):
  ∀t z,Kp (cQ H (T7 s.heap a)) O t z->KH X.prog X.w X.K X.mg X.base (k+1) 1 (n.mm wd) t z fa:=by
 obtain⟨c',oc,T,pm,U,h1,h2,h3⟩:=r;obtain⟨wv,mo,hl,at_⟩:=QT E hw;have hn:∀b o,(T7 s.heap a).lookup b=some o->H b=none:=λb o q=>by obtain⟨_,x,Y⟩:=L5 q;exact I.freeC x b (l x b Y)
 have N:=dU hn
 suffices B:∀t z,Kp (cQ H<|T7 s.heap a) O t z->KH X.prog X.w X.K X.mg X.base (k+1) n.ps.length (n.mm wd) t z fa by rw[ok.one]at B;exact B
 refine ij (cs:=T7 s.heap a) (wv:=wv) (wd:=wd) (F:=n.F) ok.sc (λA g s H hr=>ok.body fa (.ref c') clos A g s H hr) (λds d qd e=>ok.mm wd ds d (by rw[<-mo.length,hl,ok.len]) qd e) (λs us qd=>.of_eq (ok.bind clos T pm (.ref c') U us qd)) (N _ _ h1) (N _ _ h2) h3
  (λb o q=>⟨dR q,?_⟩) (λi x v C q2=>?_) (λx c q=>?_) (λx y c C q2=>I.ok.inj x y c (j.sub x c C) (j.sub y c q2)) (by rw[hl,ok.len]) (mo.same N) (E.grow N).trk
 .obtain⟨e1,x,Y⟩:=L5 q;obtain⟨v,o',e2,e3⟩:=I.cell x b (l x b Y);rw[e1]at e2;cases e2;exact⟨v,e3⟩
 .have hi:i<n.js.length:=by rw[ok.len];exact(aAC.mp C).1
  have ej:n.js[i]?=some n.js[i]:=aAg hi;obtain⟨hN,hk⟩:=ok.at_ i _ x ej C;have hσ:=at_ i _ v ej q2;obtain⟨m,hns,J⟩:=I.loc;obtain⟨u,ru,L⟩:=J _ x v hN hσ (.inr (.inl hk));rcases L with⟨km,_⟩|⟨_,c,jg,o,Q,hd⟩
  .have f:X.env.scope.names.lookup x=some .local:=km;rw[hk]at f;cases f
  .obtain⟨c2,q3⟩:=j.has x (aAu C);have q4:=j.sub x c2 q3;rw[jg]at q4;cases q4;obtain⟨o',q5⟩:=lD (hA _<|PySem.mem_of_lookup q3) Q;have:=(L5 q5).1;rw[Q]at this;cases this;exact⟨c,u,o,q3,q5,hd,ru⟩
 .obtain⟨v,o,Q,_⟩:=I.cell x c (j.sub x c q);exact lD (hA _<|PySem.mem_of_lookup q) Q
def VW (ue:NstOk X k n1)(uf:NstOk X k n2)(zc:ClosOk X n1 clos1)(jo:ClosOk X n2 clos2)(J:∀x b,(x,b)∈clos1++clos2->X.env.cells.lookup x=some b)(FF:FnOk X.prog X.w X.K X.mg X.base wD kf g gd L (spF X.K (KH X.prog X.w X.K X.mg X.base (k+1) 1) M))(hr:Room kf X.A)(U:X.mg x=some (.ref g))(hk:PySem.W.keepIn X.K (.ref g)=true)(n:Binds X.K gd L [])(h3:L.length=3)(he:PD X e f)(yn:∀y,X.fn y=true)(hg:Gl X x:=by rfl)(jc:(x==jh)=false:=by decide)(hs1:ar [e,.Name n1.name Y,.Name n2.name t] X.env=(false,dm e X.env)::ar [.Name n1.name Y,.Name n2.name t] X.env:=by rfl)(hs2:ar [.Name n1.name Y,.Name n2.name t] X.env=(false,dm (.Name n1.name Y) X.env)::ar [.Name n2.name t] X.env:=by rfl)(hs3:ar [.Name n2.name t] X.env=(false,dm (.Name n2.name t) X.env)::ar [] X.env:=by rfl)(bo:(cz pos (ar [.Name n1.name Y,.Name n2.name t] X.env)).any (·.1)=false:=by rfl):
  PE X (.Call (.Name x p) [e,.Name n1.name Y,.Name n2.name t] [] pos) (sk X n1 n2 clos1 clos2 f M):=by
 rintro pins s σ H Q I ⟨H9,O0,O,ρ,zb,fa2,E,h1,h2,md1,md2,q⟩;have vis:∀{y:Str},Loc X.env.scope y->BN X.env.scope y:=λh=>h.elim .inl λz=>.inr (.inl z);have qc:PA X [e,.Name n1.name Y,.Name n2.name t] _:=K3 he (K3 (R6 ue.nm (vis ue.lc) ue.dbg ue.cdt) (K3 (R6 uf.nm (vis uf.lc) uf.dbg uf.cdt) bJ hs3) hs2) hs1;refine aAW (wF I hg U ?_ jc);refine PySem.W.callWith_K (h₀:=X.base) I.ok.mod.kin hk (F7 (qc pos pins s σ H (λvs i=>∃v1 N w1 w2 d,vs=[v1,.ref zb,.ref fa2]/\Same H i/\Rep X.K i O v1 N/\dN n1.js ρ=.ok w1/\dN n2.js ρ=.ok w2/\M N (n1.mm w1) (n2.mm w2)=.ok d/\∀v l,Same i l->Rep X.K l O v d->Q v l) I ⟨H9,O0,O,ρ,E,?_⟩) λus B z9=>?_) hs1 bo
 .cases e1:f ρ with
  |ex z=>rw[e1]at q;exact q
  |bad=>rw[e1]at q;exact q
  |ok N=>
   rw[e1,R.aa0]at q;cases C:dN n1.js ρ with
   |ex z=>rw[C]at q;exact(q H<|Same.refl _).elim
   |bad=>rw[C]at q;exact q.elim
   |ok w1=>
    rw[C,R.aa0]at q;cases e3:dN n2.js ρ with
    |ex z=>rw[e3]at q;exact(q H<|Same.refl _).elim
    |bad=>rw[e3]at q;exact q.elim
    |ok w2=>
     rw[e3,R.aa0]at q;cases e4:M N (n1.mm w1) (n2.mm w2)with
     |ex z=>rw[e4]at q;exact(q H<|Same.refl _).elim
     |bad=>rw[e4]at q;exact q.elim
     |ok d=>rw[e4]at q;exactλv1 i B r1=>⟨_,h1,_,h2,v1,N,w1,w2,d,rfl,B,r1,rfl,rfl,e4,λv l s2 r2=>q v l (B.trans s2) r2⟩
 .obtain⟨vs,i,a,r,v1,N,w1,w2,d,ev,sm,r1,c1,c2,em,qq⟩:=z9;refine⟨a.kIn,?_⟩;subst ev;have E1:=E.grow sm;generalize xl:T7 B.heap (clos1++clos2)=j;have hn:∀b o,j.lookup b=some o->B.heap.get? b=some o/\i b=none/\vW o:=λb o z=>by rw[<-xl]at z;obtain⟨e1,y,U⟩:=L5 z;obtain⟨v,o',C,e3⟩:=a.cell y b (J y b U);rw[e1]at C;cases C;exact⟨e1,a.freeC y b (J y b U),v,e3⟩
  have hn0:∀b o,j.lookup b=some o->i b=none:=λb o z=>(hn b o z).2.1;have T:Same i (cQ i j):=dU hn0;have E2:=E1.grow T;have m:=a.af4;have nofr:∀b o,j.lookup b=some o->b∉wZ X.stack:=λb o z n=>by
   rw[<-xl]at z;obtain⟨_,y,hmy⟩:=L5 z;rcases aAd.mp (a.ab5 b n)with e|n
   .exact a.cne y b (J y b hmy) e
   .obtain⟨_,o',ho,_⟩:=a.ok.funs.mem n;exact absurd (aAw (aAf ho)<|a.ok.cab y b (yn y)<|J y b hmy) (aBf _)
  have nob:∀b o,X.base.get? b=some o->j.lookup b=none:=λb o e=>by
   cases z:j.lookup b with
   |none=>rfl
   |some o'=>rw[<-xl]at z;obtain⟨_,y,U⟩:=L5 z;exact absurd (aAw (aAf e)<|aAs a.ok.bsz<|a.ok.cab y b (yn y)<|J y b U) (aBf _)
  have C:Env0 X.prog X.w X.K X.mg X.base X.A X.stack B (cQ i j):=⟨m.frames,m.mod,λb o e=>⟨(m.bs b o e).1,by rw[R0 (nob b o e)];exact(m.bs b o e).2⟩,m.bsz,m.funs,λb n=>by
   cases z:j.lookup b with
   |none=>rw[R0 z];exact m.frf b n
   |some o=>exact absurd n (nofr b o z),NI m.hok λb o z=>⟨(hn b o z).1,(hn b o z).2.1⟩,m.bare⟩
  have cl1:=zE ue zc a E1 (λp hp=>aBs _ hp) J (md1.same sm) c1;have cl2:=zE uf jo a E1 (λp hp=>aAG _ hp) J (md2.same sm) c2;rw[xl]at cl1 cl2;have hl:us.length=L.length:=by rw[<-r.length,h3];rfl
  have hbs:=n B us a.kIn (by rw[aCo];exact hl);rw[aCo]at hbs;refine wpAny_call (aDU (FF.run X.A X.stack B (cQ i j) ⟨us,[]⟩ us _ (λv l=>Q v (Q8 l j)) (λ_ _ _=>False) hr C hbs r ⟨O,v1,N,zb,_,fa2,_,d,rfl,r1.same T,cl1,cl2,E2.trk,E2.tab,uF a O E1.trk,em,λv l s2 r2=>?_⟩) λrr s' hq=>?_)
  .have hz:∀b o,j.lookup b=some o->l b=some (.frz o (.own b)):=λb o z=>s2 _ _ (dR z);refine qq v _ (λb u e=>x5 hz (s2 b u<|T b u e) λo z _=>?_) (r2.hid hz);rw[hn0 b o z]at e;cases e
  .cases rr with
   |error e=>exact hq.elim
   |ok fl=>
    cases fl with
    |next=>exact aAk hq
    |brk=>exact aAk hq
    |cont=>exact aAk hq
    |ret u=>obtain⟨v,l,os,bare,un,hok,rv,qv⟩:=hq;obtain⟨U2,k2,_⟩:=ZN un hok hn;exact a.after ⟨v,_,os,bare,U2,k2,rv,qv⟩
def HU (a:NstOk X k n1)(h:NstOk X k n2)(u:ClosOk X n1 clos1)(B:ClosOk X n2 clos2)(hA:∀x b,(x,b)∈clos1++clos2->X.env.cells.lookup x=some b)(hB:iM X.mg X.base)(lh:X.env.code=.ref c)(hK:PySem.W.codeHdIn X.K c Pt=true)(l:(Pt,tb)∈Tabs.tbs)(L:(n1.pos,n1.qual)∈tb)(ki:(n2.pos,n2.qual)∈tb)(gc:∀p∈tb,p.1.line=n1.pos.line->p.1.col=n1.pos.col->p.2=n1.qual)(Q:∀p∈tb,p.1.line=n2.pos.line->p.1.col=n2.pos.col->p.2=n2.qual)(af:n1.i≠n2.i)(hN:X.N.Nodup)(FF:FnOk X.prog X.w X.K X.mg X.base wD kf g gd m (spF X.K (KH X.prog X.w X.K X.mg X.base (k+1) 1) M))(hr:Room kf X.A)(hm:X.mg x=some (.ref g))(hk:PySem.W.keepIn X.K (.ref g)=true)(hb:Binds X.K gd m [])(h3:m.length=3)(he:PD X e f)(yn:∀y,X.fn y=true)(hg:Gl X x:=by rfl)(jc:(x==jh)=false:=by decide)(T:ar [e,.Name n1.name n,.Name n2.name j] X.env=(false,dm e X.env)::ar [.Name n1.name n,.Name n2.name j] X.env:=by rfl)(U:ar [.Name n1.name n,.Name n2.name j] X.env=(false,dm (.Name n1.name n) X.env)::ar [.Name n2.name j] X.env:=by rfl)(Y:ar [.Name n2.name j] X.env=(false,dm (.Name n2.name j) X.env)::ar [] X.env:=by rfl)(bo:(cz pos (ar [.Name n1.name n,.Name n2.name j] X.env)).any (·.1)=false:=by rfl):
  bI X [n1.stmt,n2.stmt,.Return (some (.Call (.Name x p) [e,.Name n1.name n,.Name n2.name j] [] pos)) rpos] (λρ=>((f ((ρ.set n1.i .no).set n2.i .no)).bind λd1=>(dN n1.js ((ρ.set n1.i .no).set n2.i .no)).bind λw1=>(dN n2.js ((ρ.set n1.i .no).set n2.i .no)).bind λw2=>M d1 (n1.mm w1) (n2.mm w2)).bind λd=>.ok (.rt d)):=by
 rintro H9 O0 o s σ H D I ⟨O,ρ,E,fk,q⟩;refine aEs (zI (σ:=σ) I hB lh hK (E.tab _ l) u.qn L gc u.eq a.d0 a.k0 u.ann hN a.nm a.lc a.st λC H1 s1 I1 sm1 md1=>?_);have E1:EnvOk X.K H9 O0 H1 O (σ.set n1.i<|some<|.ref C) (ρ.set n1.i .no):=(E.grow sm1).put n1.i (λz=>z) trivial;refine aEs (zI (σ:=σ.set n1.i (some<|.ref C)) I1 hB lh hK (E1.tab _ l) B.qn ki Q B.eq h.d0 h.k0 B.ann hN h.nm h.lc h.st λt H2 s2 I2 yu md2=>?_);have J:EnvOk X.K H9 O0 H2 O ((σ.set n1.i<|some<|.ref C).set n2.i (some<|.ref t)) ((ρ.set n1.i .no).set n2.i .no):=(E1.grow yu).put n2.i (λz=>z) trivial;have l1:n1.i<σ.length:=by rw[I.len];exact(aAC.mp a.nm).1
 have l2:n2.i<σ.length:=by rw[I.len];exact(aAC.mp h.nm).1
 refine FG (QN<|VW a h u B hA FF hr hm hk hb h3 he yn hg jc T U Y bo) o s2 _ H2 D I2 ⟨H9,O0,O,_,C,t,J,?_,?_,md1.same yu,md2,?_⟩
 .rw[aCw (aBW af),aBJ l1]
 .rw[aBJ (by rw[aFW];exact l2)]
 .revert q;dsimp only;generalize((f<|(ρ.set n1.i .no).set n2.i .no).bind λd1=>(dN n1.js<|(ρ.set n1.i .no).set n2.i .no).bind λw1=>(dN n2.js<|(ρ.set n1.i .no).set n2.i .no).bind λw2=>M d1 (n1.mm w1) (n2.mm w2))=rr;intro q;cases rr with
  |ok d=>exactλv H' s r=>q v H' (J.same.trans s) (r.sub J.sub)
  |ex z=>exactλH' s=>q H' (J.same.trans s)
  |bad=>exact q
end
def uY (K:i6):Sp:=λd H Q _=>∃(a:bb) (b:List Int),d=[.ref a]/\N2 K H a (b.map V.int)/\b.length<=63/\(∀x∈b,aBe x<=1048576)/\Tb H/\∀e,Q (.bl true) e
def UT {P:be}{w:cp}{K:i6}{mg:cH}{base:cq}{k:Nat}{f:bb}{fd:dn}{m:List D->R D}(F:FnOk P w K mg base wD k f fd ["script"] (jz K 1 m))
  (h:∀ns:List Int,ns.length<=63->(∀x∈ns,aBe x<=1048576)->m [.lst (ns.map D.int)]=.ok (.bl true)):FnOk P w K mg base wD k f fd ["script"] (uY K):=
 F.imp<|by rintro l H Q E ⟨a,ns,e,b,d,g,i,q⟩;exact⟨λ_=>False,_,_,by rw[e];exact .cons (.lst b (λz=>z) (Reps.ints ns)) .nil,rfl,λ_ z=>z.elim,i,λ_ _ _ z=>z,h ns d g,λv j _ r=>by cases r;exact q j⟩
def HN {P:be}{w:cp}{K:i6}{mg mb:cH}{k:Nat}{fa a:bb}{fd:dn}{f:a9}{vs:List ae}{ns:List Int}
  (KX:K.In f.heap) (L:f.heap.Ns bg mg) (j:f.heap.Ns builtinsNs mb) (hbb:∀x:Str,x≠ "__name__"->mb x=cv x) (N:f.heap.NoLimit) (hB:iM mg f.heap) (hg:f.gens=#[])
  (O:f.heap.get? a=some {cls:=.type "list",data:=.seq vs.toArray}) (hi:IntsAre vs ns) (hl:ns.length<=63) (xt:∀x∈ns,aBe x<=1048576) (hr:Room k callerA)
  (hT:∀p∈Tabs.tbs,f.heap.get? p.1=some (PySem.W.tabObj #[])/\isCodeTable f.heap p.1) (hTd:(Tabs.tbs.map (·.1)).Nodup) (hKn:PySem.W.noTabs K=true)
  (F:∀base:cq,K.In base->base.Ns bg mg->iM mg base->FnOk P w K mg base wD k fa fd ["script"] (uY K)) (xr:∀(s:a9) (u:ae),BindsTo s fd ⟨[u],[]⟩ [("script",u)]):
  fh (bc P w) callerA (.call (.ref fa) ⟨[.ref a],[]⟩) (λr s'=>r=.ok (.ret (.bool true))/\OldK f.heap s'.heap/\s'.os=f.os/\AllBare s'.gens) f:=by
 have rv:=L2.U5 hi;have Q:=hi.length;have je:ns.length<=sizeLine:=aAs hl (by decide);have E:∀b i,Tabs.tbs.lookup b=some i->f.heap.get? b=some (PySem.W.tabObj #[])/\isCodeTable f.heap b:=λb i e=>hT (b,i) (mem_lookup e);have nta:Tabs.tbs.lookup a=none:=by
  cases e:Tabs.tbs.lookup a with
  |none=>rfl
  |some i=>have:=(E a i e).1;rw[O]at this;cases this
 have noK:∀b o,K.lookup b=some o->Tabs.tbs.lookup b=none:=λb o e=>by
  cases z:Tabs.tbs.lookup b with
  |none=>rfl
  |some i=>have T:=KX b o e;rw[(E b i z).1]at T;cases T;have l:=aBE.mp hKn (b,_) (PySem.W.mem_of_lookupK e);exact absurd (show false=true from l) aBb
 let put:Hp->Hp:=λH b=>match Tabs.tbs.lookup b with
  |some i=>some (.tbl i)
  |none=>H b
 have pW:∀(H:Hp) b i,Tabs.tbs.lookup b=some i->put H b=some (.tbl i):=λH b i e=>by show(match Tabs.tbs.lookup b with|some i=>some (HO.tbl i)|none=>H b)=_;rw[e]
 have I:∀(H:Hp) b,Tabs.tbs.lookup b=none->put H b=H b:=λH b e=>by show(match Tabs.tbs.lookup b with|some i=>some (HO.tbl i)|none=>H b)=_;rw[e]
 have y:∀g:Hp,(∀b,g b=none\/∃Y,g b=some (.frz {cls:=.type "list",data:=.seq vs.toArray} (.lst Y)))->N2 K (put g) a (ns.map V.int)->(∀b u,g b=some u->ObjOk P w (put g) f.heap b u)->(∀b,g b≠none->b=a)->(g a≠none->K.lookup a=none)->
   fh (bc P w) callerA (.call (.ref fa) ⟨[.ref a],[]⟩) (λr s'=>r=.ok (.ret (.bool true))/\OldK f.heap s'.heap/\s'.os=f.os/\AllBare s'.gens) f:=by
  intro g hO hS U hA hK;have hok:fD P w (put g) f.heap:=λb u e=>by
   cases z:Tabs.tbs.lookup b with
   |none=>rw[I _ b z]at e;exact U b u e
   |some i=>rw[pW _ b i z]at e;cases e;exact⟨#[],(E b i z).1,trivial,λp _=>.inl rfl⟩
  have pg:∀{b:bb} {o:Obj},f.heap.get? b=some o->put g b=none->(rN f.heap<|put g).get? b=some o:=λe n=>MY e n;have none_of:∀{b:bb} {o:Obj},f.heap.get? b=some o->o≠PySem.W.tabObj #[]->o≠{cls:=.type "list",data:=.seq vs.toArray}->put g b=none:=λ{b o} e n1 n2=>by
   cases z:Tabs.tbs.lookup b with
   |some i=>have:=(E b i z).1;rw[e]at this;exact absurd (Option.some.inj this) n1
   |none=>
    rw[I _ b z];cases q:g b with
    |none=>rfl
    |some u=>have e':b=a:=hA b (by rw[q];simp);subst e';rw[O]at e;exact absurd (Option.some.inj e).symm n2
  have t:∀{b:bb} {m:cH},f.heap.Ns b m->(rN f.heap<|put g).Ns b m:=λ{b m} ⟨o,es,ep,e,d,r⟩=>⟨o,es,ep,pg e (none_of e (λz=>by rw[z]at d;cases d) λz=>by rw[z]at d;cases d),d,r⟩;have hKb:K.In (rN f.heap<|put g):=λb o e=>pg (KX b o e) (by
   rw[I _ b (noK b o e)];cases q:g b with
   |none=>rfl
   |some u=>have e':b=a:=hA b (by rw[q];simp);subst e';rw[hK (by rw[q];simp)]at e;cases e)
  have hBb:iM mg (rN f.heap<|put g):=by obtain⟨bm,ob,b1,b2,b3,b4,b5,b6⟩:=hB;exact⟨bm,ob,b1,b2,pg b3 (none_of b3 (λz=>by rw[z]at b6;cases b6) λz=>by rw[z]at b6;cases b6),b4,b5,b6⟩
  have hM:Mod K mg (rN f.heap<|put g):=⟨hKb,t L,⟨mb,t j,hbb⟩,let⟨mc,A,l⟩:=N;⟨mc,t A,l⟩⟩;have e0:Env0 P w K mg (rN f.heap<|put g) callerA [] f (put g):=⟨rfl,hM,λb o e=>WH e,aEn (JR _ _),trivial,λb j=>absurd (show b∈([]:List bb)from j) (by simp),hok,.of_eq hg⟩;have tb0:Tb (put g):=λp hp=>pW _ p.1 p.2 (aV hTd hp);refine aDU ((F _ hKb (t L) hBb).run callerA [] f (put g) ⟨[.ref a],[]⟩ [.ref a] [.ref a] (λv _=>v=.bl true) (λ_ _ _=>False) hr e0 (xr f<|.ref a) (.cons rfl .nil) ⟨a,ns,rfl,hS,hl,xt,tb0,λ_=>rfl⟩) λr s' h=>?_;cases r with
  |error e=>exact(show False from h).elim
  |ok fl=>
   cases fl with
   |next=>exact aAk h
   |brk=>exact aAk h
   |cont=>exact aAk h
   |ret u=>
    obtain⟨v,H',os,bare,un,B,r',q⟩:=h;have q':v=.bl true:=q;subst q';obtain rfl:u=aDk true:=r';have C:∀b o,f.heap.get? b=some o->s'.heap.get? b=some o\/(isCodeTable f.heap b/\o=PySem.W.tabObj #[]/\∃J,s'.heap.get? b=some (PySem.W.tabObj J)):=λb o e=>by
     cases z:Tabs.tbs.lookup b with
     |some i=>have:=(E b i z).1;rw[e]at this;obtain⟨J,hps,_⟩:=B b _ (un.tbls b i<|pW _ b i z);exact .inr ⟨(E b i z).2,Option.some.inj this,J,hps⟩
     |none=>
      refine .inl ?_;rcases hO b with n|⟨Y,n⟩
      .exact un.keep b o e (by rw[I _ b z];exact n) (by intro z;exact absurd (show b∈([]:List bb)from z) (by simp)) (by simp)
      .have z1:put g b=some (.frz {cls:=.type "list",data:=.seq vs.toArray} (.lst Y)):=by rw[I _ b z];exact n
       have z2:=un.frzs b _ _ z1;obtain⟨T,_⟩:=hok b _ z1;obtain⟨e2,_⟩:=B b _ z2;rw[e]at T;cases T;exact e2
    refine⟨rfl,⟨λb o e=>?_,λb o e=>?_⟩,os,bare⟩
    .rcases C b o e with h|⟨A,l,J,h3⟩
     .exact .inl h
     .subst l;exact .inr (.inl ⟨A,rfl,#[],J,rfl,by rw[Array.empty_append];exact h3⟩)
    .rcases C b o e with h|⟨A,l,J,h3⟩
     .exact⟨o,h⟩
     .exact⟨_,h3⟩
 cases hk:K.lookup a with
 |some o=>have e:=KX a o hk;rw[O]at e;cases e;refine y (λ_=>none) (λ_=>.inl rfl) (.inr ⟨_,vs.toArray,_,hk,rfl,rfl,rfl,by rw[aAn,Q];exact je,by simpa using rv⟩) (λb u z=>by have z':(none:Option HO)=some u:=z;cases z') (λb z=>absurd rfl z) λz=>absurd rfl z
 |none=>
  obtain⟨g,A,l⟩:∃g:Hp,g a=some (.frz {cls:=.type "list",data:=.seq vs.toArray} (.lst (ns.map V.int)))/\∀b,b≠a->g b=none:=⟨λb=>if b=a then _ else none,h9 rfl,λb j=>ib j⟩;refine y g (λb=>?_) (.inl (.inr ⟨{cls:=.type "list",data:=.seq vs.toArray},(I g a nta).trans A⟩)) (λb u z=>?_) (λb z=>?_) λ_=>hk
  .by_cases j:b=a
   .subst j;exact .inr ⟨_,A⟩
   .exact .inl (l b j)
  .by_cases j:b=a
   .subst j;rw[A]at z;cases z;exact⟨O,by rw[aAj];exact je,vs,_,rv,O⟩
   .rw[l b j]at z;cases z
  .by_cases j:b=a
   .exact j
   .exact absurd (l b j) z
def TR {l:PySem.W.OpenLaw}{k:Nat}{q:be}{e:List Str}{B:(Str->Option ae)->cq->Prop}{y:cp->cq->Prop}{d:DefRec}{K:Params->i6}{z:List bb}
  (C:l.most=some 63) (n:d.params.defaults=[]) (E:Room k callerA)
  (H:∀(w:cp) (h:cq),y w h->(K w.params).In h/\∀P∈z,h.get? P=some (PySem.W.tabObj #[]))
  (r:∀p∈Tabs.tbs,p.1∈z/\∃c,∀w:cp,PySem.W.codeHdIn (K w.params) c p.1=true) (t:(Tabs.tbs.map (·.1)).Nodup) (v:∀w:cp,PySem.W.noTabs (K w.params)=true)
  (F:∀(w:cp) (mg:cH) (fa:bb) (h:cq),(K w.params).In h->h.Ns bg mg->mg d.name=some (.ref fa)->
   ∃fd:dn,(∀(s:a9) (u:ae),BindsTo s fd ⟨[u],[]⟩ [("script",u)])/\
    ∀base:cq,(K w.params).In base->base.Ns bg mg->iM mg base->FnOk l.prog w (K w.params) mg base wD k fa fd ["script"] (uY (K w.params))):
  PySem.W.WalkO q e B y l.row.toRowW d [] (λf vs=>PySem.call f vs):=by
 refine Att2.attach_bits C n λw s9 aa mg mb fa o pm cd I a vs ns G Y ho hd gg J j i m L N=>?_;obtain⟨x,O⟩:=H w _ Y;obtain⟨fd,Q,U⟩:=F w mg fa _ x G.T.g J;refine HN x G.T.g G.T.b G.T.builtins G.T.nolimit G.T.bmain N j i m L E (λp hp=>?_) t (v w) U Q;obtain⟨h1,c,h2⟩:=r p hp;have A:=O p.1 h1;exact⟨A,((PySem.W.codeHd_of_K x<|h2 w).tab A).isCodeTable⟩
section
def pz {Y es:List cu}{p:Pos}{env:Env}:ar (.List Y p::es) env=(false,dm (.List Y p) env)::ar es env:=rfl
def jy {Y:List cu}{p:Pos}{t:Option cu}{l:Nat}{env:Env}:ek (Expr.List Y p) t l env=pure false:=rfl
end
end
end DL
namespace DL
open PySem L2
def T0 (G:D->Ev->R Ev)(F:Ev->R Out)(d:D)(ρ:Ev):R Out:=match G d ρ with
 |.ok a=>F a
 |_=>.bad
@[simp]def gF (i:Nat)(F:Ev->R Out)(d:D)(ρ:Ev):T0 (λd ρ=>.ok (ρ.set i (Sl.v d))) F d ρ=F (ρ.set i (.v d)):=rfl
theorem tE (Iv:Ev->Prop):∀{ds:List D} {ρ:Ev},(∀d∈ds,∀ρ,Iv ρ->∃ρ2,T0 G F d ρ=.ok (.nx ρ2)/\Iv ρ2)->Iv ρ->∃a,R8 G F ds ρ=.ok (.nx a)/\Iv a
 |[],ρ,_,h=>⟨ρ,rfl,h⟩
 |d::ds,ρ,f,h=>by
  obtain⟨ρ2,e,g⟩:=f d aAN ρ h;obtain⟨a,i,j⟩:=tE Iv (ds:=ds) (ρ:=ρ2) (λd k=>f d (aAe _ k)) g;unfold T0 at e;cases b:G d ρ with
  |ok l=>rw[b]at e;exact⟨a,by rw[R8,b];dsimp only at e⊢;rw[e];exact i,j⟩
  |ex x=>rw[b]at e;cases e
  |bad=>rw[b]at e;cases e
def LG (Iv:Ev->Prop)(b:∀d∈ds,∀ρ,Iv ρ->∃ρ2,T0 G F d ρ=.ok (.nx ρ2)/\Iv ρ2)(h0:Iv ρ)(f:∀a,Iv a->M6 (g a)=.ok d):
  M6 (C4 (R8 G F ds ρ) g)=.ok d:=by
 obtain⟨a,e,h⟩:=tE Iv b h0;rw[e];exact f a h
@[simp]def wz (G:D->Ev->R Ev)(F:Ev->R Out)(ρ:Ev):R8 G F [] ρ=.ok (.nx ρ):=rfl
def OZ {α:Type}{a b:α}:(R.ok a=R.ok b)=(a=b):=by simp
class Bd (a:Int)(n:outParam Nat):Prop where
 h:bits a<=n
def j7 (h:bits a<=m)(b:m<=n):bits a<=n:=aAs h b
section
end
abbrev vd (v:G.V):D:=.tup [.int v.x,.int v.y,.int v.z]
def Sz (n:Nat)(v:G.V):Prop:=bits v.x<=n/\bits v.y<=n/\bits v.z<=n
def Sz.mono (h:Sz m v)(a:m<=n:=by decide):Sz n v:=⟨j7 h.1 a,j7 h.2.1 a,j7 h.2.2 a⟩
def Sz.sub (h:Sz n u)(h':Sz n v):Sz (n+1) (u-v):=⟨bits_sub h.1 h'.1,bits_sub h.2.1 h'.2.1,bits_sub h.2.2 h'.2.2⟩
def Sz.add (h:Sz n u)(h':Sz n v):Sz (n+1) (u+v):=⟨bits_add h.1 h'.1,bits_add h.2.1 h'.2.1,bits_add h.2.2 h'.2.2⟩
def Sz.cr (h:Sz m u)(h':Sz n v):Sz (m+n+1) (G.cr u v):=⟨bits_sub (bits_mul h.2.1 h'.2.2) (bits_mul h.2.2 h'.2.1),bits_sub (bits_mul h.2.2 h'.1) (bits_mul h.1 h'.2.2),bits_sub (bits_mul h.1 h'.2.1) (bits_mul h.2.1 h'.1)⟩
end DL
namespace M
open PySem L2 DL
abbrev pt (a b c:Int):D:=.tup [.int a,.int b,.int c]
abbrev WS (n:Nat)(a b c:Int):Prop:=bits a<=n/\bits b<=n/\bits c<=n
def JB (k:List D->List D->R D):List D->R D
 |.lst Y::a=>k Y a
 |_=>.bad
def RD (k:List D->List D->R D):List D->R D
 |.tup Y::a=>k Y a
 |_=>.bad
def sK (k:Int->List D->R D):List D->R D
 |.int a::b=>k a b
 |_=>.bad
def W5 {k:Int->List D->R D}{ds:List D}{r:D}(h:sK k ds=.ok r):∃a e,ds=.int a::e/\k a e=.ok r:=by
 unfold sK at h;split at h
 .exact⟨_,_,rfl,h⟩
 .cases h
def mL (q:R D):List D->R D
 |[]=>q
 |_=>.bad
def jG (h:JB k ds=.ok r):∃Y e,ds=.lst Y::e/\k Y e=.ok r:=by
 unfold JB at h;split at h
 .exact⟨_,_,rfl,h⟩
 .cases h
def uL (h:RD k ds=.ok r):∃Y e,ds=.tup Y::e/\k Y e=.ok r:=by
 unfold RD at h;split at h
 .exact⟨_,_,rfl,h⟩
 .cases h
def B5 (h:mL q ds=.ok r):ds=[]/\q=.ok r:=by
 unfold mL at h;split at h
 .exact⟨rfl,h⟩
 .cases h
def v1 (k:Int->Int->Int->List D->R D):List D->R D:=RD λY e=>sK (λa=>sK λb=>sK λc=>mL (k a b c e)) Y
def v4 (k:Int->Int->Int->Int->List D->R D):List D->R D:=RD λY e=>sK (λa=>sK λb=>sK λc=>sK λd=>mL (k a b c d e)) Y
def v3 (k:Int->Int->Int->List D->R D):List D->R D:=RD λY e=>sK (λa=>sK λb=>sK λc _=>k a b c e) Y
def XQ (h:v3 k ds=.ok r):∃a b c t e,ds=.tup (.int a::.int b::.int c::t)::e/\k a b c e=.ok r:=by obtain⟨Y,e,rfl,h⟩:=uL h;obtain⟨a,x,rfl,h⟩:=W5 h;obtain⟨b,y,rfl,h⟩:=W5 h;obtain⟨c,z,rfl,h⟩:=W5 h;exact⟨a,b,c,z,e,rfl,h⟩
def F5 (h:v1 k ds=.ok r):∃a b c e,ds=.tup [.int a,.int b,.int c]::e/\k a b c e=.ok r:=by obtain⟨Y,e,rfl,h⟩:=uL h;obtain⟨a,x,rfl,h⟩:=W5 h;obtain⟨b,y,rfl,h⟩:=W5 h;obtain⟨c,z,rfl,h⟩:=W5 h;obtain⟨rfl,h⟩:=B5 h;exact⟨a,b,c,e,rfl,h⟩
def XN (h:v4 k ds=.ok r):∃a b c d e,ds=.tup [.int a,.int b,.int c,.int d]::e/\k a b c d e=.ok r:=by obtain⟨Y,e,rfl,h⟩:=uL h;obtain⟨a,x,rfl,h⟩:=W5 h;obtain⟨b,y,rfl,h⟩:=W5 h;obtain⟨c,z,rfl,h⟩:=W5 h;obtain⟨d,w,rfl,h⟩:=W5 h;obtain⟨rfl,h⟩:=B5 h;exact⟨a,b,c,d,e,rfl,h⟩
def l6:List D->R D:=v1 λa b c=>v1 λd e f=>mL (.ok (pt (d-a) (e-b)<|f-c))
def v7:List D->R D:=v1 λa b c=>v1 λd e f=>mL (if WS 20000000 a b c/\WS 20000000 d e f then .ok (pt (b*f-c*e) (c*d-a*f)<|a*e-b*d)else .bad)
def l5:List D->R D:=v3 λa b c=>v1 λd e f=>mL (if WS 50000000 a b c/\WS 50000000 d e f then .ok (.int (a*d+b*e+c*f))else .bad)
@[simp]def wK (P Q:G.V):l6 [vd P,vd Q]=.ok (vd (Q-P)):=rfl
def Z9 (a:Sz 20000000 u)(b:Sz 20000000 v):v7 [vd u,vd v]=.ok (vd (G.cr u v)):=h9 ⟨a,b⟩
def dZ (a:Sz 50000000 u)(b:Sz 50000000 v):l5 [vd u,vd v]=.ok (.int (G.b9 u v)):=h9 ⟨a,b⟩
def rule (k:Int):Int:=7*k*k+10*k+3
def P64:Int:=10^64
def P34:Int:=10^34
def a3h:Int:=P64*P34
def sgn (x:Int):Int:=if 0<x then 1 else if x<0 then-1 else 0
def G2:List D->R D:=v4 λa b c d=>v1 λx y z=>mL (if WS 50000000 a b c/\WS 50000000 x y z then .ok (.int (sgn<|a*x+b*y+c*z-d))else .bad)
def DS (e:WS 50000000 a b c)(f:WS 50000000 x y z):G2 [.tup [.int a,.int b,.int c,.int d],pt x y z]=.ok (.int (sgn (a*x+b*y+c*z-d))):=h9 ⟨e,f⟩
def xw (i:Nat)(ρ:Ev):Nat:=match ρ[i]? with
 |some (.v (.int b))=>b.natAbs+2
 |_=>0
def xE (d:bits a<=n)(f:bits b<=n):bits (aGD a b)<=n:=by
 refine GH ?_;have g:=DY d;have h:=DY f;have e:((aGD a b:Nat):Int).natAbs=aGD a b:=by simp
 rw[e];unfold aGD;rcases Nat.eq_zero_or_pos a.natAbs with z|z
 .rw[z,Nat.gcd_zero_left];exact h
 .exact aDs (Nat.gcd_le_left _ z) g
end M
namespace DL
open PySem PySem.Spec L2
open PyProof.Rows hiding St
theorem U5:∀{ns:List Int} {a:List ae},l8 (ns.map V.int) a->IntsAre a ns
 |[],_,.nil=>.nil
 |n::ns,_,.cons r t=>by obtain⟨b,rfl⟩:=r;exact .cons n b (U5 t)
section
def JF (j:X.calm=true):qC X (.builtin "sum") (λY H Q=>∃(p:bb) (ns:List Int),Y=[.ref p]/\N2 X.K H p (ns.map V.int)/\Q (.int ns.sum) H):=by
 intro f s σ H Y x Q I r h;obtain⟨p,ns,rfl,k,q⟩:=h;obtain⟨u,rfl,l⟩:=vals1 r;cases l;obtain⟨a,m,n,y⟩:=I.list k;have g:=U5 m;obtain⟨b,e⟩:=g.allInts.items;have i:=n.isList;rw[e]at i;refine sum_intListG (I.ok.hd j) i λz A o t=>?_;have v:preSum (numAt b) b.size=ns.sum:=by have d:=nums_intItems b;rw[<-e]at d;have w:=g.numsOf;rw[show a.toArray.toList=a from rfl,w]at d;rw[preSum_eq,aDn (by simp),d]
 rw[v];exact⟨.int ns.sum,H,I.kept t,⟨o,rfl⟩,q⟩
def fG:List D->Option (List Int)
 |[]=>some []
 |.int i::r=>(fG r).map (i::·)
 |_=>none
theorem jI:∀{ds:List D} {ns:List Int},fG ds=some ns->ds=ns.map D.int
 |[],ns,h=>by cases h;rfl
 |.int i::r,ns,h=>by simp only[fG,aDm]at h;obtain⟨m,a,rfl⟩:=h;rw[jI a];rfl
 |.non::_,_,h=>by cases h
 |.bl _::_,_,h=>by cases h
 |.str _::_,_,h=>by cases h
 |.tup _::_,_,h=>by cases h
 |.lst _::_,_,h=>by cases h
 |.dct::_,_,h=>by cases h
theorem wS:∀ns:List Int,fG (ns.map D.int)=some ns
 |[]=>rfl
 |n::ns=>by simp[fG,wS ns]
theorem iY {K:i6}{H:Hp}{O:bb->Prop}:∀{vs:List V} {ns:List Int},Reps K H O vs (ns.map D.int)->vs=ns.map V.int
 |[],[],_=>rfl
 |v::vs,n::ns,.cons h t=>by cases h;rw[iY t];rfl
def VU:List D->R D
 |[.lst Y]=>match fG Y with
  |some a=>.ok (.int a.sum)
  |none=>.bad
 |_=>.bad
variable [Tabs]in
def YT (d:X.calm=true):Y3 X (.builtin "sum") VU:=by
 intro H O h f Q i r q;match f,q with
 |[.lst Y],q=>
  obtain⟨v,rfl,z⟩:=AY r;obtain⟨p,j,rfl,a,b⟩:=z.aa5;simp only[VU]at q;cases e:fG Y with
  |none=>rw[e]at q;exact q.elim
  |some g=>rw[e]at q;rw[jI e]at b;rw[iY b]at a;exact⟨_,JF d,p,g,rfl,a,q _ H (Same.refl _) .int⟩
end
@[simp]def a2t (a b c d:Int):VU [.lst [.int a,.int b,.int c,.int d]]=.ok (.int (a+(b+(c+d)))):=by simp[VU,fG]
theorem sR (Iv:List D->Ev->Prop)(f:∀d ds ρ,Iv (d::ds) ρ->∃ρ2,T0 G F d ρ=.ok (.nx ρ2)/\Iv ds ρ2):∀{ds:List D} {ρ:Ev},Iv ds ρ->∃a,R8 G F ds ρ=.ok (.nx a)/\Iv [] a
 |[],ρ,h=>⟨ρ,rfl,h⟩
 |d::ds,ρ,h=>by
  obtain⟨ρ2,e,g⟩:=f d ds ρ h;obtain⟨a,i,j⟩:=sR Iv f g;unfold T0 at e;cases b:G d ρ with
  |ok k=>rw[b]at e;exact⟨a,by rw[R8,b];dsimp only at e⊢;rw[e];exact i,j⟩
  |ex x=>rw[b]at e;cases e
  |bad=>rw[b]at e;cases e
def cN (Iv:List D->Ev->Prop)(b:∀d ds ρ,Iv (d::ds) ρ->∃ρ2,T0 G F d ρ=.ok (.nx ρ2)/\Iv ds ρ2)(h0:Iv ds ρ)(f:∀a,Iv [] a->M6 (g a)=.ok d):
  M6 (C4 (R8 G F ds ρ) g)=.ok d:=by
 obtain⟨a,e,h⟩:=sR Iv b h0;rw[e];exact f a h
def zJ {Post:Ev->Prop}(Iv:Nat->Ev->Prop)(d:∀n ρ,Iv (n+1) ρ->c ρ=.ok false\/(c ρ=.ok true/\∃ρ2,F ρ=.ok (.nx ρ2)/\Iv n ρ2))(b:∀ρ,¬Iv 0 ρ)(h0:Iv n ρ)(f:∀m a,Iv m a->c a=.ok false->Post a):∃ρ2,R3 c F n ρ=.ok (.nx ρ2)/\Post ρ2:=by obtain⟨m,a,e,h,g⟩:=fY Iv d b n ρ h0;exact⟨a,e,f m a h g⟩
end DL
namespace M
open PySem L2 DL
abbrev fX (n:G.V)(d:Int):D:=.tup [.int n.x,.int n.y,.int n.z,.int d]
def I0:List D->R D:=v1 λa b c=>mL (.ok (.int (G.x8 ⟨a,b,c⟩)))
def CJ (v:G.V):I0 [vd v]=.ok (.int (G.x8 v)):=rfl
def Sz3 (P Q R:G.V):Prop:=Sz 1000 P/\Sz 1000 Q/\Sz 1000 R
open Classical in
def R5:List D->R D:=v1 λa b c=>v1 λd e f=>v1 λg h i=>mL (
 if Sz3 ⟨a,b,c⟩ ⟨d,e,f⟩ ⟨g,h,i⟩/\G.cr ((⟨d,e,f⟩:G.V)-⟨a,b,c⟩) ((⟨g,h,i⟩:G.V)-⟨a,b,c⟩)≠0 then .ok (fX (G.j6 ⟨a,b,c⟩ ⟨d,e,f⟩ ⟨g,h,i⟩).1 (G.j6 ⟨a,b,c⟩ ⟨d,e,f⟩ ⟨g,h,i⟩).2)else .bad)
def LV {P Q R:G.V}(h:Sz3 P Q R)(a:G.cr (Q-P) (R-P)≠0):R5 [vd P,vd Q,vd R]=.ok (fX (G.j6 P Q R).1 (G.j6 P Q R).2):=h9 ⟨h,a⟩
def HY (h:Sz n v):bits (G.x8 v:Nat)<=n:=by
 have e:((G.x8 v:Nat):Int)=aGD (aGD v.x v.y:Nat) v.z:=by simp[G.x8,aGD]
 rw[e];exact xE (xE h.1 h.2.1) h.2.2
def nU {a g:Int}(h:0<g):a.fdiv g=a/g:=aDG a (aAM h)
end M
namespace DL
open PySem PySem.Spec L2
open PyProof.Rows hiding St
section
variable [Tabs]
mutual
inductive HV (h:Heap):Value->D->Prop
 |int (i:Int) (t:Tok):HV h (.int i t) (.int i)
 |tup {a:Addr} {items:Array Value} {ds:List D} (p:IsTup h a items) (r:HVs h items.toList ds):HV h (.ref a) (.tup ds)
inductive HVs (h:Heap):List Value->List D->Prop
 |nil:HVs h [] []
 |cons {v:Value} {d:D} {vs:List Value} {ds:List D} (r:HV h v d) (t:HVs h vs ds):HVs h (v::vs) (d::ds)
end
mutual
def mN:D->Bool
 |.int _=>true
 |.tup Y=>eZ Y
 |_=>false
def eZ:List D->Bool
 |[]=>true
 |x::Y=>mN x&&eZ Y
end
theorem fQ:∀Y:List D,vH Y=Y.map n6
 |[]=>rfl
 |x::Y=>by rw[vH,fQ Y];rfl
section
mutual
theorem HV.keeps (k:∀b o,h.get? b=some o->o.cls=.type "tuple"->h'.get? b=some o):∀{v:ae} {d:D},HV h v d->HV h' v d
 |_,_,.int i t=>.int i t
 |_,_,.tup p r=>.tup (by obtain⟨o,e,c,n,d⟩:=p;exact⟨o,k _ _ e c,c,n,d⟩) (HVs.keeps k r)
theorem HVs.keeps (k:∀b o,h.get? b=some o->o.cls=.type "tuple"->h'.get? b=some o):∀{v:List ae} {d:List D},HVs h v d->HVs h' v d
 |_,_,.nil=>.nil
 |_,_,.cons r t=>.cons (HV.keeps k r) (HVs.keeps k t)
end
mutual
theorem HV.inj:∀{v:ae} {d d':D},HV h v d->HV h v d'->d=d'
 |_,_,_,.int i t,.int _ _=>rfl
 |_,_,_,.tup p r,.tup f g=>by obtain⟨o,e,c,n,j⟩:=p;obtain⟨k,b,l,m,a⟩:=f;rw[e]at b;cases b;rw[j]at a;injection a with q _;subst q;rw[HVs.inj r g]
theorem HVs.inj:∀{v:List ae} {d d':List D},HVs h v d->HVs h v d'->d=d'
 |_,_,_,.nil,.nil=>rfl
 |_,_,_,.cons r t,.cons a b=>by rw[HV.inj r a,HVs.inj t b]
end
theorem HVs.length:∀{v:List ae} {d:List D},HVs h v d->v.length=d.length
 |_,_,.nil=>rfl
 |_,_,.cons _ t=>by simp[HVs.length t]
end
section
variable{prog:be} {w:cp}
def PH (prog:be)(w:cp)(h:cq)(v:ae)(d:D):Prop:=∀(A:cf) (E:A4) (s:a9) (Q:Int->a9->Prop),s.heap=h->A.units+8*A9 d<dg->(∀a,s.toks<=a->Q (n6 d) {s with toks:=a})->ag (bc prog w) A (pyHash v) Q E s
mutual
theorem WP:∀{v:ae} {d:D},HV h v d->PH prog w h v d
 |_,_,.int i t=>λA E s Q J L q=>by exact(intKind prog w).pyHash (k:=i) (intKind_is _ _ _ _) (q _<|Nat.le_succ _)
 |_,_,.tup (a:=a) (items:=items) (ds:=ds) p r=>λA E s Q J L q=>by
  have fs:=QS r;subst J;obtain⟨o,N,T,n,U⟩:=p;have u:s.TypeIs (.ref a) "tuple":=⟨o,N,T⟩;have C:A.units<dg:=by lia
  rw[A9]at L;unfold pyHash;first|unfold pyHashByItsType|skip
  first|refine aAa (wpAny_cRoomFor_or (.inr C) ?_)|skip
  refine aAa (aBD u PySem.F.slot_tuple_hash.lookup ?_);show ag _ _ (if(some (aGu "tuple.__hash__")==some Value.none)=true then _ else _) Q E s;rw[ib (by rw[aFF];exact aBb)];refine aAa (aBD u PySem.F.slot_tuple_hash.lookup ?_);show ag _ _ (callSpecialIfBoundUnlessNone? (.ref a) "__hash__" _>>=_) Q E s;refine aAa (aDu u PySem.F.slot_tuple_hash<|aBC PySem.F.slot_tuple_hash u PySem.F.entry_tuple_hash ?_ (PySem.F.args_tuple_hash_1 _));show ag _ _ (aDF (.ref a)>>=_) _ _ s;refine aAa (wpAny_tupleItemsOf N U ?_);refine aAa ?_;rw[<-aCu];refine aCh _
   (λrest (b:Array Int) H=>∃done left g,ds=done++left/\Paired (PH prog w s.heap) rest left/\b.toList=done.map n6/\s.toks<=g/\H={s with toks:=g})
   _ ?_ ?_ _ _ ⟨[],ds,s.toks,rfl,fs,rfl,aAh _,rfl⟩
  .rintro x rest b H ⟨done,left,g,l,I,y,Y,rfl⟩;cases I with
   |@cons _ d _ e h1 O=>
    refine aAa (h1 _ _ _ _ rfl ?_ λz f=>?_)
    .have:A9 d<=C3 ds:=by rw[l];exact vY (j:=done.length) (by simp)
     rw[t7];lia
    first
     |exact aAb ⟨done++[d],e,z,by simp[l],O,by simp[y],by(have:g<=z:=f);lia,rfl⟩
     |exact aAa (aAb (aAb ⟨done++[d],e,z,by simp[l],O,by simp[y],by(have:g<=z:=f;lia),rfl⟩))
  .rintro b H ⟨done,left,g,l,I,y,Y,rfl⟩;cases I;rw[aCo]at l;subst l;show ag _ _ (retInt<|aAT b.toList) _ _ _;rw[y];refine wpAny_ret_mkInt ?_;show ag _ _ (if(decide (-(2:Int)^63<=aAT (ds.map n6))&&decide (aAT (ds.map n6)<2^63))=true then _ else _) Q E _;have m:=q (g+1) (by lia);rw[n6,fQ]at m;unfold reduceHash at m;by_cases B:(decide (-(2:Int)^63<=aAT (ds.map n6))&&decide (aAT (ds.map n6)<2^63))=true
   .rw[h9 B];rw[h9 B]at m;exact aAb m
   .rw[ib B];rw[ib B]at m;exact aAa (aDD<|aAb m)
theorem QS:∀{v:List ae} {d:List D},HVs h v d->Paired (PH prog w h) v d
 |_,_,.nil=>.nil
 |_,_,.cons r t=>.cons (WP r) (QS t)
end
mutual
theorem sD:∀{v u:ae} {d e:D} {A:cf},HV s.heap v d->HV s.heap u e->A.units+A9 d<dg->SeqAt.EqAt A s v u (u8 d e)
 |_,_,_,_,A,.int i t,.int j h,_=>by simp only[u8];exact aFb _ _ _ _
 |_,_,_,_,A,.int i t,.tup p r,b=>by simp only[u8];exact aGd _ _ p (by lia)
 |_,_,_,_,A,.tup p r,.int j h,b=>by simp only[u8];exact aGe _ _ p (by lia)
 |_,_,_,_,A,.tup (a:=a) (ds:=ds) p r,.tup (a:=k) (ds:=l) g f,b=>by
  by_cases e:a=k
  .subst e;have:=HV.inj (.tup p r) (.tup g f);rw[this,M3];exact aEa _
  .simp only[u8];rw[A9]at b;exact aFd e (kE (by simpa using p) (by simpa using g) r.length f.length (by lia) (OU r f (by rw[t7];lia))).1
theorem OU:∀{vs e:List ae} {ds es:List D} {A:cf},HVs s.heap vs ds->HVs s.heap e es->A.in1.units+C3 ds<dg->mX A s vs e ds es
 |_,_,_,_,A,.nil,_,_=>λj u w a b=>by simp at a
 |_,_,_,_,A,.cons r t,.nil,_=>λj u w a b=>by simp at b
 |_,_,_,_,A,.cons (d:=d) (ds:=ds) r t,.cons (d:=i) (ds:=k) f g,h=>λj u w a b=>by
  rw[C3]at h;match j,a,b with
  |0,a,b=>simp only[aCx,aGA]at a b;subst a b;exact sD r f (by lia)
  |j+1,a,b=>simp only[aCz]at a b;exact OU t g (by lia) j u w a b
end
mutual
theorem bM:∀{d e:D},mN d=true->mN e=true->u8 d e=true->d=e
 |.int i,.int j,_,_,h=>by simp[u8]at h;rw[h]
 |.tup Y,.tup f,a,b,h=>by rw[mN]at a b;rw[u8]at h;rw[zN a b h]
 |.int _,.tup _,_,_,h=>by simp[u8]at h
 |.tup _,.int _,_,_,h=>by simp[u8]at h
 |.non,_,h,_,_=>by simp[mN]at h
 |.bl _,_,h,_,_=>by simp[mN]at h
 |.str _,_,h,_,_=>by simp[mN]at h
 |.lst _,_,h,_,_=>by simp[mN]at h
 |_,.non,_,h,_=>by simp[mN]at h
 |_,.bl _,_,h,_=>by simp[mN]at h
 |_,.str _,_,h,_=>by simp[mN]at h
 |_,.lst _,_,h,_=>by simp[mN]at h
theorem zN:∀{d e:List D},eZ d=true->eZ e=true->X4 d e=true->d=e
 |[],[],_,_,_=>rfl
 |[],_::_,_,_,h=>by simp[X4]at h
 |_::_,[],_,_,h=>by simp[X4]at h
 |x::Y,y::f,a,b,h=>by rw[eZ,aAJ]at a b;rw[X4,aAJ]at h;rw[bM a.1 b.1 h.1,zN a.2 b.2 h.2]
end
mutual
theorem HV.ok:∀{v:ae} {d:D},HV h v d->mN d=true
 |_,_,.int i t=>rfl
 |_,_,.tup p r=>by rw[mN];exact HVs.ok r
theorem HVs.ok:∀{v:List ae} {d:List D},HVs h v d->eZ d=true
 |_,_,.nil=>rfl
 |_,_,.cons r t=>by rw[eZ,HV.ok r,HVs.ok t];rfl
end
mutual
theorem iV:∀{v:ae} {d:D} (k:Nat),HV h v d->A9 d<k->∀(M:Model) (A:cf) (E:A4) (s:a9) (Q:wO),s.heap=h->Q true s->ag M A (eqIsQuiet k v) Q E s
 |_,_,k,.int i t,_=>λM A E s Q m q=>by unfold eqIsQuiet;exact aAb q
 |_,_,k,.tup (a:=a) (items:=items) (ds:=ds) p r,e=>λM A E s Q m q=>by
  subst m;obtain⟨o,u,y,n,z⟩:=p;have x:s.TypeIs (.ref a) "tuple":=⟨o,u,y⟩;match k,e with
  |k+1,e=>
   rw[A9]at e;unfold eqIsQuiet;refine aAa (aBD x PySem.F.slot_tuple_eq.lookup ?_);show ag _ _ (isInstance (.ref a) (.type "tuple")>>=_) _ _ s;refine aAa (aDP x isSubtype_tuple_tuple ?_);simp only[aDe,aAq,if_false];refine aAa (aBx u z ?_);refine aAa ?_;show ag _ _ (forIn items _ _) _ _ s;rw[<-aCu];refine aCh _ (λrest r b=>r.1=none/\b=s/\∃f,HVs s.heap rest f/\C3 f<k) _ ?_ ?_ _ _ ⟨rfl,rfl,ds,r,by lia⟩
   .rintro v rest r b ⟨g,rfl,f,j,l⟩;cases j with
    |@cons _ d _ B j C=>rw[C3]at l;refine aAa (iV k j (by lia) M A E b _ rfl ?_);simp only[aDe,aAq,if_false];exact aAb ⟨rfl,rfl,B,C,by lia⟩
   .rintro⟨H,I⟩ b ⟨g,rfl,_⟩;simp only at g;subst g;exact aAb q
end
mutual
theorem fS:∀{v:ae} {d:D} (k:Nat),HV h v d->A9 d<k->∀(M:Model) (A:cf) (E:A4) (s:a9) (Q:wO),s.heap=h->Q false s->ag M A (ofAClassStatement k v) Q E s
 |_,_,k,.int i t,_=>λM A E s Q m q=>by unfold ofAClassStatement;exact aAb q
 |_,_,k,.tup (a:=a) (items:=items) (ds:=ds) p r,e=>λM A E s Q m q=>by
  subst m;obtain⟨o,u,x,n,y⟩:=p;have z:s.TypeIs (.ref a) "tuple":=⟨o,u,x⟩;match k,e with
  |k+1,e=>
   rw[A9]at e;unfold ofAClassStatement;refine aAa (aDV z ?_);dsimp only;rw[h9 (by decide)];refine aAa (aAb ?_);simp only[aDe,aAq,if_false];refine aAa (aBx u y ?_);dsimp only;refine aAa ?_;show ag _ _ (forIn items _ _) _ _ s;rw[<-aCu];refine aCh _ (λrest r b=>r.1=none/\b=s/\∃f,HVs s.heap rest f/\C3 f<k) _ ?_ ?_ _ _ ⟨rfl,rfl,ds,r,by lia⟩
   .rintro v rest r b ⟨g,rfl,f,j,l⟩;cases j with
    |@cons _ d _ B j C=>rw[C3]at l;refine aAa (fS k j (by lia) M A E b _ rfl ?_);simp only[aAq,if_false];exact aAb ⟨rfl,rfl,B,C,by lia⟩
   .rintro⟨H,I⟩ b ⟨g,rfl,_⟩;simp only at g;subst g;exact aAb q
end
mutual
theorem nG:∀{v:ae} {d:D} (k:Nat),HV h v d->A9 d<k->∀(M:Model) (A:cf) (E:A4) (s:a9) (Q:wO),s.heap=h->Q true s->ag M A (hashByValue k v) Q E s
 |_,_,k,.int i t,_=>λM A E s Q m q=>by unfold hashByValue;exact aAb q
 |_,_,k,.tup (a:=a) (items:=items) (ds:=ds) p r,e=>λM A E s Q m q=>by
  subst m;obtain⟨o,u,x,n,y⟩:=p;have z:s.TypeIs (.ref a) "tuple":=⟨o,u,x⟩;match k,e with
  |k+1,e=>
   rw[A9]at e;unfold hashByValue;refine aAa (aBD z PySem.F.slot_tuple_hash.lookup ?_);dsimp only;refine aAa (aBx u y ?_);refine aAa ?_;show ag _ _ (forIn items _ _) _ _ s;rw[<-aCu];refine aCh _ (λrest r b=>r.1=none/\b=s/\∃f,HVs s.heap rest f/\C3 f<k) _ ?_ ?_ _ _ ⟨rfl,rfl,ds,r,by lia⟩
   .rintro v rest r b ⟨g,rfl,f,j,l⟩;cases j with
    |@cons _ d _ B j C=>rw[C3]at l;refine aAa (nG k j (by lia) M A E b _ rfl ?_);simp only[aDe,aAq,if_false];exact aAb ⟨rfl,rfl,B,C,by lia⟩
   .rintro⟨H,I⟩ b ⟨g,rfl,_⟩;simp only at g;subst g;exact aAb q
end
def jS {α:Type}{M:Model}{A:cf}{E:A4}{s:a9}{Q:α->a9->Prop}{c:Prop}[Decidable c]{a b:Sem α}(d:c->ag M A a Q E s)(e:¬c->ag M A b Q E s):ag M A (if c then a else b) Q E s:=by
 by_cases h:c
 .rw[h9 h];exact d h
 .rw[ib h];exact e h
def gj {M:Model}{A:cf}{E:A4}{s:a9}{Q:wO}{x:ae}{d:D}(k:HV s.heap x d)(l:A9 d<8)(f:List ae)(n:∀y∈f,∃e,HV s.heap y e/\A9 e<8)(q:Q false s):ag M A (searchCouldBeSeen x f) Q E s:=by
 unfold searchCouldBeSeen;refine aAa ?_;refine aCh _ (λrest r a=>r.1=none/\a=s/\∀y∈rest,y∈f) _ ?_ ?_ _ _ ⟨rfl,rfl,λy h=>h⟩
 .rintro y rest r a ⟨g,rfl,i⟩;obtain⟨e,m,b⟩:=n y (i y (by simp));dsimp only;refine jS (λ_=>?_) (λ_=>?_)
  .exact aAb ⟨rfl,rfl,λz j=>i z (aAe _ j)⟩
  .refine aAa (iV 8 k l M A E a _ rfl ?_);simp only[aDe,aAq,if_false];refine aAa (iV 8 m b M A E a _ rfl ?_);simp only[aDe,aAq,if_false];refine aAa (fS 8 k l M A E a _ rfl ?_);simp only[aAq,if_false];refine aAa (fS 8 m b M A E a _ rfl ?_);simp only[aAq,if_false];exact aAb ⟨rfl,rfl,λz j=>i z (aAe _ j)⟩
 .rintro⟨o,p⟩ a ⟨g,rfl,_⟩;simp only at g;subst g;exact aAb q
end
def EV (h:cq)(e:Int×ae)(d:D):Prop:=HV h e.2 d/\e.1=n6 d
theorem A7 {α β:Type}{F:α->β->Prop}:∀{l:List α} {m:List β} {i:Nat} {a:α},Paired F l m->l[i]?=some a->∃b,m[i]?=some b/\F a b
 |_,_,_,_,.nil,h=>by simp at h
 |_,_,0,_,.cons r _,h=>by simp at h;subst h;exact⟨_,rfl,r⟩
 |_,_,i+1,a,.cons _ t,h=>by obtain⟨b,d,e⟩:=A7 (i:=i) t (by simpa using h);exact⟨b,by simpa using d,e⟩
theorem cB {α β:Type}{F:α->β->Prop}:∀{l:List α} {m:List β} {i:Nat} {b:β},Paired F l m->m[i]?=some b->∃a,l[i]?=some a/\F a b
 |_,_,_,_,.nil,h=>by simp at h
 |_,_,0,_,.cons r _,h=>by simp at h;subst h;exact⟨_,rfl,r⟩
 |_,_,i+1,a,.cons _ t,h=>by obtain⟨b,d,e⟩:=cB (i:=i) t (by simpa using h);exact⟨b,by simpa using d,e⟩
theorem fZ {α β:Type}{F:α->β->Prop}:∀{l:List α} {m:List β},Paired F l m->l.length=m.length
 |_,_,.nil=>rfl
 |_,_,.cons _ t=>by simp[fZ t]
section
variable{es:Array (Int×ae)}
def iK (K:ST.SOk t es.toList):t.fits es.size=true:=by
 have a:=K.len;have d:=K.room;have b:=K.tab.nod;unfold aGv SetTable.fill;rw[b];simp at a⊢
 lia
theorem lJ (ho:s.heap.get? S=some o)(hd:o.data=.set es ep t)(K:ST.SOk t es.toList)(C:t.mask%2=1)(P:Paired (EV s.heap) es.toList ds)(T:HV s.heap (.ref x) (.tup Y))(H:A9 (.tup Y)<8)(yp:∀e∈ds,A9 e<8)(hT:∀e∈ds,∃I,e=.tup I)
  (hu:A.units+16<dg) (hf:ST.U9 t (n6 (.tup Y)) n0) {Q:SetFound->a9->Prop} (g:D.tup Y∈ds->Q (.there none) s) (b:D.tup Y∉ds->Q (.free (ST.l9 t.mask (n6 (.tup Y)) n0).j false) s):
  ∀(a n:Nat) (U:Option SetTable.Probe),U.getD (t.probeStart (n6 (.tup Y)))=ST.l9 t.mask (n6 (.tup Y)) n->n<=n0->n0-n<a->
   (∀m<n,∀(i:Nat),t.place[i]?=some (ST.l9 t.mask (n6 (.tup Y)) m).j->ds[i]?≠some (.tup Y))->ag (bc prog w) A (setSearchFrom S (.ref x) (n6 (.tup Y)) true a U) Q E s
 |0,n,U,_,_,h,_=>by lia
 |a+1,n,U,il,hn,hfu,J=>by
  unfold setSearchFrom;refine aAa (aCk ho hd (iK K) ?_);dsimp only;refine jS (λz=>?_) (λ_=>?_)
  .unfold SetTable.gaveWay at z;simp at z;lia
  rw[il];obtain⟨n',a1,a2,a3,a4⟩:=ST.NW K.tab (λi=>(es[i]?.map (·.1)).getD 0) (n6<|.tup Y) hf n hn;generalize hg:t.probe _ (n6<|.tup Y) (ST.l9 t.mask (n6<|.tup Y) n)=pm;rcases a4 with⟨en,e⟩|⟨ao,i,B,hh,e⟩
  .have ep:pm=_:=hg.symm.trans e;rw[ep];dsimp only;refine aAb (b λL=>?_);obtain⟨i,B⟩:=aDw.mp L;obtain⟨⟨N,v⟩,he,h1,h2⟩:=cB P B;obtain⟨j,hj,ug⟩:=ST.UY K.len he;dsimp only at h2;have hr:=K.reach _ ug;dsimp only at hr;rw[h2]at hr;obtain⟨m,L,em⟩:=ST.Reach.before hf (by rw[<-aAF]at hj;exact aAu hj) hr;by_cases z:m<n
   .exact J m z i (by rw[em];exact hj) B
   .obtain⟨f,dh,af⟩:=a3 m (by lia) (by lia);have:f=i:=by have g:=ST.L7 K.tab dh;have b:=ST.L7 K.tab hj;rw[em]at g;rw[g]at b;injection b
    subst this;refine af ?_;show(es[f]?.map (·.1)).getD 0=_;rw[<-aAF,he];exact h2
  .have ep:pm=_:=hg.symm.trans e;rw[ep];dsimp only;have O:i<es.size:=by
    have:=(aCj.mp B).1;have h1:=K.len;simp at h1
    lia
   have l:es[i]?=some es[i]:=aAL O;obtain⟨di,d,N,q⟩:=A7 P (show es.toList[i]?=some es[i]by rw[aAF];exact l);obtain⟨I,rfl⟩:=hT di (aAu d);have go:ag (bc prog w) A (do
     let some (_,y):=es[i]?|unsupported "internal:set-entry"
     let equal<-fg [y] (eqBool y<|.ref x)
     let(es',_,t')<-setState S
     if true&&equal then return .there none
     let some same:=t'.sameMemory t.moves t.mask|unsupported "set.changed-during-lookup:is-the-new-block-at-the-old-address"
     let WQ<-match(if same then t'.slot (ST.l9 t.mask (n6<|.tup Y) n').j else .empty)with
      |.live f=>match es'[f]? with
       |some (_,y')=>do pure (if<-isSame y' y then some f else none)
       |none=>pure none
      |_=>pure none
     match WQ with
     |none=>rule "set.search.anew";setSearchFrom S (.ref x) (n6<|.tup Y) true a none
     |some f=>if equal then return .there (some f)else setSearchFrom S (.ref x) (n6<|.tup Y) true a (some<|ST.l9 t.mask (n6<|.tup Y)<|n'+1)) Q E s:=by
    rw[l];generalize he:es[i]=en at*
    obtain⟨hn,y⟩:=en;dsimp only at N q⊢;refine aAa (aAR (sD N T (by have:=yp _ (aAu d);lia) prog w E _ ?_));refine aAa (aCk ho hd (iK K) ?_);dsimp only;cases hq:u8 (.tup I) (.tup Y)with
    |true=>rw[h9 (show(true&&true)=true from rfl)];have:D.tup I=.tup Y:=bM N.ok T.ok hq;rw[this]at d;exact aAb (g<|aAu d)
    |false=>
     rw[ib (by simp)];have hsm:t.sameMemory t.moves t.mask=some true:=by unfold SetTable.sameMemory;rw[h9 (by simp)]
     rw[hsm];dsimp only;rw[h9 rfl,ST.L7 K.tab B];dsimp only;rw[l];dsimp only;cases N with
     |tup p r=>
      refine aAa (wpAny_isSame_ref_self ?_);refine aAa (aAb ?_);rw[h9 rfl];dsimp only;rw[ib (by simp)];refine lJ ho hd K C P T H yp hT hu hf g b a (n'+1) _ rfl (by lia) (by lia) λm L i2 u hz=>?_;by_cases z:m<n
      .exact J m z i2 u hz
      .by_cases z2:m=n'
       .subst z2;have:i2=i:=by have g:=ST.L7 K.tab u;have b:=ST.L7 K.tab B;rw[g]at b;injection b
        subst this;rw[d]at hz;have:D.tup I=.tup Y:=Option.some.inj hz;rw[this,M3]at hq;cases hq
       .obtain⟨f,dh,af⟩:=a3 m (by lia) (by lia);have:f=i2:=by have g:=ST.L7 K.tab dh;have b:=ST.L7 K.tab u;rw[g]at b;injection b
        subst this;obtain⟨⟨h0,v0⟩,he0,hv0,hh0⟩:=cB P hz;refine af ?_;show(es[f]?.map (·.1)).getD 0=_;rw[<-aAF,he0];exact hh0
   refine jS (λ_=>?_) (λ_=>go);refine aAa (gj T H _ (λy hy=>?_) ?_)
   .obtain⟨e',wg,rfl⟩:=aAi.mp hy;rw[Array.toList_filter]at wg;have L:=(aAK.mp wg).1;obtain⟨k,hk⟩:=aDw.mp L;obtain⟨dk,hdk,hvk,_⟩:=A7 P hk;exact⟨dk,hvk,yp _ (aAu hdk)⟩
   .rw[ib (by simp)];exact go
def uU (m n:Nat):Prop:=(m=7/\n<=4)\/(m=31/\n<=18)\/(m=127/\n<=76)
def uU.odd (h:uU m n):m%2=1:=by rcases h with⟨rfl,_⟩|⟨rfl,_⟩|⟨rfl,_⟩<;>rfl
def Keeps (h0 h:cq):Prop:=∀b o,h0.get? b=some o->h.get? b=some o
structure SetAt (L:Bool)(h0 h:Heap)(S:Addr)(ds:List D):Prop where
 ex:∃(o:Obj) (es:Array (Int×Value)) (ep:Nat) (t:SetTable),h.get? S=some o/\o.cls=.type "set"/\o.dict=none/\o.slots=#[]/\o.data=.set es ep t/\ST.SOk t es.toList/\uU t.mask es.size/\Paired (EV h0) es.toList ds/\t.led=L/\t.plain=true
 nd:ds.Nodup
def Y4 {α β:Type}{F:α->β->Prop}:∀{l b:List α} {m:List β},b.Perm l->Paired F l m->∃a,a.Perm m/\Paired F b a:=λ{l b m} p=>by
 induction p generalizing m with
 |nil=>intro h;exact⟨m,.refl _,h⟩
 |cons x _ f=>
  intro h;cases h with
  |cons r t=>obtain⟨a,g,i⟩:=f t;exact⟨_::a,g.cons _,.cons r i⟩
 |swap x y l=>
  intro h;cases h with
  |cons r t=>
   cases t with
   |cons j k=>exact⟨_,.swap _ _ _,.cons j (.cons r k)⟩
 |trans _ _ d e=>intro h;obtain⟨v,n,o⟩:=e h;obtain⟨q,s,u⟩:=d o;exact⟨q,s.trans n,u⟩
theorem cC {α β:Type}{F G:α->β->Prop}(i:∀a b,F a b->G a b):∀{l:List α} {m:List β},Paired F l m->Paired G l m
 |_,_,.nil=>.nil
 |_,_,.cons r t=>.cons (i _ _ r) (cC i t)
theorem pS {α β:Type}{F:α->β->Prop}{a:α}{b:β}(r:F a b):∀{l:List α} {m:List β} (p:Nat),Paired F l m->Paired F (l.take p++a::l.drop p) (m.take p++b::m.drop p)
 |_,_,0,h=>.cons r h
 |_,_,p+1,.nil=>.cons r .nil
 |_,_,p+1,.cons d t=>.cons d (pS r p t)
def QF {α:Type}(a:α)(l:List α)(p:Nat):(l.take p++a::l.drop p).Perm (a::l):=by have h:=List.perm_middle (a:=a) (l₁:=l.take p) (l₂:=l.drop p);rw[aFQ]at h;exact h
def yN {α β:Type}{M:Model}{Q:α->a9->Prop}{c:Prop}[Decidable c]{a:Sem β}{k:β->Sem α}(b:β)(e:∀d:β->a9->Prop,d b s->ag M A a d E s)(h:ag M A (k b) Q E s):ag M A (if c then a>>=k else pure b>>=k) Q E s:=
 jS (λ_=>aAa (e _ h)) (λ_=>aAa (aAb h))
def lK (h:cq)(S:bb)(f:Obj->Obj):Heap.SameBut S h (h.update S f):=⟨by simp[Heap.size_update],λb a=>aAx _ _ (aBW a)⟩
def tM {h:cq}{S:bb}{o:Obj}{es es':Array (Int×ae)}{ep:Nat}{t t':eQ}(b:h.get? S=some o)(a:o.data=.set es ep t):(h.update S (aEC es' t')).get? S=some {o with data:=.set es' (ep+1) t'}:=by
 have e:aEC es' t' o={o with data:=.set es' (ep+1) t'}:=by obtain⟨c,d,f,g⟩:=o;cases f<;>simp at a;obtain⟨rfl,rfl,rfl⟩:=a;rfl
 rw[aBa _ b (by rw[e];rfl),e]
def ZR {L:Bool}{h0:cq}{Q:wO}(hS:SetAt L h0 s.heap S ds)(kp:Keeps h0 s.heap)(C:HV h0 (.ref x) (.tup Y))(H:A9 (.tup Y)<8)(yp:∀e∈ds,A9 e<8)(hT:∀e∈ds,∃ys,e=.tup ys)(hu:A.units+128<dg)(hn:ds.length<76)
  (q1:D.tup Y∈ds->∀tk,s.toks<=tk->Q false {s with toks:=tk})
  (q2:D.tup Y∉ds->∀h' tk au,s.toks<=tk->Heap.SameBut S s.heap h'->SetAt L h0 h' S au->au.Perm (.tup Y::ds)->Q true {s with heap:=h',toks:=tk}):ag (bc prog w) A (setAdd S (.ref x)) Q E s:=by
 obtain⟨⟨o,es,ep,t,I,hc,n,ze,J,K,mk,P0,lp0⟩,nd⟩:=hS;have hx:HV s.heap (.ref x) (.tup Y):=C.keeps λb o e _=>kp b o e;have P:Paired (EV s.heap) es.toList ds:=cC (λe d r=>⟨r.1.keeps λb o e _=>kp b o e,r.2⟩) P0;have hsz:es.size=ds.length:=by have:=fZ P;simpa using this
 unfold setAdd;refine aAR (aAa (WP hx A E s _ rfl (by lia) λtk xu=>?_));unfold setAddHashed setAddHashedIn;refine aAR (aAa<|aCk (s:={s with toks:=tk}) I J (iK K) ?_);dsimp only;rw[show byScan (.ref x) es=false from rfl];simp only[aAq,if_false];obtain⟨n0,hf⟩:=ST.CN K.full K.room (n6<|.tup Y);refine aAa (lJ (s:={s with toks:=tk}) (n0:=n0) I J K mk.odd P hx H yp hT (by lia) hf (λp=>?_) (λp=>?_) 100000 0 none rfl (aAX _) ?_ (λm p=>by lia))
 .dsimp only;exact aAb (q1 p tk xu)
 .dsimp only;refine aAa (aCk (s:={s with toks:=tk}) I J (iK K) ?_);dsimp only;refine yN true (λU q=>nG 8 hx H _ _ _ _ _ rfl q) ?_;rw[h9 rfl];have qm:t.place.size+1<=t.mask:=by have:=K.len;simp at this;rcases mk with⟨a,k⟩|⟨a,k⟩|⟨a,k⟩<;>lia
  have u:=ST.gw K (x:=.ref x) hf qm;have el:=ST.fL es (t.put (ST.l9 t.mask (n6<|.tup Y) n0).j).2 (n6 (.tup Y),aDJ x);have lp:(t.put (ST.l9 t.mask (n6<|.tup Y) n0).j).1.led=L/\(t.put (ST.l9 t.mask (n6<|.tup Y) n0).j).1.plain=true:=lp0;have em:(t.put (ST.l9 t.mask (n6<|.tup Y) n0).j).1.mask=t.mask:=rfl;rw[<-el]at u;have N:Paired (EV h0) (aGE es (t.put (ST.l9 t.mask (n6<|.tup Y) n0).j).2 (n6 (.tup Y),aDJ x)).toList (ds.take (t.put (ST.l9 t.mask (n6<|.tup Y) n0).j).2++.tup Y::ds.drop (t.put (ST.l9 t.mask (n6<|.tup Y) n0).j).2):=by rw[el];exact pS ⟨C,rfl⟩ _ P0
  have O:=QF (D.tup Y) ds (t.put (ST.l9 t.mask (n6<|.tup Y) n0).j).2;generalize hds2:ds.take (t.put (ST.l9 t.mask (n6<|.tup Y) n0).j).2++.tup Y::ds.drop (t.put (ST.l9 t.mask (n6<|.tup Y) n0).j).2=qe at N O;generalize hes2:aGE es (t.put (ST.l9 t.mask (n6<|.tup Y) n0).j).2 (n6 (.tup Y),aDJ x)=h at u N⊢;generalize ht2:(t.put (ST.l9 t.mask (n6<|.tup Y) n0).j).1=g at u em lp⊢;have qf:qe.Nodup:=O.nodup_iff.mpr (aAE.mpr ⟨p,nd⟩);have i:h.size=es.size+1:=by
   have h1:=fZ N;have h2:=O.length_eq;simp at h1 h2
   lia
  have de:h.size<=sizeLine:=by rw[i,aFx];lia
  refine aAa (wpAny_storeSet_of (s:={s with toks:=tk}) I J ?_ de);have jv:=tM (es':=h) (t':=g) I J;have T:=lK s.heap S (aEC h g);have l:g.fill=h.size:=by have h1:=u.len;have h2:=u.tab.nod;unfold SetTable.fill;rw[h2];simp at h1⊢;lia
  refine jS (λxv=>?_) (λxv=>?_)
  .
   have uh:g.fill*5>=g.mask*3:=by
    have:g.tooFull=true:=by simpa using xv
    simpa[aGM]using this
   rw[l,em,i]at uh;obtain⟨M,hM,hM1,v⟩:∃M,SetTable.sizeAbove (SetTable.grown<|es.size+1)=M+1/\ST.mG (M+1)/\uU M (es.size+1):=by
    rcases mk with⟨a,k⟩|⟨a,k⟩|⟨a,k⟩
    .have:es.size=4:=by lia
     rw[this];exact⟨31,by decide,ST.YC,.inr (.inl ⟨rfl,by lia⟩)⟩
    .have:es.size=18:=by lia
     rw[this];exact⟨127,by decide,ST.UP,.inr (.inr ⟨rfl,by lia⟩)⟩
    .lia
   unfold setRelay;refine aAa (aAa<|aCk (s:={s with heap:=s.heap.update S (aEC h g),toks:=tk}) jv rfl (iK u) ?_);dsimp only;rw[hM];refine jS (λz=>?_) (λ_=>?_)
   .exfalso;rcases v with⟨a,_⟩|⟨a,_⟩|⟨a,_⟩<;>(subst a;exact absurd z (by rw[aFx];decide))
   obtain⟨B,f,r1,r2,r3,r4,r5,r6,r7,r8,r9⟩:=ST.KS (finger:=g.finger) (moves:=g.movedTo M) (led:=g.led) (plain:=g.plain) hM1 h (by rw[i];rcases v with⟨a,k⟩|⟨a,k⟩|⟨a,k⟩<;>lia);have er:g.relaid (h.map (·.1)) (SetTable.grown<|es.size+1)=some (B,f):=by unfold SetTable.relaid;rw[hM];exact r1
   rw[er];have hre:∀{U:Array (Int×ae)×eQ->a9->Prop} {s':a9},U (f.filterMap (h[·]?),B) s'->ag (bc prog w) A (do
     let es':=f.filterMap (h[·]?)
     if es'.size !=h.size then unsupported "internal:set-table-lost-an-element"
     pure (es',B)) U E s':=λ{U s'} qq=>by
    dsimp only;rw[ib (by simp[r2])];exact aAb qq
   refine aAa (hre ?_);dsimp only;generalize hes3:f.filterMap (h[·]?)=y at r2 r3 r4⊢;refine wpAny_storeSet_of (s:={s with heap:=s.heap.update S (aEC h g),toks:=tk}) jv rfl ?_ (by rw[r2];exact de);refine aAb ?_;have ho3:=tM (es':=y) (t':=B) jv rfl;have sb3:=lK (s.heap.update S<|aEC h g) S (aEC y B);obtain⟨ds3,p3,P5⟩:=Y4 r3 N;exact q2 p _ tk ds3 xu (T.trans sb3) ⟨⟨_,y,_,B,ho3,hc,n,ze,rfl,r4,by rw[r5,r2,i];exact v,P5,by rw[r7];exact lp.1,by rw[r8];exact lp.2⟩,p3.nodup_iff.mpr qf⟩ (p3.trans O)
  .refine aAb ?_;refine q2 p _ tk qe xu T ⟨⟨_,h,_,g,jv,hc,n,ze,rfl,u,?_,N,lp⟩,qf⟩ O;have uh:¬g.fill*5>=g.mask*3:=λz=>xv (by simp[aGM,z]);rw[l,em,i]at uh;rw[em,i];rcases mk with⟨a,k⟩|⟨a,k⟩|⟨a,k⟩
   .exact .inl ⟨a,by lia⟩
   .exact .inr (.inl ⟨a,by lia⟩)
   .exact .inr (.inr ⟨a,by lia⟩)
 .have:=hf.1;have p:t.mask<=127:=by rcases mk with⟨a,_⟩|⟨a,_⟩|⟨a,_⟩<;>lia
  lia
end
section
variable{prog:be} {w:cp} {A:cf} {R:Result->a9->Prop} {I:bb} {fp wr:List bb} {G:Array GenState->Array GenState->Prop} {n:Nat} {P:Nat->ae->Prop} {St:Nat->a9->Prop} {h0:cq}
def YH (h0:cq)(v:ae)(d:D):Prop:=∃a Y,v=.ref a/\d=.tup Y/\A9 d<8/\HV h0 v d
def NX {L:Bool}(W:WalksS prog w A.in1 I fp wr G n P St)(S:bb)(ke:S∉fp)(hS0:h0.get? S=none)(hw0:∀b∈wr,h0.get? b=none)
  (val:Nat->D) (y:∀i v,P i v->YH h0 v (val i)) (vv:∀i<n,A9 (val i)<8/\∃ys,val i=.tup ys) {U:List D} (hU:∀i<n,val i∈U) (f:U.length<=75) (hu:A.units+200<dg):
  ∀(k i:Nat) (s:a9),n-i=k->i<=n->St i s->Keeps h0 s.heap->(∃ds,SetAt L h0 s.heap S ds/\∀d,d∈ds↔∃j<i,val j=d)->
   (∀s',Moved (S::wr) G s s'->(∃ds,SetAt L h0 s'.heap S ds/\∀d,d∈ds↔∃j<n,val j=d)->R (.ok (.ret .none)) s')->
   fh (bc prog w) A (.builtin "set.update.loop" ⟨[.ref S,.ref I],[]⟩) R s:=by
 have wu:S∉wr:=λh=>ke (W.sub _ h);have gi:∀b∈wr,b∈S::wr:=λb f=>aAe _ f;intro k;induction k with
 |zero=>
  intro i s hk hi il B hS N;have O:i=n:=by omega
  subst O;refine aBu F.entry_set_update_loop ?_;rw[aAY F.plain_set_update_loop _];show ag _ A.in1 (eR (.ref I)>>=_) _ _ s;refine aAa (W.done s _ _ il λs' l=>?_);show ag _ A.in1 (ret Value.none) _ _ s';refine aAb (N s' (l.mono gi) ?_);obtain⟨ds,⟨⟨o,es,ep,t,ho,r⟩,Q⟩,p⟩:=hS;exact⟨ds,⟨⟨o,es,ep,t,l.heap S _ wu ho,r⟩,Q⟩,p⟩
 |succ k ih=>
  intro i s hk hi il B hS N;have ao:i<n:=by omega
  refine aBu F.entry_set_update_loop ?_;rw[aAY F.plain_set_update_loop _];show ag _ A.in1 (eR (.ref I)>>=_) _ _ s;refine aAa (W.item i s _ _ ao il λv s' hP ip l=>?_);obtain⟨ds,⟨⟨o,es,ep,t,ho,r⟩,Q⟩,p⟩:=hS;have gr:SetAt L h0 s'.heap S ds:=⟨⟨o,es,ep,t,l.heap S _ wu ho,r⟩,Q⟩;have q:Keeps h0 s'.heap:=λb ob e=>l.heap b ob (λz=>by rw[hw0 b z]at e;cases e) (B b ob e);obtain⟨a,Y,rfl,T,C,hv⟩:=y i v hP;rw[T]at C hv;show ag _ A.in1 (fg [aDJ a] (setAdd S<|.ref a)>>=_) _ _ s';have g:∀e∈ds,A9 e<8/\∃ys,e=.tup ys:=λe E=>by obtain⟨j,H,ej⟩:=(p e).mp E;rw[<-ej];exact vv j (by omega)
  refine aAa (aAR (ZR gr q hv C (λe E=>(g e E).1) (λe E=>(g e E).2) (by rw[t7];omega) (by letI:DecidableEq D:=λa b=>aDf _;have:=ST.P4 (m:=U) Q (λd hd=>by obtain⟨j,H,e⟩:=(p d).mp hd;rw[<-e];exact hU j (by omega));omega) (λO tk J=>?_)<|λhni h' tk au J hsb hS2 pm=>?_))
  .
   refine aAb ⟨aBB F.plain_set_update_loop _,ih (i+1) _ (by omega) ao (W.frame _ s' _ _ ip J λb f o e=>e) q ⟨ds,gr,λd=>?_⟩ λu jd ya=>?_⟩
   .rw[p];constructor
    .rintro⟨j,H,e⟩;exact⟨j,by omega,e⟩
    .rintro⟨j,H,e⟩;by_cases z:j=i
     .subst z;rw[T]at e;rw[e]at O;exact(p d).mp O
     .exact⟨j,by omega,e⟩
   .exact N u (aDQ W.gtrans ((l.mono gi).then_heap J λb o f e=>e) jd) ya
  .have x:∀b,b≠S->h'.get? b=s'.heap.get? b:=λb f=>hsb.2 b f;refine aAb ⟨aBB F.plain_set_update_loop _,ih (i+1) _ (by omega) ao (W.frame _ s' _ _ ip J λb f o e=>?_) (λb o e=>?_) ⟨au,hS2,λd=>?_⟩ λu jd ya=>?_⟩
   .rw[x b (λz:b=S=>ke (by rw[<-z];exact f))];exact e
   .show h'.get? b=some o;rw[x b (λz=>by subst z;rw[hS0]at e;cases e)];exact q b o e
   .rw[pm.mem_iff,aAd,p];constructor
    .rintro(rfl|⟨j,H,e⟩)
     .exact⟨i,by omega,T⟩
     .exact⟨j,by omega,e⟩
    .rintro⟨j,H,e⟩;by_cases z:j=i
     .subst z;rw[T]at e;exact .inl e.symm
     .exact .inr ⟨j,by omega,e⟩
   .refine N u (aDQ W.gtrans ((l.mono gi).then_heap J λb o f e=>?_) jd) ya;rw[x b (λz:b=S=>f (by rw[z];exact aAN))];exact e
end
section
variable{prog:be} {w:cp} {A:cf} {E:A4} {s:a9}
abbrev mE (led:Bool):Obj:={cls:=.type "set",dict:=none,data:=.set #[] 0 (.fresh 0 0 led)}
def JT (h0 h:cq)(S:bb)(led:Bool)(e:h.get? S=some (mE led)):SetAt led h0 h S []:=by
 refine⟨⟨_,#[],0,.fresh 0 0 led,e,rfl,rfl,rfl,rfl,⟨⟨λi k a=>?_,λj b=>?_,rfl⟩,ST.zj,rfl,?_,λe d=>?_⟩,.inl ⟨rfl,aAX _⟩,.nil,rfl,rfl⟩,aCP⟩
 .exact absurd a (by show¬i<0;omega)
 .exact absurd b (by show¬j∈[];simp)
 .show 0<=7;omega
 .exact absurd d (by show¬e∈[];simp)
def xI (a:ae){Q₁:A4}(h:Q₁ (.ref s.heap.objs.size) {s with heap:=s.heap.push (mE (!w.params.followText "set-order"))}):
  fh (bc prog w) A (.call (.builtin "set.__new__") ⟨[.type "set",a],[]⟩) (wants Q₁ E) s:=by
 refine codeAny_of_tree ?_;show ag _ A.in1 (do checkBuiltinCall "set.__new__" ⟨[.type "set",a],[]⟩;again (.builtin "set.__new__" ⟨[.type "set",a],[]⟩)) _ _ s;refine aAa (aGp (F.newCall_set_1 a)<|aAb ⟨aBB F.plain_set_new _,aBu F.entry_set_new ?_⟩);rw[aAY F.plain_set_new _];unfold Builtin.«set.__new__» Builtin.Frozenset.newClass;have b:=sub_set_self;obtain⟨e,g,d,f,os⟩:=s;dsimp only
 wp_walk
 refine aFG (aAb ?_);dsimp only;simp only[newObj];exact aAa (wpAny_alloc<|aAb<|aAb h)
def xQ {h0:cq}(m:Keeps h0 s.heap){l:bb}{its:Array ae}{val:Nat->D}{Q:A4}(hh:A.handled=none)(hl:s.heap.IsList l its)
  (n:∀(i:Nat) (v:ae),its[i]?=some v->YH h0 v (val i)) (vv:∀i<its.size,A9 (val i)<8/\∃ys,val i=.tup ys) {U:List D} (hU:∀i<its.size,val i∈U) (g:U.length<=75) (hu:A.units+300<dg)
  (h:∀(h':cq) (tk:Nat) (ds:List D),SetAt (!w.params.followText "set-order") h0 h' s.heap.objs.size ds->(∀d,d∈ds↔∃j<its.size,val j=d)->Keeps s.heap h'->Q (.ref s.heap.objs.size) {s with heap:=h',toks:=tk}):
  ag (bc prog w) A (call (.type "set") [.ref l]) Q E s:=by
 obtain⟨c,tl,Y⟩:=PySem.F.called_set.mro;have C:=PySem.F.called_set.made;have gi:=PySem.F.called_set.sub;refine wpAny_call (codeAny_of_tree ?_);show ag _ _ (callAny (.type "set") _) _ _ _;refine aAb ⟨Code.quiet_builtin _ (by decide+kernel),aBu PySem.F.entry_type_call ?_⟩;rw[Around.under_plain (weight_type_call_type "set" [.ref l] []) rfl];have h1:=PySem.F.called_set.notType;have h2:=PySem.F.called_set.canCreate;have hct:=PySem.F.typeCall_set_1 (.ref l);repeat(any_goals(first|assumption|wp_step))
 refine aDU (xI (.ref l) (E:=E) (Q₁:=λob aa=>∃led:Bool,led=!w.params.followText "set-order"/\ob=.ref s.heap.objs.size/\aa={s with heap:=s.heap.push (mE led)}) ⟨_,rfl,rfl,rfl⟩) λr aa p=>?_;cases r with
 |error e=>exact p
 |ok fl=>
  cases fl with
  |next=>exact p.elim
  |brk=>exact p.elim
  |cont=>exact p.elim
  |ret ob=>
   obtain⟨led,eL,rfl,rfl⟩:=p;have hS:(s.heap.push<|mE led).get? s.heap.objs.size=some (mE led):=aAp _ rfl;have hT:Shared.TypeIs {s with heap:=s.heap.push (mE led)} (.ref s.heap.objs.size) "set":=⟨_,hS,rfl⟩;have hli:=PySem.F.called_set.init.lookup;have hbi:=PySem.F.called_set.init.bind (.ref s.heap.objs.size);repeat(any_goals(first|assumption|wp_step))
   refine aDU (codeAny_call_builtin (R:=wants (λr bh=>r=.none/\∃h' tk ds,bh={s with heap:=h',toks:=tk}/\SetAt (!w.params.followText "set-order") h0 h' s.heap.objs.size ds/\(∀d,d∈ds↔∃j<its.size,val j=d)/\Keeps s.heap h') E) PySem.F.called_set.init.plain PySem.F.entry_set_init<|check_set_init_1 hT ?_) λrf bh a=>?_
   .obtain⟨ol,q,yv,nl,t⟩:=hl;obtain⟨ocls,k,H,f⟩:=ol;simp only at yv t;subst yv;subst t;have u:(s.heap.push<|mE led).get? l=some {cls:=.type "list",dict:=k,data:=.seq its nl,slots:=f}:=aAc _ q;have hsls:=PySem.F.sub_list_set;have hslf:=PySem.F.sub_list_frozenset;have af:(aCt "list"==aCt "dict")=false:=by decide
    have ui:(s.heap.push<|mE led).IsList l its:=⟨_,u,rfl,nl,rfl⟩;unfold Builtin.«set.__init__» noKeywords Builtin.Frozenset.updateFrom;generalize I:pyIter=PI
    wp_walk
    subst I;refine aDE ui (aAa<|wpAny_runValue ?_);have x:l<s.heap.objs.size:=aAf q;have J:A.in1.in1.in1.handled=none:=by simp[hh]
    have y:l≠(s.heap.push<|mE led).objs.size:=by rw[aBw];exact aAm (aBg x)
    have ke:s.heap.objs.size∉[(s.heap.push<|mE led).objs.size,l]:=by rw[aBw];simp only[aAd,aAD,or_false,not_or];exact⟨aAm (aDi _),aDd x⟩
    have qp:∀b,s.heap.objs.size<=b->h0.get? b=none:=λb g=>by
     cases e:h0.get? b with
     |none=>rfl
     |some o=>have:=m b o e;rw[aEy g]at this;cases this
    refine NX (h0:=h0) ((Walks.list J _ l y its).toS) s.heap.objs.size ke (qp _<|aAh _) (λb g=>?hw) val n vv hU g (by show A.units+1+1+200<dg;omega) (its.size-0) 0 _ (by omega) (aAX _) ⟨⟨_,aAp _ rfl,rfl,rfl⟩,(ui.push _)⟩ (λb o e=>aAc _ (aAc _<|m b o e)) ⟨[],JT _ _ _ led (aAc _ hS),λd=>?he⟩ ?hR
    case he=>exact⟨λz=>(by cases z),by rintro⟨j,hj,_⟩;exact(by omega)⟩
    case hw=>
     have jb:b=(s.heap.push<|mE led).objs.size:=by simpa using g
     subst jb;rw[aBw];exact qp _ (Nat.le_succ _)
    case hR=>
     rintro⟨h',g',d',zd,L⟩ B ⟨ds,N,O⟩;have eg:g'=s.gens:=B.gens;have ed:d'=s.drawn:=B.drawn;have eo:L=s.os:=B.os;subst eg;subst ed;subst eo;refine aAb ?_;show ag _ _ (ret Value.none) _ _ _;refine aAb ⟨rfl,h',zd,ds,rfl,(eL▸N),O,λb o e=>?_⟩;have g:=aAf e;have yh:b≠(s.heap.push<|mE led).objs.size:=by rw[aBw];exact aAm (aBg g)
     exact B.heap b o (by simp only[aAd,aAD,or_false,not_or];exact⟨aAm g,yh⟩) (aAc _<|aAc _ e)
   .cases rf with
    |error e=>exact a
    |ok T=>
     cases T with
     |next=>exact a.elim
     |brk=>exact a.elim
     |cont=>exact a.elim
     |ret r=>
      obtain⟨rfl,h',tk,ds,rfl,N,O,km⟩:=a;repeat(any_goals(first|assumption|wp_step))
      exact h _ _ _ N O km
end
end
section
variable [Tabs]
end
end DL
namespace SI
open PySem
theorem GG {α:Type}(next:Nat->Nat):∀(a k:Nat) (left:List α) (b:Array α),left.length=a->(aGL next a k left b).toList.Perm (b.toList++left)
 |0,k,left,b,h=>by have:left=[]:=aEv h;subst this;simp[aGL]
 |a+1,k,left,b,h=>by
  unfold aGL;have e:0<left.length:=by lia
  have d:next k%left.length<left.length:=aEe _ e
  rw[aAg d];dsimp only;refine(GG next a (k+1) _ _ (by rw[List.length_eraseIdx_of_lt d];lia)).trans ?_;rw[Array.toList_push,aFs];refine List.Perm.append_left _ ?_;have:∀(l:List α) (i:Nat) (h:i<l.length),(l[i]::l.eraseIdx i).Perm l:=by
   intro l;induction l with
   |nil=>intro i h;simp at h
   |cons x l f=>
    intro i h;cases i with
    |zero=>simp
    |succ i=>
     have g:i<l.length:=by simpa using h
     rw[aFy,aFM];exact(List.Perm.swap _ _ _).trans ((f i g).cons _)
  exact this left _ d
def sW {α:Type}(next:Nat->Nat)(Y:Array α):(hV next Y).toList.Perm Y.toList:=by unfold hV;simpa using GG next Y.size 0 Y.toList #[] (by simp)
def walkL (w:cp)(S:bb)(es:Array (Int×ae))(ep:Nat):List (Int×ae):=if w.params.followText "set-order"=true then(hV (w.params.setOrder S ep) es).toList else es.toList
def walkL_perm (w:cp)(S:bb)(es:Array (Int×ae))(ep:Nat):(walkL w S es ep).Perm es.toList:=by
 unfold walkL;split
 .exact sW _ _
 .exact aGj _
def slotAt (w:cp)(t:eQ):Nat->Nat
 |0=>0
 |i+1=>if w.params.followText "set-order"=true then 0 else t.place.getD i 0+1
def O7 (h:cq)(w:cp)(it S:bb)(t:eQ)(i n ep:Nat):Prop:=
 h.get? it=some {cls:=.type "set_iterator",dict:=none,data:=.fields #[eh (slotAt w t i),eh i,.ref S,eh n,eh ep],slots:=#[]}
def IsSet (h:cq)(S:bb)(es:Array (Int×ae))(ep:Nat)(t:eQ):Prop:=∃o,h.get? S=some o/\o.cls=.type "set"/\o.data=.set es ep t
namespace F
def entry_set_iter:entryFor table "set.__iter__"=some Builtin.«frozenset.__iter__»:=entryFor_alias (id':= "frozenset.__iter__") (by kernel_rfl) rfl (by decide+kernel) (by kernel_rfl)
def slot_seti_next:Slot "set_iterator" "__next__" "set_iterator.__next__":=
 .of (owner:= "set_iterator") (n:= "__next__") (by rw[aDC,aCq];kernel_rfl) (by decide+kernel) (by decide+kernel) (by decide+kernel)
  (by first|exact .inl (by decide+kernel)|exact .inr (by decide+kernel)) (by rw[aFh];kernel_rfl)
def entry_seti_next:entryFor table "set_iterator.__next__"=some Builtin.«set_iterator.__next__»:=entryFor_of_tree (by kernel_rfl)
def args_seti_next (a:ae):argsOk "set_iterator.__next__" ⟨[a],[]⟩:=by unfold argsOk;kernel_rfl
def slot_seti_iter:Slot "set_iterator" "__iter__" "set_iterator.__iter__":=
 .of (owner:= "set_iterator") (n:= "__iter__") (by rw[aDC,aCq];kernel_rfl) (by decide+kernel) (by decide+kernel) (by decide+kernel)
  (by first|exact .inl (by decide+kernel)|exact .inr (by decide+kernel)) (by rw[aFh];kernel_rfl)
def entry_seti_iter:entryFor table "set_iterator.__iter__"=some Builtin.«dict_keyiterator.__iter__»:=entryFor_alias (id':= "dict_keyiterator.__iter__") (by kernel_rfl) rfl (by decide+kernel) (by kernel_rfl)
def args_seti_iter (a:ae):argsOk "set_iterator.__iter__" ⟨[a],[]⟩:=by unfold argsOk;kernel_rfl
end F
section
variable{s:a9} {t:eQ}
def JL {α:Type}{M:Model}{Q:α->a9->Prop}{c:Prop}[Decidable c]{a b:Sem α}(h:c)(k:ag M A a Q E s):ag M A (if c then a else b) Q E s:=by rw[h9 h];exact k
def yF (es:Array (Int×ae))(a:t.plain=true):(!t.plain&&decide (es.size>1))=false:=by rw[a];rfl
def AW {Q:wO}(h:Q (w.params.followText "set-order") s):ag (bc prog w) A setsByText Q E s:=by unfold setsByText;exact aAa (aFG<|aAb h)
def NT {Q:A4}(f:IsSet s.heap S es ep t)(b:t.fits es.size=true)(g:t.plain=true)
  (h:Q (.ref s.heap.objs.size) {s with heap:=s.heap.push {cls:=.type "set_iterator",dict:=none,data:=.fields #[eh (slotAt w t 0),eh (0:Nat),.ref S,eh es.size,eh ep],slots:=#[]}}):
  ag (bc prog w) A (pyIter (.ref S)) Q E s:=by
 obtain⟨o,a,i,d⟩:=f;have e:s.TypeIs (.ref S) "set":=⟨o,a,i⟩;refine aFt e PySem.F.slot_set_iter (aBC PySem.F.slot_set_iter e F.entry_set_iter ?_ (PySem.F.args_set_iter_1 _));unfold Builtin.«frozenset.__iter__»;show ag _ _ (aFz "__iter__" ⟨[.ref S],[]⟩>>=_) _ _ s;have j:aFz "__iter__" ⟨[.ref S],[]⟩=pure S:=rfl;rw[j];refine aAa (aAb ?_);unfold Builtin.Frozenset.sizeOf;refine aAa (aAa<|aEK a d b<|aAb ?_);refine aAa ?_;unfold setDrawn;refine aAa (aCk a d b<|aAa<|AW<|aAb ?_);show ag _ _ (if(!w.params.followText "set-order"&&(!t.plain&&decide (es.size>1)))=true then _ else _) _ _ s;rw[yF es g,aGh];simp only[aAq,if_false];refine aAa (aAb<|aAa<|wpAny_setEpoch_of a d b ?_);refine aAa (aBt<|aAb ⟨_,rfl, "set_iterator",_,⟨_,aAp _ rfl,rfl⟩,F.slot_seti_next.lookup,?_⟩);simpa[slotAt]using h
def CY (a:ST.GX Y):aDM Y 0=0:=by
 obtain⟨d,b,e⟩:=ST.bN a 0;by_cases h:aDM Y 0=0
 .exact h
 .exact absurd (b 0 (by lia) (by lia)) (by lia)
def DO (b:ST.GX Y)(a:i<Y.size):aDM Y (Y.getD i 0+1)=i+1:=by
 have e:Y.getD i 0=Y[i]:=by simp[aFl,a]
 rw[e];obtain⟨h,f,g⟩:=ST.bN b (Y[i]+1);rcases Nat.lt_trichotomy (aDM Y<|Y[i]+1) (i+1)with q|q|q
 .have:=g i a (by lia);lia
 .exact q
 .have d:i+1<Y.size:=by lia
  have:=f (i+1) d q;have:=b i (i+1) a d (by lia)
  lia
def DC (t:eQ)(a:ST.GX t.place)(b:¬w.params.followText "set-order"=true)(d:i<=t.place.size):aDM t.place (slotAt w t i)=i:=by
 cases i with
 |zero=>exact CY a
 |succ i=>show aDM t.place (if w.params.followText "set-order"=true then 0 else t.place.getD i 0+1)=i+1;rw[ib b];exact DO a (by lia)
def yB {Q:Option (ae×Nat)->a9->Prop}(p:IsSet s.heap S es ep t)(d:t.fits es.size=true)(q:t.plain=true)(r:¬w.params.followText "set-order"=true->t.led=true)(u:ST.GX t.place)(H:i<=es.size)(f:∀e,(walkL w S es ep)[i]?=some e->Q (some (e.2,slotAt w t (i+1))) s)(k:i=es.size->Q none s):ag (bc prog w) A (setNext S (slotAt w t i) i ep) Q E s:=by
 obtain⟨o,l,I,m⟩:=p;have v:t.place.size=es.size:=by simp only[aGv,aAJ,beq_iff_eq,decide_eq_true_eq]at d;exact d.1
 unfold setNext;refine aAa (aCk l m d ?_);refine aAa (AW ?_);by_cases a:w.params.followText "set-order"=true
 .rw[h9 a,ib (by simp)];unfold setWalk;refine aAa (aAa<|aCk l m d<|aAa<|AW ?_);rw[h9 a];refine aAa (aFG<|aAb ?_);refine aAb ?_;have h:(walkL w S es ep)=(hV (w.params.setOrder S ep) es).toList:=by unfold walkL;rw[h9 a]
  have j:slotAt w t i=slotAt w t (i+1):=by
   cases i with
   |zero=>show 0=if w.params.followText "set-order"=true then 0 else _;rw[h9 a]
   |succ i=>show(if w.params.followText "set-order"=true then 0 else _)=if w.params.followText "set-order"=true then 0 else _;rw[h9 a,h9 a]
  rw[h,aAF]at f;show Q (((hV (w.params.setOrder S ep) es)[i]?).map λe=>(e.2,slotAt w t i)) s;cases e:(hV (w.params.setOrder S ep) es)[i]? with
  |some x=>rw[j];exact f x e
  |none=>
   have n:(hV (w.params.setOrder S ep) es).size=es.size:=by have:=(sW (w.params.setOrder S ep) es).length_eq;simpa using this
   have:=Array.getElem?_eq_none_iff.mp e;exact k (by lia)
 .rw[ib a];have y:¬(!t.plain&&decide (es.size>1))=true:=by rw[q];simp
  show ag _ _ (if(!t.plain&&decide (es.size>1))=true then _ else _) _ _ s;rw[ib y];show ag _ _ ((if(!t.led&&!es.isEmpty)=true then _ else _)>>=_) _ _ s;rw[ib (by rw[r a];simp)];refine aAa (aAb<|aAb ?_);rw[DC t u a (by lia)];have h:(walkL w S es ep)=es.toList:=by unfold walkL;rw[ib a]
  rw[h,aAF]at f;by_cases z:i<es.size
  .have g:es[i]?=some es[i]:=aAL z;have b:i<t.place.size:=by lia
   have B:t.place[i]?=some t.place[i]:=aAL b;have:=f _ g;rw[g,B];have C:slotAt w t (i+1)=t.place[i]+1:=by show(if w.params.followText "set-order"=true then 0 else t.place.getD i 0+1)=_;rw[ib a];simp[aFl,b]
   rw[C]at this;exact this
  .have g:es[i]?=none:=aCK (by lia);rw[g];exact k (by lia)
def Q7 (h:O7 s.heap w it S t i n ep):s.TypeIs (.ref it) "set_iterator":=⟨_,h,rfl⟩
def QP {Q:Option ae->a9->Prop}(a:O7 s.heap w it S t i es.size ep)(b:IsSet s.heap S es ep t)(d:t.fits es.size=true)(j:t.plain=true)(k:¬w.params.followText "set-order"=true->t.led=true)(l:ST.GX t.place)(m:i<es.size)(h:∀e h',(walkL w S es ep)[i]?=some e->O7 h' w it S t (i+1) es.size ep->Heap.SameBut it s.heap h'->Q (some e.2) {s with heap:=h'}):ag (bc prog w) A (eR (.ref it)) Q E s:=by
 have f:=Q7 a;obtain⟨o,n,z,p⟩:=id b;unfold eR;refine aAa (aEz (aCy (name:=aDz "__next__") f F.slot_seti_next
  (aBC F.slot_seti_next f F.entry_seti_next ?_ (F.args_seti_next _))))
 refine aAa (aAb ?_);refine aAa (wpAny_fieldsOf a rfl ?_);show ag _ _ (setEntries S>>=_) _ _ s;refine aAa (aEK n p d ?_);rw[ib (by simp)];show ag _ _ (setNext S (aEL (slotAt w t i:Int)) (aEL (i:Int)) (aEL (ep:Int))>>=_) _ _ s;rw[aBZ,aBZ,aBZ];refine aAa (yB b d j k l (aDx m) (λe q=>?_) λe=>by lia);show ag _ _ (setField (.ref it) 0 (eh<|slotAt w t<|i+1)>>=_) _ _ s;refine aAa (aCe a (by simp) λr u v=>?_);show ag _ _ (setField (.ref it) 1 (eh<|(i:Int)+1)>>=_) _ _ _;refine aAa (aCe (s:={s with heap:=r}) u (by simp) λg x y=>?_);refine aAb ⟨_,rfl,aAb (h e g q ?_ (v.trans y))⟩;have:g.get? it=some _:=x;unfold O7;rw[this];simp
def VL {Q:Option ae->a9->Prop}(k:A.handled=none)(d:O7 s.heap w it S t es.size es.size ep)(f:IsSet s.heap S es ep t)(g:t.fits es.size=true)(l:t.plain=true)(n:¬w.params.followText "set-order"=true->t.led=true)(p:ST.GX t.place)(h:∀h',Heap.ExtBut it s.heap h'->Q none {s with heap:=h'}):ag (bc prog w) A (eR (.ref it)) Q E s:=by
 have i:=Q7 d;obtain⟨o,q,x,r⟩:=id f;unfold eR;refine aAa (aEz (aCy (name:=aDz "__next__") i F.slot_seti_next
  (aBC F.slot_seti_next i F.entry_seti_next ?_ (F.args_seti_next _))))
 refine aAa (aAb ?_);refine aAa (wpAny_fieldsOf d rfl ?_);show ag _ _ (setEntries S>>=_) _ _ s;refine aAa (aEK q r g ?_);rw[ib (by simp)];show ag _ _ (setNext S (aEL (slotAt w t es.size:Int)) (aEL (es.size:Int)) (aEL (ep:Int))>>=_) _ _ s;rw[aBZ,aBZ,aBZ];refine aAa (yB f g l n p (aAh _) (λe u=>?_) λ_=>?_)
 .have v:=(walkL_perm w S es ep).length_eq;have j:=(aAC.mp u).1;rw[v]at j;simp at j
 .show ag _ _ (setField (.ref it) 2 .none>>=_) _ _ s;refine aAa (wpAny_setField d rfl (by simp) ?_);show ag _ _ (newExc (.type "StopIteration") []>>=_) _ _ _;refine aAa ?_;simp only[newExc,newTuple];refine aAa (aBt ?_ (by size_fits));refine aAa (m:=firstArgMember _ _) (aGp (a:=Value.none) (by first|rfl|(simp only[firstArgMember];rfl)) ?_);refine aBt ?_ (by size_fits);simp only[raiseNew];refine aAa (wpAny_handled ?_);rw[show A.in1.handled=none from k];refine aAa (aAb<|wpAny_throw ?_);refine aAa (aDP (T:= "StopIteration") (b:=true) ⟨_,aAp _ rfl,rfl⟩ isSubtype_stop ?_);exact aAb (h _<|((Heap.SameBut.update ..).extBut.push _).push _)
def dH (x:IsSet h S es ep t)(e:∀o,h.get? S=some o->h'.get? S=some o):IsSet h' S es ep t:=let⟨o,a,r⟩:=x;⟨o,e o a,r⟩
end
section
def IR (p:A.handled=none)(I S:bb)(r:S≠I)(g:t.fits es.size=true)(j:t.plain=true)(k:¬w.params.followText "set-order"=true->t.led=true)(l:ST.GX t.place):
  Walks prog w A I [I,S] [I] es.size (λi v=>∃e,(walkL w S es ep)[i]?=some e/\v=e.2) (λi h=>O7 h w I S t i es.size ep/\IsSet h S es ep t)where
 sub:=λb a=>by simp at a;simp[a]
 frame:=λ_ _ _ st m=>⟨m I (by simp) _ st.1,dH st.2 λo e=>m S (by simp) o e⟩
 item:=λi s Q E u st d=>QP st.1 st.2 g j k l u λe f x y n=>d e.2 f s.toks ⟨e,x,rfl⟩ ⟨y,dH st.2 λo q=>(n.2 S r).trans q⟩ λb o a q=>(n.2 b (λz=>a (by simp[z]))).trans q
 done:=λs Q E st d=>VL p st.1 st.2 g j k l λf B=>d f s.toks λb o a q=>B b o (λz=>a (by simp[z])) q
 self:=λi s Q E st d=>by refine aFt (Q7 st.1) F.slot_seti_iter (aBC F.slot_seti_iter (Q7 st.1) F.entry_seti_iter ?_ (F.args_seti_iter _));refine aAa (aAb<|aAb ⟨_,rfl, "set_iterator",_,Q7 st.1,F.slot_seti_next.lookup,d⟩)
def collect_set {Q:List ae->a9->Prop}(hh:A.handled=none)(hS:IsSet s.heap S es ep t)(hf:t.fits es.size=true)(hp:t.plain=true)(hl:¬w.params.followText "set-order"=true->t.led=true)(ha:ST.GX t.place)(hn:es.size<=sizeLine)
  (hQ:∀h' tk,(∀b o,s.heap.get? b=some o->h'.get? b=some o)->Q ((walkL w S es ep).map (·.2)) {s with heap:=h',toks:=tk}):ag (bc prog w) A (collect (.ref S)) Q E s:=by
 obtain⟨J,f,j,hdS⟩:=id hS;have hT:s.TypeIs (.ref S) "set":=⟨J,f,j⟩;have H:S<s.heap.objs.size:=aAf f;unfold collect;refine aAa (wpAny_runValue<|aBu PySem.F.entry_proto_collect ?_);rw[aAY PySem.F.plain_proto_collect _];show ag _ A.in1 (newList []>>=λl=>again (.builtin "list.__iadd__" ⟨[l,.ref S],[]⟩)) _ _ s;refine aAa (aBt ?_);refine aAb ⟨aBB PySem.F.plain_list_iadd _,aBu PySem.F.entry_list_iadd ?_⟩;rw[aAY PySem.F.plain_list_iadd _];generalize k:s.heap.push {cls:=.type "list",data:=.seq ([]:List ae).toArray}=a;have g:∀b o,s.heap.get? b=some o->a.get? b=some o:=λb o e=>by rw[<-k];exact aAc _ e
 have d:a.objs.size=s.heap.objs.size+1:=by rw[<-k,aBw]
 have L:a.get? s.heap.objs.size=some {cls:=.type "list",data:=.seq ([]:List ae).toArray}:=by rw[<-k];exact aAp _ rfl
 have p:IsSet a S es ep t:=dH hS λo e=>g S o e;have N:Shared.TypeIs {s with heap:=a} (.ref S) "set":=⟨J,g _ _ f,j⟩;have q:aDb (.ref s.heap.objs.size) (.ref S)=false:=by simp[aDb,aDd H]
 show ag _ A.in1 (aCf (.ref s.heap.objs.size) (.ref S)<|.ref s.heap.objs.size) _ _ _;unfold aCf;refine aAa (aDV N ?_);rw[ib (by rw[q];decide)];refine aAa (NT (s:={s with heap:=a}) p hf hp ?_);refine aAa (aAR ?_);generalize r:a.push {cls:=.type "set_iterator",dict:=none,data:=.fields #[eh (slotAt w t 0),eh (0:Nat),.ref S,eh es.size,eh ep],slots:=#[]}=n;have h:∀b o,a.get? b=some o->n.get? b=some o:=λb o e=>by rw[<-r];exact aAc _ e
 have O:O7 n w a.objs.size S t 0 es.size ep:=by rw[<-r];exact aAp _ rfl
 have T:IsSet n S es ep t:=dH p λo e=>h S o e;have m:Shared.TypeIs {s with heap:=n} (.ref S) "set":=⟨J,h _ _ (g _ _ f),j⟩;have u:=h _ _ L;unfold aCG;refine aAa (aBD m PySem.F.slot_set_len.lookup ?_)
 (generalize hid:("set.__len__":String)=v;(fail_if_success (clear hid v));wp_delta;rw[show splitId v=some ("set", "__len__")from by subst hid;decide+kernel];subst hid)
 refine aAa (aDP (b:=true) m (by rw[aFh];kernel_rfl) ?_);rw[ib (by decide)];refine JL (by decide+kernel) ?_
 .refine aAa (aDV m<|aAb ?_);rw[h9 (by decide)];show ag _ A.in1 (rule "list.extend.makes-room">>=λ_=>aFN (.ref s.heap.objs.size)>>=λ_=>again (.builtin "list.extend.loop" ⟨[.ref s.heap.objs.size,.ref a.objs.size,.ref s.heap.objs.size],[]⟩)) _ _ _
  refine aAa (aDD ?_);refine aAa ?_;show ag _ A.in1 (fo s.heap.objs.size (·.push .none)>>=λ_=>fo s.heap.objs.size (·.pop)) _ _ _;refine aAa (aBF u rfl ?_);have x:=aBa (aBI (·.push Value.none)) u rfl;refine aBF x rfl ?_;have U:=aBa (aBI (·.pop)) x rfl;have Y:∀b o,b≠s.heap.objs.size->n.get? b=some o->((n.update s.heap.objs.size (aBI (·.push Value.none))).update s.heap.objs.size (aBI (·.pop))).get? b=some o:=
   λb o y e=>(aAx _ _<|aBW y).trans ((aAx _ _<|aBW y).trans e)
  have z:a.objs.size≠s.heap.objs.size:=by rw[d];lia
  have W:=(IR (prog:=prog) (w:=w) (A:=A.in1) (by simp[hh]) a.objs.size S (by rw[d];exact aAm (aBg H)) (es:=es) (ep:=ep) (t:=t) hf hp hl ha).toS;refine aAb ⟨aBB PySem.F.plain_extend_loop _,codeAny_extend_loopS W hn _ (by simp only[aAd,aAD,or_false,not_or];exact⟨aBW z,aDd H⟩) _ es.size 0 _ _ _ rfl (aAX _) ⟨Y _ _ z O,dH T λo e=>Y S o (aAm H) e⟩ U (ItemsOf.nil _) λB kg c' I gr fb=>?_⟩;show ag _ A (load s.heap.objs.size>>=_) _ _ B;refine aAa (wpAny_load gr ?_);refine aAb ?_;have g0:B.gens=s.gens:=I.gens;have d0:B.drawn=s.drawn:=I.drawn;have o0:B.os=s.os:=I.os;have ea:kg.toList=(walkL w S es ep).map (·.2):=by
   have qd:=(walkL_perm w S es ep).length_eq;apply aEf;intro i;rw[aAI,aAF];by_cases hi:i<es.size
   .have C:i<kg.size:=by rw[fb.1];exact hi
    obtain⟨e,he,hv⟩:=fb.2 i _ (aAL C);rw[he,aAL C,hv];rfl
   .rw[aCK (by rw[fb.1];lia),aEq (by rw[qd];simp;lia)];rfl
  obtain⟨h',g',d',zd,os'⟩:=B;subst g0 d0 o0;rw[ea];refine hQ h' zd λb o e=>?_;have y:b≠s.heap.objs.size:=aAm (aAf e);have yh:b≠a.objs.size:=by rw[d];exact aAm (aBg<|aAf e)
  exact I.heap b o (by simp only[aAd,aAD,or_false,not_or];exact⟨y,yh⟩) (Y b o y<|h _ _<|g _ _ e)
end
end SI
namespace DL
open PySem PySem.Spec L2
open PyProof.Rows hiding St
def LZ:D->Bool
 |.int _=>true
 |_=>false
def S7:D->Bool
 |.tup Y=>!Y.isEmpty&&Y.all LZ
 |_=>false
def intD:D->Int
 |.int i=>i
 |_=>0
def flat:D->List Int
 |.tup Y=>Y.map intD
 |_=>[]
theorem MD:∀{Y:List D},Y.all LZ=true->Y=(Y.map intD).map D.int
 |[],_=>rfl
 |x::Y,h=>by
  simp only[aGt,aAJ]at h;cases x with
  |int i=>show D.int i::Y=D.int i::(Y.map intD).map D.int;rw[<-MD h.2]
  |_=>cases h.1
def cG (h:S7 d=true):flat d≠[]/\d=.tup ((flat d).map .int):=by
 cases d with
 |tup Y=>simp only[S7,aAJ,Bool.not_eq_true',List.isEmpty_eq_false_iff]at h;refine⟨by simpa[flat]using h.1,?_⟩;show D.tup Y=D.tup ((Y.map intD).map D.int);rw[<-MD h.2]
 |_=>cases h
def cT (h:S7 d=true)(h':S7 e=true)(q:flat d=flat e):d=e:=by rw[(cG h).2,(cG h').2,q]
theorem sG:∀l:List Int,eZ (l.map D.int)=true
 |[]=>rfl
 |i::l=>by show(true&&eZ (l.map D.int))=true;rw[sG l];rfl
def A8 (h:S7 d=true):mN d=true:=by rw[(cG h).2];exact sG _
def mK (h:S7 d=true):A9 d<8:=by
 rw[(cG h).2];have:∀l:List Int,C3 (l.map D.int)=0:=λl=>by
  induction l with
  |nil=>rfl
  |cons i l a=>show max 0 (C3<|l.map D.int)=0;rw[a];rfl
 show C3 _+1<8;rw[this];lia
def qZ (d:D):List D->List D
 |[]=>[d]
 |x::Y=>if flat d=flat x then x::Y else if HT.lexLt (flat d) (flat x)=true then d::x::Y else x::qZ d Y
def bV (ds:List D):List D:=ds.foldr qZ []
def RA (ds:List D):Prop:=ds.Pairwise λx y=>HT.lexLt (flat x) (flat y)=true
theorem iR:∀{Y:List D},e∈qZ d Y->e=d\/e∈Y
 |[],h=>by rcases aAd.mp h with h|h;exact .inl h;cases h
 |x::Y,h=>by
  unfold qZ at h;split at h
  .exact .inr h
  .split at h
   .rcases aAd.mp h with h|h
    .exact .inl h
    .exact .inr h
   .rcases aAd.mp h with h|h
    .exact .inr (by rw[h];exact .head _)
    .rcases iR h with h|h
     .exact .inl h
     .exact .inr (.tail _ h)
theorem yI:∀{Y:List D},e∈Y->e∈qZ d Y
 |x::Y,h=>by
  unfold qZ;split
  .exact h
  .split
   .exact .tail _ h
   .rcases aAd.mp h with h|h
    .rw[h];exact .head _
    .exact .tail _ (yI h)
theorem xX (a:S7 d=true):∀{Y:List D},(∀x∈Y,S7 x=true)->d∈qZ d Y
 |[],_=>.head _
 |x::Y,h=>by
  unfold qZ;split
  .rename_i q;rw[cT a (h x (.head _)) q];exact .head _
  .split
   .exact .head _
   .exact .tail _ (xX a λy b=>h y (.tail _ b))
theorem wX:∀{Y:List D},RA Y->RA (qZ d Y)
 |[],_=>aDX _ _
 |x::Y,h=>by
  have b:=aAz.mp h;unfold qZ;split
  .exact h
  .rename_i ne;split
   .rename_i lt;refine aAz.mpr ⟨λy a=>?_,h⟩;rcases aAd.mp a with rfl|a
    .exact lt
    .exact TS.lex_trans _ _ _ lt (b.1 y a)
   .rename_i e;refine aAz.mpr ⟨λy a=>?_,wX b.2⟩;rcases iR a with rfl|a
    .cases q:HT.lexLt (flat x) (flat y)with
     |true=>rfl
     |false=>exact absurd (TS.lex_total _ _ (by simpa using e) q) ne
    .exact b.1 y a
theorem eS:∀ds:List D,RA (bV ds)
 |[]=>.nil
 |_::ds=>wX (eS ds)
theorem xB:∀{ds:List D},(∀d∈ds,S7 d=true)->∀d∈bV ds,S7 d=true
 |[],_,d,h=>by cases h
 |e::ds,h,d,hd=>by
  rcases iR hd with rfl|hd
  .exact h _ (.head _)
  .exact xB (λd hd=>h d (.tail _ hd)) d hd
theorem O5:∀{ds:List D},(∀d∈ds,S7 d=true)->∀d,d∈bV ds↔d∈ds
 |[],_,d=>Iff.rfl
 |e::ds,h,d=>by
  have a:∀d∈ds,S7 d=true:=λd b=>h d (.tail _ b);constructor
  .intro q;rcases iR q with rfl|q
   .exact .head _
   .exact .tail _ ((O5 a d).mp q)
  .intro q;rcases aAd.mp q with rfl|q
   .exact xX (h _<|.head _) (xB a)
   .exact yI ((O5 a d).mpr q)
theorem oO:∀{Y b:List D},RA Y->RA b->(∀d,d∈Y↔d∈b)->Y=b
 |[],[],_,_,_=>rfl
 |[],y::b,_,_,h=>by have:=(h y).mpr (.head _);cases this
 |x::Y,[],_,_,h=>by have:=(h x).mp (.head _);cases this
 |x::Y,y::b,j,k,h=>by
  have e:=aAz.mp j;have f:=aAz.mp k;have a:∀d:D,HT.lexLt (flat d) (flat d)≠true:=λd q=>by rw[TS.lex_irrefl]at q;cases q
  have g:x=y:=by
   rcases aAd.mp ((h x).mp (.head _))with q|q
   .exact q
   .rcases aAd.mp ((h y).mpr (.head _))with i|i
    .exact i.symm
    .exact absurd (TS.lex_trans _ _ _ (f.1 x q)<|e.1 y i) (a y)
  subst g;congr 1;refine oO e.2 f.2 λd=>?_;constructor
  .intro q;rcases aAd.mp ((h d).mp (.tail _ q))with z|z
   .subst z;exact absurd (e.1 d q) (a d)
   .exact z
  .intro q;rcases aAd.mp ((h d).mpr (.tail _ q))with z|z
   .subst z;exact absurd (f.1 d q) (a d)
   .exact z
def HX (h:RA Y):Y.Nodup:=h.imp λ{x y} q z=>by subst z;rw[TS.lex_irrefl]at q;cases q
def rz:D->R (List D)
 |.lst a=>if a.all S7=true/\(bV a).length<=63 then .ok (bV a)else .bad
 |_=>.bad
section
mutual
theorem V6 (I:Inv X a σ H s):∀{v:V} {d:D} {u:ae},Rep X.K H O v d->mN d=true->RelV v u->HV s.heap u d
 |_,_,_,.non,e,_=>by cases e
 |_,_,_,.bl,e,_=>by cases e
 |_,_,_,.str,e,_=>by cases e
 |_,_,_,.lst _ _ _,e,_=>by cases e
 |_,_,_,.dct _ _ _,e,_=>by cases e
 |_,_,_,.int,_,r=>by obtain⟨t,rfl⟩:=r;exact .int _ t
 |_,_,_,.tup h r,e,b=>by cases b;obtain⟨f,g,p,_⟩:=I.tuple h;exact .tup p (EL I r e g)
theorem EL (I:Inv X b σ H s):∀{v:List V} {d:List D} {u:List ae},Reps X.K H O v d->eZ d=true->l8 v u->HVs s.heap u d
 |_,_,_,.nil,_,.nil=>.nil
 |_,_,_,.cons r t,e,.cons f g=>by have a:(mN _&&eZ _)=true:=e;rw[aAJ]at a;exact .cons (V6 I r a.1 f) (EL I t a.2 g)
end
end
variable [Tabs]
def cj (w:cp)(o:Obj)(es:List ae):Prop:=o.ExactSet/\∃a b t,o.data=.set a b t/\t.fits a.size=true/\t.plain=true/\t.led=!w.params.followText "set-order"/\ST.GX t.place/\a.toList.map (·.2)=es
abbrev v9 (K:i6)(H:Hp)(O:bb->Prop):List ae->List D->Prop:=Paired λu d=>∃v,RelV v u/\Rep K H O v d
theorem v9.of {K:i6}{H:Hp}{O:bb->Prop}:∀{vs:List V} {a:List ae} {ds:List D},l8 vs a->Reps K H O vs ds->v9 K H O a ds
 |_,_,_,.nil,.nil=>.nil
 |_,_,_,.cons r t,.cons q u=>.cons ⟨_,r,q⟩ (v9.of t u)
theorem v9.ac3 {K:i6}{H:Hp}{O:bb->Prop}:∀{a:List ae} {ds:List D},v9 K H O a ds->∃vs,l8 vs a/\Reps K H O vs ds
 |_,_,.nil=>⟨[],.nil,.nil⟩
 |_,_,.cons ⟨v,r,q⟩ t=>let⟨vs,b,d⟩:=v9.ac3 t;⟨v::vs,.cons r b,.cons q d⟩
def v9.same {K:i6}{H H':Hp}{O:bb->Prop}(s:Same H H'){a:List ae}{ds:List D}(h:v9 K H O a ds):v9 K H' O a ds:=cC (by rintro _ _ ⟨v,r,q⟩;exact⟨v,r,q.same s⟩) h
theorem v9.get {K:i6}{H:Hp}{O:bb->Prop}:∀{a:List ae} {ds:List D} {u:ae},v9 K H O a ds->u∈a->∃d∈ds,∃v,RelV v u/\Rep K H O v d
 |_,_,_,.cons r t,h=>by
  rcases aAd.mp h with rfl|h
  .exact⟨_,.head _,r⟩
  .obtain⟨d,b,q⟩:=v9.get t h;exact⟨d,.tail _ b,q⟩
open Classical in
def P7 (K:i6) (H:Hp) (h:cq):cq:=PySem.W.hideAll h ((aBy h.objs.size).filter λa=>decide (¬∃Y,U4 K H a Y))
def Z3 (K:i6)(H:Hp)(h:cq):Keeps (P7 K H h) h:=λb o e=>PySem.W.of_hideAll _ e
open Classical in
def zQ {K:i6}{H:Hp}{h:cq}{b:bb}{o:Obj}{Y:List V}(e:h.get? b=some o)(q:U4 K H b Y):(P7 K H h).get? b=some o:=PySem.W.hideAll_get _ e λa=>by have:=(aAK.mp a).2;exact(of_decide_eq_true this) ⟨Y,q⟩
open Classical in
def AI {K:i6}{H:Hp}{h:cq}{b:bb}{o:Obj}(e:(P7 K H h).get? b=some o):∃Y,U4 K H b Y:=by refine Classical.byContradiction λn=>?_;have a:=Z3 K H h b o e;have:(P7 K H h).get? b=none:=PySem.W.hideAll_none _ (aAK.mpr ⟨aCB.mpr (aAf a),decide_eq_true n⟩);rw[this]at e;cases e
section
mutual
theorem QB (I:Inv X a σ H s):∀{v:V} {d:D} {u:ae},Rep X.K H O v d->mN d=true->RelV v u->HV (P7 X.K H s.heap) u d
 |_,_,_,.non,e,_=>by cases e
 |_,_,_,.bl,e,_=>by cases e
 |_,_,_,.str,e,_=>by cases e
 |_,_,_,.lst _ _ _,e,_=>by cases e
 |_,_,_,.dct _ _ _,e,_=>by cases e
 |_,_,_,.int,_,r=>by obtain⟨t,rfl⟩:=r;exact .int _ t
 |_,_,_,.tup h r,e,b=>by cases b;obtain⟨f,i,⟨o,g,c,n,d⟩,_⟩:=I.tuple h;exact .tup ⟨o,zQ g h,c,n,d⟩ (EK I r e i)
theorem EK (I:Inv X b σ H s):∀{v:List V} {d:List D} {u:List ae},Reps X.K H O v d->eZ d=true->l8 v u->HVs (P7 X.K H s.heap) u d
 |_,_,_,.nil,_,.nil=>.nil
 |_,_,_,.cons r t,e,.cons f g=>by have a:(mN _&&eZ _)=true:=e;rw[aAJ]at a;exact .cons (QB I r a.1 f) (EK I t a.2 g)
end
mutual
theorem PR (I:Inv X b σ H s):∀{u:ae} {d:D},HV (P7 X.K H s.heap) u d->∃v,RelV v u/\Rep X.K H O v d
 |_,_,.int i t=>⟨.int i,⟨t,rfl⟩,.int⟩
 |_,_,.tup (a:=a) ⟨o,g,c,n,h⟩ r=>by obtain⟨Y,q⟩:=AI g;obtain⟨j,k,l⟩:=v9.ac3 (GT I r);obtain⟨m,p,⟨x,e,_,y,f⟩,_⟩:=I.tuple q;rw[Z3 _ _ _ _ _ g]at e;cases e;rw[h]at f;injection f with w _;subst w;have:j=Y:=k.inj (by simpa using p);subst this;exact⟨.ref a,rfl,.tup q l⟩
theorem GT (I:Inv X a σ H s):∀{u:List ae} {d:List D},HVs (P7 X.K H s.heap) u d->v9 X.K H O u d
 |_,_,.nil=>.nil
 |_,_,.cons r t=>.cons (PR I r) (GT I t)
end
end
section
def pk (X:Cx)(B:D->Bool)(U:List D->List D)(f:Ev->R D):TE:=λσ H Q=>∃i j O ρ,EnvOk X.K i j H O σ ρ/\match f ρ with
 |.ok (.lst b)=>(b.all B=true/\(U b).length<=63)/\∀S o g e a,Same H a->a S=none->cj X.w o g->v9 X.K a O g e->e.Nodup->(∀d,d∈e↔d∈b)->Q (.ref S) (upd a S<|.frz o (.own S))
 |.ex x=>∀h,Same H h->XW X x h
 |_=>False
def EG {B:D->Bool}{U:List D->List D}(hB:∀{d},B d=true->mN d=true/\A9 d<8/\∃Y,d=.tup Y)(hU:∀{ds:List D},(∀d∈ds,B d=true)->∀d,d∈U ds↔d∈ds)(ha:PB X e f)(hh:X.calm=true)(hu:X.A.units+300<dg)(hg:Gl X "set":=by rfl)(hm:X.mg "set"=none:=by assumption)(hv:cv "set"=some (.type "set"):=by decide+kernel)(he:ar [e] X.env=(false,dm e X.env)::ar [] X.env:=by rfl)(bo:(cz C (ar [] X.env)).any (·.1)=false:=by rfl):
  PE X (.Call (.Name "set" p) [e] [] C) (pk X B U f):=by
 refine wN λJ s σ H Q I H9 O0 O ρ E q=>?_;refine aAW (M1 I hg hm hv ?_ (by decide) (by decide));have qc:PA X [e] _:=K3 ha bJ he;refine aBk (F7 (qc C J s σ H (λvs g=>∃v ds,vs=[v]/\f ρ=.ok (.lst ds)/\Same H g/\A5 X.K g O v (.lst ds)) I ⟨H9,O0,O,ρ,E,?_⟩) λus h z9=>?_) he bo
 .cases b:f ρ with
  |ex z=>rw[b]at q;exact q
  |bad=>rw[b]at q;exact q.elim
  |ok d=>
   rw[b]at q;cases d with
   |lst ds=>exactλv g h r1=>⟨v,ds,rfl,rfl,h,r1⟩
   |_=>exact q.elim
 .obtain⟨vs,g,m,r1,v,ds,ev,ef,sm,rb⟩:=z9;subst ev;rw[ef]at q;obtain⟨⟨hp,wc⟩,q⟩:=q;obtain⟨a,ws,rfl,hS,rr⟩:=rb.aa5;obtain⟨u,rfl,ru⟩:=vals1 r1;cases ru;obtain⟨k,rv,⟨oL,nL,gL,cL,dL,sL⟩,zL⟩:=m.list hS;have pt:∀d∈ds,B d=true:=aBE.mp hp;have hlen:k.toArray.size=ds.length:=by rw[aAn,<-rv.length,rr.length]
  have st:v9 X.K g O k ds:=v9.of rv rr;have L:∀(i:Nat) (v:ae),k.toArray[i]?=some v->YH (P7 X.K g h.heap) v (ds.getD i .non):=λi v n=>by
   rw[aBY]at n;obtain⟨d,x,w,mo,rp⟩:=A7 st n;have oh:ds.getD i .non=d:=by rw[aAl,x];rfl
   rw[oh];have hpt:=pt d (aAu x);obtain⟨ho,hd8,Y,rfl⟩:=hB hpt;have hv:=QB m rp ho mo;cases hv with
   |tup p r=>exact⟨_,_,rfl,rfl,hd8,.tup p r⟩
  have vd:∀i<k.toArray.size,A9 (ds.getD i .non)<8/\∃Y,ds.getD i .non=.tup Y:=λi n=>by
   have N:i<ds.length:=by rw[<-hlen];exact n
   have b:ds.getD i .non=ds[i]:=by rw[aAl,aAg N];rfl
   rw[b];exact(hB<|pt _<|aBU N).2
  refine xQ (Z3 X.K g h.heap) (val:=λi=>ds.getD i .non) (U:=U ds) (m.ok.hd hh) ⟨oL,gL,cL,nL,sL⟩ L vd (λi n=>?_) (by lia) hu λh' tk au gr ug kp=>?_
  .have N:i<ds.length:=by rw[<-hlen];exact n
   rw[hU pt];have b:ds.getD i .non=ds[i]:=by rw[aAl,aAg N];rfl
   show ds.getD i .non∈ds;rw[b];exact aBU N
  .obtain⟨⟨o,y,ep,t,ho,hc,T,ze,x,l,msk,pr,led,pl⟩,nd⟩:=gr;have mem:∀d,d∈au↔d∈ds:=λd=>by
    rw[ug];constructor
    .rintro⟨j,hj,b⟩;have wo:j<ds.length:=by rw[<-hlen];exact hj
     have e2:ds.getD j .non=ds[j]:=by rw[aAl,aAg wo];rfl
     rw[<-b,e2];exact aBU wo
    .intro x;obtain⟨j,hj,b⟩:=aBp x;refine⟨j,by rw[hlen];exact hj,?_⟩;show ds.getD j .non=d;rw[aAl,aAg hj,<-b];rfl
   have I2:=m.laid (a:=h.heap.objs.size) (o:=.frz o (.own h.heap.objs.size)) (h':=h') (t':=tk) kp (aAh _) ⟨ho,o,ho⟩;refine⟨.ref h.heap.objs.size,_,I2,rfl,q h.heap.objs.size o (y.toList.map (·.2)) au g sm (m.hok.fresh<|aAh _) ⟨⟨hc,T,ze⟩,y,ep,t,x,?_,pl,led,l.tab.asc,rfl⟩ ?_ nd mem⟩
   .have h1:=l.len;have h2:=l.room;simp only[aGv,aAJ,beq_iff_eq,decide_eq_true_eq];exact⟨by simpa using h1,by show t.place.size+t.dummies.size<=t.mask;rw[l.tab.nod];simpa using h2⟩
   .have:∀{y:List (Int×ae)} {ds:List D},Paired (EV<|P7 X.K g h.heap) y ds->v9 X.K g O (y.map (·.2)) ds:=λ{y ds} p=>by
     induction p with
     |nil=>exact .nil
     |cons r _ ih=>exact .cons (PR m r.1) ih
    exact this pr
def TC (h:cq) (v:ae):List Int:=open Classical in if p:∃d,S7 d=true/\HV h v d then flat p.choose else[]
def vT (b:S7 d=true)(a:HV h v d):TC h v=flat d:=by unfold TC;have q:∃d,S7 d=true/\HV h v d:=⟨d,b,a⟩;rw[dif_pos q,HV.inj q.choose_spec.2 a]
def G6 (f:S7 d=true)(e:HV h v d):∃b items,v=.ref b/\IsTup h b items/\IntsAre items.toList (flat d):=by
 rw[(cG f).2]at e;cases e with
 |tup p r=>
  refine⟨_,_,rfl,p,?_⟩;have:∀{a:List ae} {l:List Int},HVs h a (l.map D.int)->IntsAre a l:=λ{a l} r=>by
   induction l generalizing a with
   |nil=>cases r;exact .nil
   |cons i l g=>
    cases r with
    |cons r t=>cases r;exact .cons _ _ (g t)
  exact this r
def YD {prog:be}{w:cp}{A:cf}{E:A4}{s:a9}{x y:ae}{d e:D}{f:Bool}{Q:wO}(g:S7 d=true)(h:S7 e=true)(i:HV s.heap x d)(j:HV s.heap y e)(q:Q (HT.lexLt (flat d) (flat e)) s):ag (bc prog w) A (keyLt' (TS.tupK f) x y) Q E s:=by obtain⟨b,k,rfl,l,m⟩:=G6 g i;obtain⟨p,a,rfl,n,o⟩:=G6 h j;exact TS.lt_ints f l n m o q
def NL {prog:be}{w:cp}{A:cf}{E:A4}{s:a9}{vs:List ae}{Q:SortKind->a9->Prop}(h:∀x∈vs,∃d,S7 d=true/\HV s.heap x d)(v:2<=vs.length)(q:Q (TS.tupK true) s):ag (bc prog w) A (keyKind' vs.toArray) Q E s:=by
 obtain⟨g,j⟩:∃g:ae->ae,∀x∈vs,∃b a k t,x=.ref b/\IsTup s.heap b a/\a[0]?=some (g x)/\g x=.int k t:=by
  refine⟨λx=>open Classical in if z:∃p,∃b a k t,x=.ref b/\IsTup s.heap b a/\a[0]?=some p/\p=aGO k t then z.choose else .none,λx m=>?_⟩;obtain⟨d,y,C⟩:=h x m;obtain⟨b,a,rfl,H,f⟩:=G6 y C;have B:=(cG y).1;have z:∃p,∃i a k t,aDJ b=.ref i/\IsTup s.heap i a/\a[0]?=some p/\p=aGO k t:=by
   cases e:a.toList with
   |nil=>rw[e]at f;generalize flat d=l at f B;cases f;exact absurd rfl B
   |cons p J=>
    rw[e]at f;generalize flat d=l at f;cases f with
    |cons k t L=>exact⟨_,b,a,k,t,rfl,H,by rw[<-aAF,e];rfl,rfl⟩
  dsimp only;rw[dif_pos z];obtain⟨i,I,k,t,n,o,r,u⟩:=z.choose_spec;exact⟨i,I,k,t,n,o,r,u⟩
 refine TS.kind_tuples (T:= "int") g (λx m=>?_) (λz=>by rw[z]at v;simp at v) (by decide) q;obtain⟨b,a,k,t,n,o,r,u⟩:=j x m;exact⟨b,a,n,o,r,by rw[u];exact typeIs_int s k t⟩
def uP {K:i6}{H:Hp}{O:bb->Prop}{n b:List ae}{ds:List D}{key:ae->List Int}(st:v9 K H O n ds)(C:b.Perm n)(E:b.Pairwise λx y=>HT.lexLt (key y) (key x)=false)(I:∀u d,(∃v,RelV v u/\Rep K H O v d)->d∈ds->key u=flat d)(pt:∀d∈ds,S7 d=true)(J:ds.Nodup):
  ∃a,v9 K H O b a/\a.Perm ds/\RA a:=by
 obtain⟨a,j,k⟩:=Y4 C st;refine⟨a,k,j,?_⟩;have m:a.Nodup:=j.nodup_iff.mpr J;have o:∀d∈a,S7 d=true:=λd f=>pt d (j.mem_iff.mp f);have p:∀u d,(∃v,RelV v u/\Rep K H O v d)->d∈a->key u=flat d:=λu d h f=>I u d h (j.mem_iff.mp f);clear C j st J pt I;induction k with
 |nil=>exact .nil
 |@cons u d n ds r t s=>
  have w:=aAz.mp E;have A:=aAE.mp m;refine aAz.mpr ⟨λe g=>?_,s w.2 A.2 (λd f=>o d (.tail _ f)) λu d h f=>p u d h (.tail _ f)⟩;have:∃i∈n,∃v,RelV v i/\Rep K H O v e:=by
   clear s E w A m o p r;induction t with
   |nil=>cases g
   |cons r t s=>
    rcases aAd.mp g with rfl|g
    .exact⟨_,.head _,r⟩
    .obtain⟨i,B,q⟩:=s g;exact⟨i,.tail _ B,q⟩
  obtain⟨i,B,q⟩:=this;have l:=w.1 i B;rw[p i e q (.tail _ g),p u d r (.head _)]at l;cases z:HT.lexLt (flat d) (flat e)with
  |true=>rfl
  |false=>have:=cT (o _<|.head _) (o _<|.tail _ g) (TS.lex_total _ _ z l);subst this;exact absurd g A.1
def iT {p T cb:Pos}{f:Ev->R D}(ha:PB X e f)(hh:X.calm=true)(hu:X.A.units+300<dg)(hg:Gl X "set":=by rfl)(hm:X.mg "set"=none:=by assumption)(zi:Gl X "sorted":=by rfl)(ki:X.mg "sorted"=none:=by assumption)
  (hv:cv "set"=some (.type "set"):=by decide+kernel) (hv2:cv "sorted"=some (.builtin "sorted"):=by decide+kernel)
  (he:ar [e] X.env=(false,dm e X.env)::ar [] X.env:=by rfl) (bo:(cz cb (ar [] X.env)).any (·.1)=false:=by rfl)
  (kn:ar [.Call (.Name "set" T) [e] [] cb] X.env=(false,dm (.Call (.Name "set" T) [e] [] cb) X.env)::ar [] X.env:=by rfl) (uo:(cz pos (ar [] X.env)).any (·.1)=false:=by rfl):
  PF X (.Call (.Name "sorted" p) [.Call (.Name "set" T) [e] [] cb] [] pos) (λρ=>(f ρ).bind rz):=by
 refine wN λpins s σ H Q I H9 O0 O ρ E q=>?_;dsimp only at q;refine aAW (M1 I zi ki hv2 ?_ (by decide) (by decide));have qc:PA X [.Call (.Name "set" T) [e] [] cb] _:=K3 (EG (p:=T) (B:=S7) (U:=bV) (λh=>⟨A8 h,mK h,_,(cG h).2⟩) O5 ha hh hu hg hm hv he bo) bJ kn;refine aBQ (F7 (qc pos pins s σ H (λvs H2=>∃S o Y i g L,vs=[.ref S]/\H2=upd L S (.frz o (.own S))/\f ρ=.ok (.lst g)/\(g.all S7=true/\(bV g).length<=63)/\Same H L/\L S=none/\cj X.w o Y/\v9 X.K L O Y i/\i.Nodup/\(∀d,d∈i↔d∈g)) I ⟨H9,O0,O,ρ,E,?_⟩)
  λus s1 z=>?_) kn uo
 .cases e1:f ρ with
  |ex z=>rw[e1]at q;exact q
  |bad=>rw[e1]at q;exact q.elim
  |ok d=>
   rw[e1,R.aa0]at q;cases d with
   |lst g=>
    simp only[rz]at q;by_cases hc:g.all S7=true/\(bV g).length<=63
    .exact⟨hc,λS o Y i L sm hS so st nd j=>⟨S,o,Y,i,g,L,rfl,rfl,rfl,hc,sm,hS,so,st,nd,j⟩⟩
    .rw[ib hc]at q;exact q.elim
   |_=>exact q.elim
 .obtain⟨vs,H2,I2,r1,S,o,Y,i,g,L,ev,eH,ef,⟨hp,wc⟩,sm,hS1,so,st,nd,j⟩:=z;subst ev eH;obtain⟨u,rfl,ru⟩:=vals1 r1;cases ru;rw[ef,R.aa0]at q;simp only[rz]at q;rw[h9 ⟨hp,wc⟩]at q;have pt:∀d∈g,S7 d=true:=aBE.mp hp;have zf:∀d∈i,S7 d=true:=λd J=>pt d ((j d).mp J);have s12:Same L (upd L S<|.frz o (.own S)):=j8 hS1 _;have ku:=st.same s12;obtain⟨hc,ea,ep,t,J,hf,hpln,led,asc,ees⟩:=so;have goS:=(I2.hok S _ j3).1;have hS2:SI.IsSet s1.heap S ea ep t:=⟨o,goS,hc.1,J⟩;have ze:(bV g).Perm i:=by
   letI:DecidableEq D:=λa b=>aDf _
   exact(aCM (HX<|eS g) nd).mpr λd=>by rw[O5 pt,j]
  have hsz:ea.size=i.length:=by have:=st.length;rw[<-ees]at this;simpa using this
  have h63':i.length<=63:=by rw[<-ze.length_eq];exact wc
  have wp:=SI.walkL_perm X.w S ea ep;have wpv:((SI.walkL X.w S ea ep).map (·.2)).Perm Y:=by rw[<-ees];exact wp.map _
  have m:∀u∈(SI.walkL X.w S ea ep).map (·.2),∃d,d∈i/\S7 d=true/\HV s1.heap u d:=λu hu=>by obtain⟨d,J,v,rv,rp⟩:=ku.get (wpv.mem_iff.mp hu);exact⟨d,J,zf d J,V6 I2 rp (A8<|zf d J) rv⟩
  refine TS.sorted_keys (vs:=(SI.walkL X.w S ea ep).map (·.2)) (f:=true) (key:=TC s1.heap) (C:=λs'=>∃h' N,s'={s1 with heap:=h',toks:=N}/\∀b o,s1.heap.get? b=some o->h'.get? b=some o)
   (λ{Q'} hq=>SI.collect_set (by simp[I2.ok.hd hh]) hS2 hf hpln (λnb=>by rw[led];simpa using nb) asc (by rw[hsz];exact aAs h63' (by decide)) λh' N k=>hq _ ⟨h',N,rfl,k⟩)
   (λs' ⟨h',N,r,k⟩ s6 k6 x hx y hy prog w A E hA {Q} qq=>?_) (λh2 s' ⟨h',N,r,k⟩ s6 k6 A {Q} qq=>?_) (by rw[aAj,wp.length_eq,aBd,hsz];lia) λs' ie h' l ⟨h1,N,r,k⟩ pm srt k2 hl ⟨n,gl⟩=>?_
  .subst r;obtain⟨d,_,pd,vv⟩:=m x hx;obtain⟨d',_,pd',yb⟩:=m y hy;rw[vT pd vv,vT pd' yb]at qq;exact YD pd pd' (vv.keeps λb o e _=>k6 b o (k b o e)) (yb.keeps λb o e _=>k6 b o (k b o e)) qq
  .subst r;refine NL (λx hx=>?_) h2 qq;obtain⟨d,_,pd,vv⟩:=m x hx;exact⟨d,pd,vv.keeps λb o e _=>k6 b o (k b o e)⟩
  .subst r;obtain⟨qe,st3,T,yc⟩:=uP (key:=TC s1.heap) ku (pm.trans wpv) srt (by rintro u d ⟨v,rv,rp⟩ J;exact vT (zf d J) (V6 I2 rp (A8<|zf d J) rv)) zf nd;have e2:qe=bV g:=oO yc (eS g) λd=>by rw[T.mem_iff,j,O5 pt]
   subst e2;obtain⟨wv,mo,rr⟩:=st3.ac3;have I2':=I2.kept (h':=h1) (t':=N) k;have I3:=I2'.laid (a:=l) (o:=.lst wv) (h':=h') (t':=N) k2 hl ⟨by rw[rr.length];exact aAs wc (by decide),ie,n,mo,gl⟩;exact⟨.ref l,_,I3,rfl,q wv _ l (sm.trans s12) (I2'.hok.fresh hl) rr⟩
end
end DL
namespace SZ
open PySem
abbrev Zs (h:cq)(z TI TO:bb)(a b:ae):Prop:=h.get? z=some {cls:=.type "zip",dict:=none,data:=.fields #[a,b,.bool false,.ref TI,.ref TO],slots:=#[]}
def wT (b:ae):Prop:=b=.none\/∃a:Nat,b=eh a
section
def alive {Q:Option Obj->a9->Prop}(h:Q (s.heap.get? c) s):ag (bc prog w) A (loadIfAlive c) Q E s:=λΓ p _=>by unfold loadIfAlive;rw[Sem.wp_loadIfAlive];simpa using h
def mI {Q:wO}(hz:Zs s.heap z TI TO b d)(j:wT b)(f:Q true s)(g:∀h' e,Zs h' z TI TO b e->Heap.SameBut z s.heap h'->Q false {s with heap:=h'}):ag (bc prog w) A (aBX (.ref z)) Q E s:=by
 unfold aBX;refine aAa (aCS hz rfl (x:=b) rfl ?_);rcases j with rfl|⟨a,rfl⟩
 .exact aAb f
 .show ag _ _ (loadIfAlive (aEL (a:Int))>>=_) _ _ _;refine aAa (alive ?_);by_cases h:(s.heap.get?<|aEL (a:Int)).isNone=true
  .rw[h9 h];exact aAb f
  .rw[ib h];refine aAa (aCS hz rfl (x:=d) rfl ?_);by_cases i:(d !=aDk true)=true
   .rw[h9 i];refine aAa (aCe hz (by simp) λh' k l=>aAb (g h' (.bool true) k l))
   .rw[ib i];exact aAb (g s.heap d hz ⟨rfl,λ_ _=>rfl⟩)
def KM {Q:A4}(D:ZipApart z TI TO p q U l2)(hz:Zs s.heap z TI TO f0 f1)(ho:wT f0)(xb:gh s.heap TI (.ref p) (.ref q))(we:gh s.heap TO a b)(h1:s.heap.IsListIter p U k)(h2:s.heap.IsListIter q l2 k)(ui:s.heap.IsList U Y)(qd:s.heap.IsList l2 ys)(hx:Y[k]?=some x)(hy:ys[k]?=some y)(hQ:∀h' T f0' C a' b',Zs h' z TI TO f0' C->wT f0'->gh h' TO a' b'->h'.IsListIter p U (k+1)->h'.IsListIter q l2 (k+1)->s.heap.objs.size<=T->gh h' T x y->
   (∀c o,c≠z->c≠TO->c≠p->c≠q->s.heap.get? c=some o->h'.get? c=some o)->Q (.ref T) {s with heap:=h'}):
  ag (bc prog w) A (Builtin.«zip.__next__» ⟨[.ref z],[]⟩) (λfin s'=>∃v,fin=.done (.ret v)/\Q v s') E s:=by
 show ag _ _ (field (.ref z) 2>>=_) _ _ _;refine aAa (aCS hz rfl (x:=.bool false) rfl ?_);show ag _ _ (field (.ref z) 3>>=_) _ _ _;refine aAa (aCS hz rfl (x:=.ref TI) rfl ?_);refine aAa (aBx xb rfl ?_);show ag _ _ (aBX (.ref z)>>=_) _ _ _;refine aAa (mI hz ho ?_ λt C zg d=>?_)
 .simp only[if_true];refine aAa (aDD ?_);refine aAa (aCS hz rfl (x:=.ref TO) rfl ?_);refine aAa (aCe hz (by simp) λt zg d=>?_);replace zg:Zs t z TI TO .ellipsis f1:=zg;refine aAa ?_;simp only[aEu,aEJ,aDa,aEh];refine aAa (aAa<|wpAny_onRaise ?_);show ag _ _ (aBS (.ref p)>>=_) _ _ _;refine aAa (aDo (h1.extBut d.extBut D.i1z) (ui.extBut d.extBut D.l1z) hx λig H i=>aAb ?_);have u:gh ig TO a b:=i.extBut _ _ D.TOi1 (d.extBut _ _ D.TOz we);refine aAa (aBx u rfl ?_);refine aAa (wpAny_updateSeq_pair u λaA l j=>?_);replace l:gh aA TO x b:=l;refine aAa (aCT<|aAb ?_);refine aAa (aAa<|wpAny_onRaise ?_);show ag _ _ (aBS (.ref q)>>=_) _ _ _;refine aAa (aDo (((h2.extBut d.extBut D.i2z).extBut i.extBut D.i12.symm).extBut j.extBut D.TOi2.symm)
   (((qd.extBut d.extBut D.l2z).extBut i.extBut D.l2i1).extBut j.extBut D.l2TO) hy λI J m=>aAb ?_)
  have f:gh I TO x b:=m.extBut _ _ D.TOi2 l;refine aAa (aBx f rfl ?_);refine aAa (wpAny_updateSeq_pair f λg h n=>?_);replace h:gh g TO x y:=h;refine aAa (aCT<|aAb<|aAb ?_);refine aAa (aBx h rfl ?_);refine aAa (aGg ?_);have L:g.objs.size=s.heap.objs.size:=by rw[n.1,m.1,j.1,i.1,d.1]
  have hz3:Zs g z TI TO .ellipsis f1:=n.extBut _ _ D.TOz.symm (m.extBut _ _ D.i2z.symm<|j.extBut _ _ D.TOz.symm<|i.extBut _ _ D.i1z.symm zg);have hk3:∀c o,c≠z->c≠TO->c≠p->c≠q->s.heap.get? c=some o->g.get? c=some o:=λc o r c2 c3 c4 e=>n.extBut _ _ c2 (m.extBut _ _ c4<|j.extBut _ _ c2<|i.extBut _ _ c3<|d.extBut _ _ r e)
  have h11:g.IsListIter p U (k+1):=((H.extBut j.extBut D.TOi1.symm).extBut m.extBut D.i12).extBut n.extBut D.TOi1.symm;have h21:g.IsListIter q l2 (k+1):=J.extBut n.extBut D.TOi2.symm;have B:z<g.objs.size:=aAf hz3;show ag _ _ (aDN (.ref z) (.ref g.objs.size)>>=_) _ _ _;refine aAa ?_;unfold aDN;have hz5:Zs (g.push {cls:=.type "tuple",data:=.seq #[x,y]}) z TI TO .ellipsis f1:=aAc _ hz3;refine aAa (aCe hz5 (by simp) λaC N hs8=>?_);replace N:Zs aC z TI TO (eh g.objs.size) f1:=N;refine aCe N (by simp) λaB O hs9=>?_;replace O:Zs aB z TI TO (eh g.objs.size) (.bool false):=O;have up:∀c o,c≠z->g.get? c=some o->aB.get? c=some o:=λc o r e=>hs9.extBut _ _ r (hs8.extBut _ _ r<|aAc _ e);have hT0:gh aB g.objs.size x y:=hs9.extBut _ _ (aDd B) (hs8.extBut _ _ (aDd B)<|aAp _ rfl);refine aAb ⟨_,rfl,?_⟩;exact hQ aB g.objs.size _ _ x y O (.inr ⟨_,rfl⟩) (up _ _ D.TOz h) (h11.at λo e=>up _ o D.i1z e) (h21.at λo e=>up _ o D.i2z e) (aEn L.symm) hT0 λc o r c2 c3 c4 e=>up c o r (hk3 c o r c2 c3 c4 e)
 .simp only[aAq,if_false];refine aAa ?_;show ag _ _ (forIn (#[.ref p,.ref q]:Array ae) _ _) _ _ _;rw[<-aCu];simp only[aDa,aEh];refine aAa (aAa<|aAR ?_);show ag _ _ (aBS (.ref p)>>=_) _ _ _;refine aAa (aDo (h1.extBut d.extBut D.i1z) (ui.extBut d.extBut D.l1z) hx λig H i=>aAb ?_);refine aAb ?_;refine aAa (aAa<|aAR ?_);show ag _ _ (aBS (.ref q)>>=_) _ _ _;refine aAa (aDo ((h2.extBut d.extBut D.i2z).extBut i.extBut D.i12.symm) ((qd.extBut d.extBut D.l2z).extBut i.extBut D.l2i1) hy λI J m=>aAb ?_);refine aAb (aAb ?_);have L:I.objs.size=s.heap.objs.size:=by rw[m.1,i.1,d.1]
  have hz6:Zs I z TI TO f0 C:=m.extBut _ _ D.i2z.symm (i.extBut _ _ D.i1z.symm zg);have f:gh I TO a b:=m.extBut _ _ D.TOi2 (i.extBut _ _ D.TOi1<|d.extBut _ _ D.TOz we);have h12:I.IsListIter p U (k+1):=H.extBut m.extBut D.i12;show ag _ _ (newTuple [x,y]>>=_) _ _ _;refine aAa (aGg ?_);refine aAb ⟨_,rfl,?_⟩;exact hQ _ I.objs.size _ _ a b (aAc _ hz6) ho (aAc _ f) (h12.at λo e=>aAc _ e) (J.at λo e=>aAc _ e) (aEn L.symm) (aAp _ rfl)
   λc o r c2 c3 c4 e=>aAc _ (m.extBut _ _ c4<|i.extBut _ _ c3<|d.extBut _ _ r e)
def UU {Q:Fin->a9->Prop}(y:A.handled=none)(D:ZipApart z TI TO h m B C)(hz:Zs s.heap z TI TO O H)(T:wT O)(U:gh s.heap TI (.ref h) (.ref m))(we:gh s.heap TO a b)
  (I:s.heap.IsListIter h B k) (h2:s.heap.IsListIter m C k) (J:s.heap.IsList B Y) (qd:s.heap.IsList C ys) (L:Y[k]?=none)
  (N:∀h' e,(∀c o,c≠z->c≠TO->c≠h->c≠m->s.heap.get? c=some o->h'.get? c=some o)->(∃o,h'.get? e=some o/\o.cls=.type "StopIteration")->E (.ref e) {s with heap:=h'}):
  ag (bc prog w) A (Builtin.«zip.__next__» ⟨[.ref z],[]⟩) Q E s:=by
 show ag _ _ (field (.ref z) 2>>=_) _ _ _;refine aAa (aCS hz rfl (x:=.bool false) rfl ?_);show ag _ _ (field (.ref z) 3>>=_) _ _ _;refine aAa (aCS hz rfl (x:=.ref TI) rfl ?_);refine aAa (aBx U rfl ?_);show ag _ _ (aBX (.ref z)>>=_) _ _ _;refine aAa (mI hz T ?_ λd f1' n f=>?_)
 .simp only[if_true];refine aAa (aDD ?_);refine aAa (aCS hz rfl (x:=.ref TO) rfl ?_);refine aAa (aCe hz (by simp) λd n f=>?_);replace n:Zs d z TI TO .ellipsis H:=n;refine aAa ?_;simp only[aEu,aEJ,aDa,aEh];refine aAa (aAa<|wpAny_onRaise ?_);show ag _ _ (aBS (.ref h)>>=_) _ _ _;refine aAa (wpAny_nextOf_list_end y (I.extBut f.extBut D.i1z) (J.extBut f.extBut D.l1z) L λr e p t=>?_);obtain⟨oe,g,i⟩:=t;have j:Zs r z TI TO .ellipsis H:=p _ _ D.i1z.symm n;have u:e≠z:=λx=>by subst x;rw[j]at g;cases g;simp at i
  exact aCe j (by simp) λaA _ l=>N aA e (λc o q _ v _ x=>l.extBut _ _ q (p _ _ v<|f.extBut _ _ q x)) ⟨oe,l.extBut _ _ u g,i⟩
 .simp only[aAq,if_false];refine aAa ?_;show ag _ _ (forIn (#[.ref h,.ref m]:Array ae) _ _) _ _ _;rw[<-aCu];simp only[aDa,aEh];refine aAa (aAa<|aAR ?_);show ag _ _ (aBS (.ref h)>>=_) _ _ _;exact aAa (wpAny_nextOf_list_end y (I.extBut f.extBut D.i1z) (J.extBut f.extBut D.l1z) L λr e p t=>N r e (λc o q _ v _ x=>p _ _ v (f.extBut _ _ q x)) t)
end
def QX (z TI TO d e f g:bb)(Y k:Array ae)(i:Nat)(h:cq):Prop:=
 (∃j l,Zs h z TI TO j l/\wT j)/\gh h TI (.ref d) (.ref e)/\(∃a b,gh h TO a b)/\h.IsListIter d f i/\h.IsListIter e g i/\h.IsList f Y/\h.IsList g k
section
variable{s:a9}
def QX.type (h:QX z TI TO b d e f Y g i s.heap):s.TypeIs (.ref z) "zip":=by obtain⟨⟨j,k,a,_⟩,_⟩:=h;exact⟨_,a,rfl⟩
def QX.keeps (x:QX z TI TO d f g j Y l i h)(k:∀b o,b∈[z,TI,TO,d,f,g,j]->h.get? b=some o->h'.get? b=some o):QX z TI TO d f g j Y l i h':=by obtain⟨⟨m,n,p,q⟩,r,⟨a,b,t⟩,u,v,w,y⟩:=x;exact⟨⟨m,n,k z _ (by simp) p,q⟩,k TI _ (by simp) r,⟨a,b,k TO _ (by simp) t⟩,u.at λo e=>k d o (by simp) e,v.at λo e=>k f o (by simp) e,w.at λo e=>k g o (by simp) e,y.at λo e=>k j o (by simp) e⟩
def OH {Q:Option ae->a9->Prop}(D:ZipApart z TI TO h j m n)(hl:Y.size=d.size)(st:QX z TI TO h j m n Y d i s.heap)(B:i<Y.size)(C:∀h' T x y,Y[i]?=some x->d[i]?=some y->QX z TI TO h j m n Y d (i+1) h'->s.heap.objs.size<=T->gh h' T x y->(∀c o,c∉[z,TO,h,j]->s.heap.get? c=some o->h'.get? c=some o)->Q (some (.ref T)) {s with heap:=h'}):
  ag (bc prog w) A (eR (.ref z)) Q E s:=by
 have p:=st.type;obtain⟨⟨f0,f1,H,I⟩,q,⟨a,b,J⟩,L,N,r,t⟩:=st;have u:Y[i]?=some Y[i]:=aAL B;have v:d[i]?=some (d[i]'(by lia)):=aAL (by lia);unfold eR;refine aAa (aEz (aCy (name:=aDz "__next__") p aEb
  (aBC aEb p F.entry_zip_next (KM D H I q J L N r t u v λh' T k l O U e1 e2 e3 e4 e5 e6 e7 g=>aAb ?_)<|F.args_zip_next_1 _)))
 refine C h' T _ _ u v ⟨⟨k,l,e1,e2⟩,g _ _ D.TIz D.TITO D.TIi1 D.TIi2 q,⟨O,U,e3⟩,e4,e5,r.at λo e=>g _ o D.l1z D.l1TO D.l1i1 D.l1i2 e,t.at λo e=>g _ o D.l2z D.l2TO D.l2i1 D.l2i2 e⟩ e6 e7 λc o f e=>?_;simp only[aAd,aAD,or_false,not_or]at f;exact g c o f.1 f.2.1 f.2.2.1 f.2.2.2 e
def MG {Q:Option ae->a9->Prop}(i:A.handled=none)(D:ZipApart z TI TO f g j k)(st:QX z TI TO f g j k Y C Y.size s.heap)
  (l:∀h',(∀c o,c∉[z,TO,f,g]->s.heap.get? c=some o->h'.get? c=some o)->Q none {s with heap:=h'}):ag (bc prog w) A (eR (.ref z)) Q E s:=by
 have h:=st.type;obtain⟨⟨H,I,m,n⟩,p,⟨a,b,q⟩,r,t,u,v⟩:=st;unfold eR;refine aAa (aEz (aCy (name:=aDz "__next__") h aEb
  (aBC aEb h F.entry_zip_next (UU (by simpa using i) D m n p q r t u v (aCK<|aAh _) λh' e x y=>?_)<|F.args_zip_next_1 _)))
 obtain⟨o,B,d⟩:=y;refine aAa (aDP (T:= "StopIteration") (b:=true) ⟨o,B,d⟩ isSubtype_stop ?_);refine aAb (l _ λc o d e=>?_);simp only[aAd,aAD,or_false,not_or]at d;exact x c o d.1 d.2.1 d.2.2.1 d.2.2.2 e
def Pairs (h0:cq)(Y a B:Array ae)(i:Nat)(h:cq)(off:List bb):Prop:=B.size=i/\∀(j:Nat) (v:ae),B[j]?=some v->∃T x y,v=.ref T/\Y[j]?=some x/\a[j]?=some y/\gh h T x y/\T∉off/\h0.get? T=none
def LP (hh:A.handled=none)(D:ZipApart z TI TO g l O Q)(hl:Y.size=U.size)(hn:Y.size<=sizeLine)(S:bb)(ke:S∉[z,TI,TO,g,l,O,Q])(res:ae)(h0:cq):
  ∀(k i:Nat) (s:a9) (B:Array ae) (c:Nat),Y.size-i=k->i<=Y.size->(∀b o,b∉[z,TO,g,l,S]->h0.get? b=some o->s.heap.get? b=some o)->QX z TI TO g l O Q Y U i s.heap->s.heap.get? S=some {cls:=.type "list",dict:=none,data:=.seq B c,slots:=#[]}->Pairs h0 Y U B i s.heap [z,TO,g,l,S]->
  (∀h' L c',(∀b o,b∉[z,TO,g,l,S]->s.heap.get? b=some o->h'.get? b=some o)->h'.get? S=some {cls:=.type "list",dict:=none,data:=.seq L c',slots:=#[]}->Pairs h0 Y U L Y.size h' [z,TO,g,l,S]->R (.ok (.ret res)) {s with heap:=h'})->
  fh (bc prog w) A (.builtin "list.extend.loop" ⟨[.ref S,.ref z,res],[]⟩) R s:=by
 have C:S∉[z,TO,g,l]:=λh=>ke (by simp only[aAd,aAD,or_false]at h⊢;rcases h with h|h|h|h<;>simp[h]);have m:∀b,b∉[z,TO,g,l,S]->b∉[z,TO,g,l]:=λb h q=>h (by simp only[aAd,aAD,or_false]at q⊢;rcases q with q|q|q|q<;>simp[q]);intro k;induction k with
 |zero=>
  intro i s B c hk hi p N E n hR;have mi:i=Y.size:=by lia
  subst mi;refine aBu F.entry_extend_loop ?_;rw[aAY aDg _];show ag _ A.in1 (eR (.ref z)>>=_) _ _ s;refine aAa (MG (by simpa using hh) D N λh' kp=>?_);refine aAb (hR h' B c (λb o d e=>kp b o (m b d) e) (kp S _ C E) ⟨n.1,λj v t=>?_⟩);obtain⟨T,x,y,e1,e2,e3,e4,u,e6⟩:=n.2 j v t;exact⟨T,x,y,e1,e2,e3,kp T _ (m T u) e4,u,e6⟩
 |succ k ih=>
  intro i s B c hk hi p N E n hR;have ao:i<Y.size:=by lia
  refine aBu F.entry_extend_loop ?_;rw[aAY aDg _];show ag _ A.in1 (eR (.ref z)>>=_) _ _ s;refine aAa (OH D hl N ao λh' T x y hx hy ip hT hP kp=>?_);have gr:=kp S _ C E;have f:∀b o,s.heap.get? b=some o->T≠b:=λb o e q=>absurd (aAw (aAf e) hT) (by rw[q];exact aBf _);obtain⟨⟨f0,f1,hz,_⟩,_,⟨a,b,we⟩,⟨o1,g1,_⟩,⟨o2,g2,_⟩,_⟩:=id N;have H:T∉[z,TO,g,l,S]:=by simp only[aAd,aAD,or_false,not_or];exact⟨f _ _ hz,f _ _ we,f _ _ g1,f _ _ g2,f _ _ E⟩
  show ag _ A.in1 (fo S (·.push (.ref T))>>=_) _ _ _;refine aAa ?_;have I:∀b o,b≠S->h'.get? b=some o->(h'.update S (aBI (·.push (.ref T)))).get? b=some o:=λb o d e=>(aAx _ _<|aBW d).trans e;have neS:∀b,b∈[z,TI,TO,g,l,O,Q]->b≠S:=λb d q=>ke (q▸d);refine aBF gr rfl (aAb ⟨aBB aDg _,ih (i+1) _ (B.push<|.ref T) _ (by lia) ao (λb o d e=>I b o (λq=>d (by simp[q])) (kp b o (m b d)<|p b o d e)) (ip.keeps λb o d e=>I b o (neS b d) e) (aBa _ gr rfl) ⟨by rw[Array.size_push,n.1],λj v t=>?_⟩ λh'' L c' kp' ya r=>?_⟩)
   (by rw[n.1];lia) (by show(B.push<|.ref T).size<=sizeLine+1;rw[Array.size_push,n.1];lia)
  .rw[Array.getElem?_push]at t;split at t
   .rename_i q;cases t;rw[n.1]at q;subst q;refine⟨T,x,y,rfl,hx,hy,I T _ (f _ _ E) hP,H,?_⟩;cases q0:h0.get? T with
    |none=>rfl
    |some o=>exact absurd rfl (f T o<|p T o H q0)
   .obtain⟨J,x',y',e1,e2,e3,e4,u,e6⟩:=n.2 j v t;have n5:J≠S:=λq=>u (by simp[q]);exact⟨J,x',y',e1,e2,e3,I J _ n5 (kp J _ (m J u) e4),u,e6⟩
  .refine hR h'' L c' (λb o d e=>kp' b o d (I b o (λq=>d (by simp[q]))<|kp b o (m b d) e)) ya r
end
section
def cP {Q:A4}(St:cq->Prop)(O:∀d:a9,St d.heap->d.TypeIs (.ref I) T)(C:∀h h',St h->(∀b o,b≠s.heap.objs.size->h.get? b=some o->h'.get? b=some o)->St h')(t:I≠s.heap.objs.size)
  (n1:(aCt T==aCt "list")=false) (n2:(aCt T==aCt "tuple")=false) (U:∀{M:Model} {A:cf} {E:A4} {s:a9} {Q:Fin->a9->Prop} {a b:Sem Fin},(room=true->ag M A a Q E s)->(room=false->ag M A b Q E s)->ag M A (if(room||["set", "frozenset", "dict", "dict_keys", "dict_values", "dict_items"].any (aCt T==aCt ·))=true then a else b) Q E s)
  (j:∀(d:a9) (Q:A4) (E:A4),St d.heap->Q (.ref I) d->ag (bc prog w) A.in1.in1 (pyIter (.ref I)) Q E d)
  (hint:∀(d:a9) (Q:wO) (E:A4),St d.heap->Q room d->ag (bc prog w) A.in1.in1 (aCG (.ref I)) Q E d) (Y:St s.heap)
  (f:∀(p:cq) (c:Nat) (R:Result->a9->Prop),(∀b o,s.heap.get? b=some o->p.get? b=some o)->St p->p.get? s.heap.objs.size=some {cls:=.type "list",dict:=none,data:=.seq #[] c,slots:=#[]}->(∀s',Q (.ref s.heap.objs.size) s'->R (.ok (.ret .none)) s')->
   fh (bc prog w) A.in1 (.builtin "list.extend.loop" ⟨[.ref s.heap.objs.size,.ref I,.none],[]⟩) R {s with heap:=p}):
  ag (bc prog w) A (call (.type "list") [.ref I]) Q E s:=by
 refine callType_codes (Q₁:=λk H=>k=.ref s.heap.objs.size/\H={s with heap:=s.heap.push {cls:=.type "list",data:=.seq #[]}}) F.called_list (F.typeCall_list_1 _) F.entry_list_init
  (code_list_new _ ⟨rfl,rfl⟩) λk H l=>?_
 obtain⟨rfl,rfl⟩:=l;have r:(s.heap.push {cls:=.type "list",data:=.seq #[]}).get? s.heap.objs.size=some {cls:=.type "list",data:=.seq #[]}:=aAp _ rfl;have J:∀b o,s.heap.get? b=some o->b≠s.heap.objs.size:=λb o e=>aAm (aAf e);refine⟨⟨_,r,rfl⟩,F.args_list_init_2 _ _,?_⟩;show ag _ A.in1.in1 (do let u<-aCJ (.ref s.heap.objs.size);Builtin.List.listUpdate (.ref s.heap.objs.size) (λ_=>#[]);letGo u.toList.reverse;aCf (.ref s.heap.objs.size) (.ref I) .none) _ _ _;refine aAa ?_;unfold aCJ;refine aAa (aBx r rfl<|aAb ?_);show ag _ A.in1.in1 (fo s.heap.objs.size (λ_=>#[])>>=λ_=>letGo (#[]:Array ae).toList.reverse>>=λ_=>aCf (.ref s.heap.objs.size) (.ref I) .none) _ _ _;refine aAa (aBF r rfl ?_);have i:=aBa (aBI<|λ_=>(#[]:Array ae)) r rfl;refine aAa (aCT ?_);generalize v:(s.heap.push {cls:=.type "list",data:=.seq #[]}).update s.heap.objs.size (aBI<|λ_=>(#[]:Array ae))=g at*
 have x:∀b o,s.heap.get? b=some o->g.get? b=some o:=λb o e=>by rw[<-v];exact(aAx _ _<|aBW<|J b o e).trans (aAc _ e)
 have m:St g:=C s.heap g Y λb o _ e=>x b o e;have y:aDb (.ref s.heap.objs.size) (.ref I)=false:=by simp[aDb,aBW t]
 have z:Shared.TypeIs {s with heap:=g} (.ref I) T:=O {s with heap:=g} m;unfold aCf;refine aAa (aDV z ?_);simp only[y,n1,n2,Bool.or_false,aAq,if_false];refine aAa (j _ _ _ m ?_);refine aAa (aAR<|hint _ _ _ m ?_);refine U (λ_=>?_) (λ_=>?_)
 .show ag _ A.in1.in1 (rule "list.extend.makes-room">>=λ_=>aFN (.ref s.heap.objs.size)>>=λ_=>again (.builtin "list.extend.loop" ⟨[.ref s.heap.objs.size,.ref I,.none],[]⟩)) _ _ _;refine aAa (aDD ?_);refine aAa ?_;show ag _ A.in1.in1 (fo s.heap.objs.size (·.push .none)>>=λ_=>fo s.heap.objs.size (·.pop)) _ _ _;refine aAa (aBF i rfl ?_);have n:=aBa (aBI (·.push Value.none)) i rfl;refine aBF (hz:=by seq_fits) n rfl ?_;have B:=aBa (aBI (·.pop)) n rfl;have L:∀b o,b≠s.heap.objs.size->g.get? b=some o->((g.update s.heap.objs.size (aBI (·.push Value.none))).update s.heap.objs.size (aBI (·.pop))).get? b=some o:=
   λb o N e=>(aAx _ _<|aBW N).trans ((aAx _ _<|aBW N).trans e)
  exact aAb ⟨aBB aDg _,f _ _ _ (λb o e=>L b o (J b o e) (x b o e)) (C g _ m L) B λs' q=>⟨rfl,q⟩⟩
 .exact aAb ⟨aBB aDg _,f _ _ _ x m i λs' q=>⟨rfl,q⟩⟩
def IN:typeLookup (.type "zip") "__len__"=pure none:=by rw[aDC,aCq];kernel_rfl
def CK:typeLookup (.type "zip") "__length_hint__"=pure none:=by rw[aDC,aCq];kernel_rfl
def QV {Q:A4}(u:A.handled=none)(D:ZipApart z TI TO f g i l)(y:Y.size=m.size)(C:Y.size<=sizeLine)(st:QX z TI TO f g i l Y m 0 s.heap)(H:∀h' B c,(∀b o,b∉[z,TO,f,g]->s.heap.get? b=some o->h'.get? b=some o)->h'.get? s.heap.objs.size=some {cls:=.type "list",dict:=none,data:=.seq B c,slots:=#[]}->Pairs s.heap Y m B Y.size h' [z,TO,f,g,s.heap.objs.size]->Q (.ref s.heap.objs.size) {s with heap:=h'}):
  ag (bc prog w) A (call (.type "list") [.ref z]) Q E s:=by
 have lt:∀b∈[z,TI,TO,f,g,i,l],b≠s.heap.objs.size:=λb d=>by
  obtain⟨⟨I,J,p,_⟩,L,⟨a,b',N⟩,⟨o1,O,_⟩,⟨o2,U,_⟩,⟨o3,g3,_⟩,⟨o4,g4,_⟩⟩:=st;simp only[aAd,aAD,or_false]at d;rcases d with rfl|rfl|rfl|rfl|rfl|rfl|rfl
  .exact aAm (aAf p)
  .exact aAm (aAf L)
  .exact aAm (aAf N)
  .exact aAm (aAf O)
  .exact aAm (aAf U)
  .exact aAm (aAf g3)
  .exact aAm (aAf g4)
 refine cP (T:= "zip") (room:=true) (QX z TI TO f g i l Y m 0) (λn h=>h.type) (λh h' x k=>x.keeps λb o d e=>k b o (lt b d) e) (lt z (by simp)) (by decide) (by decide) (λr h2=>by rw[h9 (by decide)];exact r rfl)
  (λn Q E x q=>?_) (λn Q E x q=>?_) st λr c R t XC hS hR=>?_
 .obtain⟨⟨I,J,p,_⟩,_⟩:=id x;refine aFt x.type F.slot_zip_iter (aBC F.slot_zip_iter x.type F.entry_zip_iter ?_ (F.args_zip_iter_1 _));show ag _ _ (ret<|.ref z) _ _ n;exact aAb ⟨_,rfl, "zip",_,x.type,aEb.lookup,q⟩
 .unfold aCG;refine aAa (aBD x.type IN ?_);show ag _ _ (specialOf (aDJ z) (aDz "__length_hint__")>>=_) _ _ _;exact aAa (aBD x.type CK<|aAb q)
 .refine LP (by simpa using u) D y C s.heap.objs.size (λh=>lt _ h rfl) .none s.heap Y.size 0 _ #[] c (by lia) (aAX _) (λb o _ e=>t b o e) XC hS ⟨rfl,λj v h=>by simp at h⟩ λh' kg c' kp gr hP=>hR _ (H h' kg c' (λb o d e=>kp b o ?_ (t b o e)) gr hP);have:=aAm (aAf e);simp only[aAd,aAD,or_false,not_or]at d⊢;exact⟨d.1,d.2.1,d.2.2.1,d.2.2.2,this⟩
def HE:typeLookup (.type "list_reverseiterator") "__len__"=pure none:=by rw[aDC,aCq];kernel_rfl
def MO:typeLookup (.type "list_reverseiterator") "__length_hint__"=pure (some (.builtin "list_reverseiterator.__length_hint__")):=by rw[aDC,aCq];kernel_rfl
def OY {Q:A4}(C:A.handled=none)(H:l≠r)(I:Y.size<=sizeLine)(t:s.heap.IsRevIter r l ((Y.size:Int)-1))(u:s.heap.IsList l Y)(J:∀h' tk c,(∀b o,b≠r->s.heap.get? b=some o->h'.get? b=some o)->h'.get? s.heap.objs.size=some {cls:=.type "list",dict:=none,data:=.seq Y.reverse c,slots:=#[]}->Q (.ref s.heap.objs.size) {s with heap:=h',toks:=tk}):
  ag (bc prog w) A (call (.type "list") [.ref r]) Q E s:=by
 have m:r≠s.heap.objs.size:=by obtain⟨o,g,_⟩:=t;exact aAm (aAf g)
 have v:l≠s.heap.objs.size:=by obtain⟨o,g,_⟩:=u;exact aAm (aAf g)
 refine cP (T:= "list_reverseiterator") (room:=false) (λh=>h.IsRevIter r l ((Y.size:Int)-1)/\h.IsList l Y) (λy h=>h.1.typeIs) (λh h' x k=>⟨x.1.at λo e=>k r o m e,x.2.at λo e=>k l o v e⟩) m (by decide) (by decide)
  (λL N=>by rw[ib (by decide)];exact N rfl) (λy Q E x q=>wpAny_pyIter_revIter x.1 q) (λy Q E x q=>?_) ⟨t,u⟩ λL c R O XC U hR=>?_
 .have n:=x.1.typeIs;unfold aCG;refine aAa (aBD n HE ?_);show ag _ _ (specialOf (aDJ r) (aDz "__length_hint__")>>=_) _ _ _;refine aAa (aBD n MO ?_)
  (generalize hid:("list_reverseiterator.__length_hint__":String)=a;(fail_if_success (clear hid a));wp_delta;rw[show splitId a=some ("list_reverseiterator", "__length_hint__")from by subst hid;decide+kernel];subst hid)
  refine aAa (aDP (b:=true) n (by rw[aFh];kernel_rfl) ?_);exact aAb q
 .have W:=(Walks.listRev (prog:=prog) (w:=w) (A:=A.in1.in1) (by simp[C]) r l H Y).toS;refine codeAny_extend_loopS W I s.heap.objs.size (by simp only[aAd,aAD,or_false,not_or];exact⟨aBW m,aBW v⟩) .none Y.size 0 _ #[] c (by lia) (aAX _) ⟨aAX _,by simpa using XC.1,XC.2⟩ U (ItemsOf.nil _) λf z c' j gr p=>hR _ ?_;have ea:z=Y.reverse:=by
   apply Array.ext';apply aEf;intro i;rw[aAF,aAF];by_cases B:i<Y.size
   .have d:i<z.size:=by rw[p.1];exact B
    have:=p.2 i _ (aAL d);rw[aAL d,Array.getElem?_reverse B,this]
   .rw[aCK (by rw[p.1];lia),aCK (by simp;lia)]
  subst ea;have g0:f.gens=s.gens:=j.gens;have d0:f.drawn=s.drawn:=j.drawn;have o0:f.os=s.os:=j.os;obtain⟨h',g',d',zd,os'⟩:=f;subst g0 d0 o0;refine J h' zd c' (λb o hb e=>?_) gr;exact j.heap b o (by simp only[aAd,aAD,or_false,not_or];exact⟨aAm (aAf e),hb⟩) (O b o e)
end
end SZ
namespace DL
open PySem PySem.Spec L2
open PyProof.Rows hiding St
section
variable [Tabs]
section
def uw:D->R (List D)
 |.lst Y=>.ok Y.reverse
 |_=>.bad
def AF (ha:PB X e f)(hh:X.calm=true)(hg:Gl X "reversed":=by rfl)(hm:X.mg "reversed"=none:=by assumption)(zi:Gl X "list":=by rfl)(ki:X.mg "list"=none:=by assumption)(hv:cv "reversed"=some (.type "reversed"):=by decide+kernel)(B:cv "list"=some (.type "list"):=by decide+kernel)(U:ar [e] X.env=(false,dm e X.env)::ar [] X.env:=by rfl)(bo:(cz k (ar [] X.env)).any (·.1)=false:=by rfl)(Y:ar [.Call (.Name "reversed" C) [e] [] k] X.env=(false,dm (.Call (.Name "reversed" C) [e] [] k) X.env)::ar [] X.env:=by rfl)(uo:(cz i (ar [] X.env)).any (·.1)=false:=by rfl)(J:cz i (ar [] X.env)=[]:=by rfl):
  PF X (.Call (.Name "list" p) [.Call (.Name "reversed" C) [e] [] k] [] i) (λρ=>(f ρ).bind uw):=by
 refine wN λl s σ H Q I H9 O0 O ρ E q=>?_;dsimp only at q;refine aAW (M1 I zi ki B ?_ (by decide) (by decide));refine aBk ?_ Y uo;rw[Y];show ag _ _ (spliced ((false,dm (.Call (.Name "reversed" C) [e] [] k) X.env)::cz i (ar [] X.env))) _ _ s;refine aFa (aAW (M1 I hg hm hv ?_ (by decide) (by decide)));have qc:PA X [e] _:=K3 ha bJ U;refine aBk (F7 (qc k l s σ H (λj m=>∃v n,j=[v]/\f ρ=.ok (.lst n)/\Same H m/\A5 X.K m O v (.lst n)) I ⟨H9,O0,O,ρ,E,?_⟩) λA h z9=>?_) U bo
 .cases L:f ρ with
  |ex z=>rw[L]at q;exact q
  |bad=>rw[L]at q;exact q.elim
  |ok d=>
   rw[L,R.aa0]at q;cases d with
   |lst n=>exactλv m h N=>⟨v,n,rfl,rfl,h,N⟩
   |_=>exact aAk q
 .obtain⟨j,m,w,N,v,n,ev,ef,sm,rb⟩:=z9;subst ev;rw[ef,R.aa0]at q;obtain⟨a,T,rfl,hS,rr⟩:=rb.aa5;obtain⟨u,rfl,ru⟩:=vals1 N;cases ru;obtain⟨g,rv,⟨oL,nL,gL,cL,dL,sL⟩,zL⟩:=w.list hS;have hl:h.heap.IsList a g.toArray:=⟨oL,gL,cL,nL,sL⟩;refine call_reversed_list hl ?_;rw[J];refine aFo ?_;have ge:a≠h.heap.objs.size:=aAm (aAf gL);have I2:=w.kept (h':=h.heap.push (revObj a<|(g.toArray.size:Int)-1)) (t':=h.toks) λb u e=>aAc _ e;refine SZ.OY (s:={h with heap:=h.heap.push (revObj a<|(g.toArray.size:Int)-1)}) (w.ok.hd hh) ge (by rw[aAn,<-rv.length];exact zL) ⟨_,aAp _ rfl,rfl,rfl⟩ (hl.push _) λh' tk c kp gl=>?_;have kk:∀b u,h.heap.get? b=some u->h'.get? b=some u:=λb u e=>kp b u (aAm<|aAf e) (aAc _ e);have x:h.heap.objs.size<=(h.heap.push<|revObj a<|(g.toArray.size:Int)-1).objs.size:=by rw[aBw];lia
  have y:l8 T.reverse g.reverse:=by
   have:∀{j:List V} {A:List ae},l8 j A->l8 j.reverse A.reverse:=λ{j A} r=>by
    induction r with
    |nil=>exact .nil
    |cons r t ih=>rw[aAQ,aAQ];exact ih.append (.cons r .nil)
   exact this rv
  have I3:=w.laid (a:=(h.heap.push<|revObj a<|(g.toArray.size:Int)-1).objs.size) (o:=.lst T.reverse) (h':=h') (t':=tk) kk x ⟨by rw[aCH];exact zL,g.reverse,c,y,by rw[gl];simp⟩;exact⟨.ref _,_,I3,rfl,q T.reverse m _ sm (w.hok.fresh x) rr.reverse⟩
def _root_.L2.Inv.ad9 (I:Inv X d σ H s)(k:∀b u,s.heap.get? b=some u->h'.get? b=some u)(a:Same H Hn)(f:∀b u,H b=none->Hn b=some u->s.heap.get? b=none/\ObjOk X.prog X.w Hn h' b u):
  Inv X d σ Hn {s with heap:=h',toks:=t'}:=by
 refine I.un ⟨λb o e _ _ _=>k b o e,λb o e _ _ _=>⟨o.slots,k b o e⟩,λb o e n _=>?_,λb o e _=>⟨o,k b o e⟩,λb Y e=>a _ _ e,λb o u e=>a _ _ e,λb h e=>a _ _ e⟩ λb u e=>?_
 .cases q:Hn b with
  |none=>rfl
  |some u=>rw[(f b u n q).1]at e;cases e
 .cases q:H b with
  |none=>exact(f b u q e).2
  |some g=>have:=a b g q;rw[e]at this;cases this;exact(I.hok b u q).ab8 (λc v _ z=>k c v z) (λc z=>a _ _ z) λc u _ z=>a _ _ z
def jO (Y d:List D):List D:=List.zipWith (λa b=>D.tup [a,b]) Y d
def VI:List D->R (List D)
 |[.lst Y,.lst a]=>if Y.length=a.length then .ok (jO Y a)else .bad
 |_=>.bad
def HZ {K:i6}{i:Hp}{O:bb->Prop}{h0 h':cq}{l:bb}(hf:∀b,h0.get? b=none->i b=none):∀{Y h:List D} {m p B:List ae},v9 K i O m Y->v9 K i O p h->Y.length=h.length->
  (∀(j:Nat) (v:ae),B[j]?=some v->∃T x y,v=.ref T/\m[j]?=some x/\p[j]?=some y/\gh h' T x y/\T≠l/\h0.get? T=none)->B.length=Y.length->
  ∃(vs:List V) (Hn:Hp),l8 vs B/\Same i Hn/\(∀b u,i b=none->Hn b=some u->h0.get? b=none/\b≠l/\∃ws its,u=.tup ws/\ws.length<=2/\l8 ws its/\IsTup h' b its.toArray)/\Reps K Hn O vs (jO Y h):=by
 intro Y h m p B;induction B generalizing Y h m p with
 |nil=>
  intro s t z _ A;cases Y with
  |nil=>cases h with
   |nil=>exact⟨[],i,.nil,Same.refl _,λb u n q=>(by rw[n]at q;cases q),.nil⟩
   |cons _ _=>cases z
  |cons _ _=>cases A
 |cons v B ih=>
  intro s t z hP A;cases s with
  |nil=>cases A
  |@cons u d m Y rx s=>
   cases t with
   |nil=>cases z
   |@cons J d' p h ry t=>
    obtain⟨T,x,y,rfl,ex,ey,hp,nl,r⟩:=hP 0 v rfl;cases ex;cases ey;obtain⟨vs,Hn,r1,k,L,rr⟩:=ih s t (by simpa using z) (λj v hj=>by obtain⟨T,x,y,e1,N,e3,e4⟩:=hP (j+1) v (by simpa using hj);exact⟨T,x,y,e1,by simpa using N,by simpa using e3,e4⟩) (by simpa using A)
    obtain⟨C,Q,e⟩:=rx;obtain⟨E,U,f⟩:=ry;have v2:l8 [C,E] [u,J]:=.cons Q (.cons U .nil);cases q:Hn T with
    |none=>
     have H:Same Hn (upd Hn T<|.tup [C,E]):=j8 q _;refine⟨.ref T::vs,upd Hn T (.tup [C,E]),.cons rfl r1,k.trans H,λb w n I=>?_,.cons (.tup (U4.of j3) (.cons ((e.same k).same H) (.cons ((f.same k).same H) .nil))) (rr.same H)⟩;by_cases hb:b=T
     .subst hb;rw[j3]at I;cases I;exact⟨r,nl,_,_,rfl,by simp,v2,⟨_,hp,rfl,0,rfl⟩⟩
     .rw[k9 hb]at I;exact L b w n I
    |some w=>
     obtain⟨_,_,ws,its,rfl,_,vw,⟨o,g,_,n,dd⟩⟩:=L T w (hf T r) q;have hp':h'.get? T=some {cls:=.type "tuple",data:=.seq #[u,J]}:=hp;rw[hp']at g;cases g;have N:its=[u,J]:=by have:=i5 (λd=>match d with|Data.seq a _=>a.toList|_=>[]) dd;simpa using this.symm
     subst N;have:ws=[C,E]:=vw.inj v2;subst this;exact⟨.ref T::vs,Hn,.cons rfl r1,k,L,.cons (.tup (U4.of q) (.cons (e.same k) (.cons (f.same k) .nil))) rr⟩
def DJ {e1 e2:cu}{p p2 J:Pos}{L N:Ev->R D}(ha1:PB X e1 L)(ha2:PB X e2 N)(hh:X.calm=true)(hg:Gl X "zip":=by rfl)(hm:X.mg "zip"=none:=by assumption)(zi:Gl X "list":=by rfl)(ki:X.mg "list"=none:=by assumption)
  (hv:cv "zip"=some (.type "zip"):=by decide+kernel) (hv2:cv "list"=some (.type "list"):=by decide+kernel)
  (he1:ar [e2] X.env=(false,dm e2 X.env)::ar [] X.env:=by rfl) (he:ar [e1,e2] X.env=(false,dm e1 X.env)::ar [e2] X.env:=by rfl) (bo:(cz J (ar [e2] X.env)).any (·.1)=false:=by rfl)
  (kn:ar [.Call (.Name "zip" p2) [e1,e2] [] J] X.env=(false,dm (.Call (.Name "zip" p2) [e1,e2] [] J) X.env)::ar [] X.env:=by rfl) (uo:(cz r (ar [] X.env)).any (·.1)=false:=by rfl) (hnl:cz r (ar [] X.env)=[]:=by rfl):
  PF X (.Call (.Name "list" p) [.Call (.Name "zip" p2) [e1,e2] [] J] [] r) (λρ=>(p6 L (p6 N P9) ρ).bind VI):=by
 refine wN λU s σ H Q I H9 O0 O ρ E q=>?_;dsimp only at q;refine aAW (M1 I zi ki hv2 ?_ (by decide) (by decide));refine aBk ?_ kn uo;rw[kn];show ag _ _ (spliced ((false,dm (.Call (.Name "zip" p2) [e1,e2] [] J) X.env)::cz r (ar [] X.env))) _ _ s;refine aFa (aAW (M1 I hg hm hv ?_ (by decide) (by decide)));have qc:fx X [e1,e2] (p6 L<|p6 N P9):=w6 ha1 (w6 ha2 C9 he1) he;refine aBk (F7 (qc J U s σ H (λk m=>∃v1 v2 Y f,k=[v1,v2]/\p6 L (p6 N P9) ρ=.ok [.lst Y,.lst f]/\Y.length=f.length/\Same H m/\A5 X.K m O v1 (.lst Y)/\A5 X.K m O v2 (.lst f)) I ⟨H9,O0,O,ρ,E,?_⟩) λus d z9=>?_) he bo
 .cases e1:p6 L (p6 N P9) ρ with
  |ex z=>rw[e1]at q;exact q
  |bad=>rw[e1]at q;exact q.elim
  |ok ds=>
   rw[e1,R.aa0]at q;match ds,q with
   |[.lst Y,.lst f],q=>
    simp only[VI]at q;by_cases hc:Y.length=f.length
    .intro k m d t;cases t with
     |cons ra t=>cases t with
      |cons rb t=>cases t with
       |nil=>exact⟨_,_,Y,f,rfl,rfl,hc,d,ra,rb⟩
    .rw[ib hc]at q;exact aAk q
 .obtain⟨k,m,I1,t,v1,v2,Y,f,ev,ef,w,sm,rb1,rb2⟩:=z9;subst ev;rw[ef,R.aa0]at q;simp only[VI]at q;rw[h9 w]at q;obtain⟨a,wx,rfl,hSx,rx⟩:=rb1.aa5;obtain⟨b,wy,rfl,hSy,ry⟩:=rb2.aa5;obtain⟨u1,u2,rfl,ru1,ru2⟩:=vals2 t;cases ru1;cases ru2;obtain⟨A,g,⟨oX,nX,gX,cX,dX,sX⟩,zX⟩:=I1.list hSx;obtain⟨C,rvy,⟨oY,nY,gY,cY,dY,sY⟩,zY⟩:=I1.list hSy;have hlx:d.heap.IsList a A.toArray:=⟨oX,gX,cX,nX,sX⟩;have hly:d.heap.IsList b C.toArray:=⟨oY,gY,cY,nY,sY⟩;refine call_zip_2 hlx hly λh z1 z2 z3 z4 z5 zsz k1=>?_;rw[hnl];refine aFo ?_;have lx:A.length=Y.length:=by rw[<-g.length,rx.length]
  have ly:C.length=f.length:=by rw[<-rvy.length,ry.length]
  have I2:=I1.kept (h':=h) (t':=d.toks) k1;have D:=zipApart_new (n:=d.heap.objs.size) (aAf gX) (aAf gY);refine SZ.QV (s:={d with heap:=h}) (I1.ok.hd hh) D (by rw[aAn,aAn,lx,ly,w]) (by rw[aAn,<-g.length];exact zX) ⟨⟨_,_,z1,.inl rfl⟩,z2,⟨_,_,z3⟩,z4,z5,hlx.at λo e=>k1 _ o e,hly.at λo e=>k1 _ o e⟩ λh' B c kp gl hP=>?_;have k12:∀b u,d.heap.get? b=some u->h'.get? b=some u:=λb u e=>kp b u (by have i:=aAf e;simp only[aAd,aAD,or_false,not_or];exact⟨aAm (aAw i<|aFH _ _),aAm (aAw i<|aFH _ _),aAm i,aAm (aAw i<|aFH _ _)⟩) (k1 b u e)
  have sx:v9 X.K m O A Y:=v9.of g rx;have sy:v9 X.K m O C f:=v9.of rvy ry;obtain⟨k,Hn,rva,smn,ph,rr⟩:=HZ (h0:=h) (h':=h') (l:=h.objs.size) (λb i=>by
   cases q:m b with
   |none=>rfl
   |some u=>exact absurd i ((I2.hok b u q).live)) (B:=B.toList) sx sy w (λj v hj=>by
   obtain⟨T,x,y,e1,e2,e3,e4,e5,e6⟩:=hP.2 j v (by rw[<-aAF];exact hj);exact⟨T,x,y,e1,by simpa using e2,by simpa using e3,e4,λz=>e5 (by simp[z]),e6⟩) (by rw[aBd,hP.1,aAn,lx])
  have hls:Hn h.objs.size=none:=by
   cases q:Hn h.objs.size with
   |none=>rfl
   |some u=>have:=(ph _ u (I2.hok.fresh<|aAh _) q).2.1;exact absurd rfl this
  have hlen:k.length<=sizeLine:=by rw[rva.length,aBd,hP.1,aAn,<-g.length];exact zX
  have s3:Same Hn (upd Hn h.objs.size<|.lst k):=j8 hls _;have I3:=I1.ad9 (Hn:=upd Hn h.objs.size (.lst k)) (h':=h') (t':=d.toks) k12 (smn.trans s3) (λb u n qb=>by
   by_cases i:b=h.objs.size
   .subst i;rw[j3]at qb;cases qb;refine⟨aEy (by rw[zsz];lia),hlen,B.toList,c,rva,by rw[gl]⟩
   .rw[k9 i]at qb;obtain⟨h0b,_,ws,its,rfl,l2,vw,tt⟩:=ph b u n qb;refine⟨?_,aAs l2 (by decide),its,vw,tt⟩;cases z:d.heap.get? b with
    |none=>rfl
    |some o=>rw[k1 b o z]at h0b;cases h0b)
  exact⟨.ref _,_,I3,rfl,q k Hn _ (sm.trans smn) hls rr⟩
end
mutual
def kA:D->Nat
 |.tup Y=>K0 Y+1
 |_=>1
def K0:List D->Nat
 |[]=>0
 |x::Y=>kA x+K0 Y
end
theorem cF:∀Y a:List D,K0 (Y++a)=K0 Y+K0 a
 |[],a=>by simp[K0]
 |x::Y,a=>by rw[aBh,K0,K0,cF Y a];lia
section
variable{prog:be} {w:cp}
def PHe (prog:be)(w:cp)(h:cq)(v:ae)(d:D):Prop:=∀(A:cf) (E:A4) (s:a9) (Q:Int->a9->Prop),s.heap=h->A.units+8*A9 d<dg->Q (n6 d) {s with toks:=s.toks+kA d}->ag (bc prog w) A (pyHash v) Q E s
mutual
theorem KZ:∀{v:ae} {d:D},HV h v d->PHe prog w h v d
 |_,_,.int i t=>λA E s Q C H q=>(intKind prog w).pyHash (k:=i) (intKind_is _ _ _ _) q
 |_,_,.tup (a:=a) (items:=items) (ds:=ds) p r=>λA E s Q C H q=>by
  have fs:=FT r;subst C;obtain⟨o,I,N,n,O⟩:=p;have l:s.TypeIs (.ref a) "tuple":=⟨o,I,N⟩;have y:A.units<dg:=by lia
  rw[A9]at H;unfold pyHash;first|unfold pyHashByItsType|skip
  first|refine aAa (wpAny_cRoomFor_or (.inr y) ?_)|skip
  refine aAa (aBD l PySem.F.slot_tuple_hash.lookup ?_);show ag _ _ (if(some (aGu "tuple.__hash__")==some Value.none)=true then _ else _) Q E s;rw[ib (by rw[aFF];exact aBb)];refine aAa (aBD l PySem.F.slot_tuple_hash.lookup ?_);show ag _ _ (callSpecialIfBoundUnlessNone? (.ref a) "__hash__" _>>=_) Q E s;refine aAa (aDu l PySem.F.slot_tuple_hash<|aBC PySem.F.slot_tuple_hash l PySem.F.entry_tuple_hash ?_ (PySem.F.args_tuple_hash_1 _));show ag _ _ (aDF (.ref a)>>=_) _ _ s;refine aAa (wpAny_tupleItemsOf I O ?_);refine aAa ?_;rw[<-aCu];refine aCh _
   (λrest (b:Array Int) z=>∃done left,ds=done++left/\Paired (PHe prog w s.heap) rest left/\b.toList=done.map n6/\z={s with toks:=s.toks+K0 done})
   _ ?_ ?_ _ _ ⟨[],ds,rfl,fs,rfl,rfl⟩
  .rintro x rest b z ⟨done,left,f,B,m,rfl⟩;cases B with
   |@cons _ d _ e T J=>
    refine aAa (T _ _ _ _ rfl ?_ ?_)
    .have:A9 d<=C3 ds:=by rw[f];exact vY (j:=done.length) (by simp)
     rw[t7];lia
    have L:s.toks+K0 done+kA d=s.toks+K0 (done++[d]):=by rw[cF];simp[K0];lia
    first
     |exact aAb ⟨done++[d],e,by simp[f],J,by simp[m],by rw[<-L]⟩
     |exact aAa (aAb (aAb ⟨done++[d],e,by simp[f],J,by simp[m],by rw[<-L]⟩))
  .rintro b z ⟨done,left,f,B,m,rfl⟩;cases B;rw[aCo]at f;subst f;show ag _ _ (retInt<|aAT b.toList) _ _ _;rw[m];refine wpAny_ret_mkInt ?_;show ag _ _ (if(decide (-(2:Int)^63<=aAT (ds.map n6))&&decide (aAT (ds.map n6)<2^63))=true then _ else _) Q E _;have g:=q;rw[n6,fQ,kA]at g;unfold reduceHash at g;by_cases u:(decide (-(2:Int)^63<=aAT (ds.map n6))&&decide (aAT (ds.map n6)<2^63))=true
   .rw[h9 u];rw[h9 u]at g;exact aAb g
   .rw[ib u];rw[ib u]at g;exact aAa (aDD<|aAb g)
theorem FT:∀{v:List ae} {d:List D},HVs h v d->Paired (PHe prog w h) v d
 |_,_,.nil=>.nil
 |_,_,.cons r t=>.cons (KZ r) (FT t)
end
end
theorem mT:∀{n:Nat} {d:D},R9 n d=true->mN d=true/\A9 d<=n
 |n,.int i,_=>⟨rfl,by simp[A9]⟩
 |0,.tup Y,h=>by simp[R9]at h
 |n+1,.tup Y,h=>by
  have g:Y.all (R9 n)=true:=by simpa[R9]using h
  have e:∀a:List D,a.all (R9 n)=true->eZ a=true/\C3 a<=n:=λa=>by
   induction a with
   |nil=>intro _;exact⟨rfl,aAX _⟩
   |cons y a j=>intro f;simp only[aGt,aAJ]at f;obtain⟨k,o⟩:=mT f.1;obtain⟨l,p⟩:=j f.2;exact⟨by show(mN y&&eZ a)=true;rw[k,l];rfl,by show max (A9 y) (C3 a)<=n;lia⟩
  obtain⟨m,q⟩:=e Y g;exact⟨m,by show C3 Y+1<=n+1;lia⟩
 |n,.non,h=>by cases n<;>simp[R9]at h
 |n,.dct,h=>by cases n<;>simp[R9]at h
 |n,.bl b,h=>by cases n<;>simp[R9]at h
 |n,.str x,h=>by cases n<;>simp[R9]at h
 |n,.lst Y,h=>by cases n<;>simp[R9]at h
mutual
theorem HV.ac0 (k:∀b o,h.get? b=some o->(∃its n,o.data=.seq its n)->h'.get? b=some o):∀{v:ae} {d:D},HV h v d->HV h' v d
 |_,_,.int i t=>.int i t
 |_,_,.tup p r=>.tup (by obtain⟨o,e,c,n,d⟩:=p;exact⟨o,k _ _ e ⟨_,n,d⟩,c,n,d⟩) (HVs.ac0 k r)
theorem HVs.ac0 (k:∀b o,h.get? b=some o->(∃its n,o.data=.seq its n)->h'.get? b=some o):∀{v:List ae} {d:List D},HVs h v d->HVs h' v d
 |_,_,.nil=>.nil
 |_,_,.cons r t=>.cons (HV.ac0 k r) (HVs.ac0 k t)
end
instance decD:DecidableEq D:=λa b=>aDf _
def tJ (prog:be) (w:cp):HeapKind prog w D where
 is:=λh d a=>HV h (.ref a) d/\A9 d<8
 hash:=n6
 draws:=kA
 room:=λA=>A.units+128<dg
 inj:=λx y=>HV.inj x.1 y.1
 keeps:=λ{h u k a d o v B} x j l m=>⟨x.1.ac0<|by rintro b C e ⟨p,n,q⟩;exact(m.2 b (λz=>by subst z;rw[j]at e;cases e;rw[l]at q;cases q)).trans e,x.2⟩
 pyHash:=λ{A E s k a Q} r f q=>KZ f.1 A E s Q rfl (by have:=f.2;lia) q
 eqBool:=λ{A E s x y a b Q} r g i q=>by
  have t:=sD (A:=A) g.1 i.1 (by have:=g.2;lia);refine t prog w E Q ?_;have e:u8 x y=decide (x=y):=by
   by_cases h:x=y
   .subst h;rw[M3,decide_eq_true rfl]
   .rw[decide_eq_false h];cases z:u8 x y with
    |false=>rfl
    |true=>exact absurd (bM g.1.ok i.1.ok z) h
  rw[e];exact q
 quiet:=λ{A E s k a Q} f q=>iV 8 f.1 f.2 _ A E s Q rfl q
open Classical in
def fB (N:List (D×D)) (k v:D):List (D×D):=if k∈N.map (·.1)then N.map (λp=>if p.1=k then(p.1,v)else p)else N++[(k,v)]
def HP (N:List (D×D))(k v:D)(h:(N.map (·.1)).Nodup):((fB N k v).map (·.1)).Nodup:=by
 unfold fB;split
 .rw[aBL];have:((λx=>x.1)∘λp:D×D=>if p.1=k then(p.1,v)else p)=λp=>p.1:=by funext p;simp only[aGw];split<;>rfl
  rw[this];exact h
 .rename_i n;rw[aCr,aCD];refine⟨h,by simp,λa f b d=>?_⟩;simp at d;subst d;exactλe=>n (e▸f)
section
theorem EJ (I:Inv X d σ H s):∀{es:List DictEntry} {N:List (D×D)},nT X.K H O es N->∃Y:List (D×bb×ae),es=Y.map (entryOfKey (tJ X.prog X.w))/\Y.map (·.1)=N.map (·.1)/\(∀x∈Y,(tJ X.prog X.w).is s.heap x.1 x.2.1)/\
  Paired (λ(x:D×bb×ae) (p:D×D)=>x.1=p.1/\Rep X.K H O (.ref x.2.1) p.1/\(∃v,RelV v x.2.2/\Rep X.K H O v p.2)/\R9 7 p.1=true) Y N
 |_,_,.nil=>⟨[],rfl,rfl,λx h=>(by cases h),.nil⟩
 |e::_,p::_,.cons ⟨⟨a,f,g⟩,j,i,k⟩ t=>by
  obtain⟨Y,l,m,n,o⟩:=EJ I t;obtain⟨ok,r⟩:=mT k;refine⟨(p.1,a,e.val)::Y,?_,by rw[aAr,aAr,m],λx b=>?_,.cons ⟨rfl,g,j,k⟩ o⟩
  .rw[aAr,<-l];congr 1;obtain⟨q,u,y⟩:=e;simp only at f i;subst f i;rfl
  .rcases aAd.mp b with rfl|b
   .exact⟨V6 I g ok rfl,by show A9 p.1<8;lia⟩
   .exact n x b
theorem EI {P:be}{w:cp}{K:i6}{H:Hp}{O:bb->Prop}:∀{Y:List (D×bb×ae)} {N:List (D×D)},Paired (λ(x:D×bb×ae) (p:D×D)=>x.1=p.1/\Rep K H O (.ref x.2.1) p.1/\(∃v,RelV v x.2.2/\Rep K H O v p.2)/\R9 7 p.1=true) Y N->nT K H O (Y.map (entryOfKey (tJ P w))) N
 |_,_,.nil=>.nil
 |_,_,.cons ⟨e,a,b,k⟩ t=>.cons ⟨⟨_,rfl,a⟩,b,by rw[<-e];rfl,k⟩ (EI t)
def bC {Y:List (D×bb×ae)}{k:D}:(atKey Y k).isSome=true↔k∈Y.map (·.1):=by unfold atKey;rw[Option.isSome_map,List.find?_isSome];simp only[decide_eq_true_eq,aAi]
def FQ (I:Inv X b σ H s)(h:H a=some (.ext λh=>h.get? a=some o))(d:NA a o es)(r:nT X.K H O es N)(f:(N.map (·.1)).Nodup):
  ∃Y,s.heap.DictOfH (tJ X.prog X.w) a Y/\Y.map (·.1)=N.map (·.1)/\Paired (λ(x:D×bb×ae) (p:D×D)=>x.1=p.1/\Rep X.K H O (.ref x.2.1) p.1/\(∃v,RelV v x.2.2/\Rep X.K H O v p.2)/\R9 7 p.1=true) Y N:=by
 obtain⟨Y,i,e,j,k⟩:=EJ I r;obtain⟨_,l,m,n,q,t⟩:=d;have g:s.heap.get? a=some o:=(I.hok a _ h).1;exact⟨Y,⟨o,m,n,g,l,q,by rw[t,i],j,by rw[e];exact f⟩,e,k⟩
def JV {K:i6}{Y:List (D×bb×ae)}{N:List (D×D)}{k d:D}{b:bb}{u:ae}{v:V}(g:Paired (λ(x:D×bb×ae) (p:D×D)=>x.1=p.1/\Rep K H O (.ref x.2.1) p.1/\(∃v,RelV v x.2.2/\Rep K H O v p.2)/\R9 7 p.1=true) Y N)(a:Y.map (·.1)=N.map (·.1))
  (l:Rep K H O (.ref b) k) (kk:R9 7 k=true) (i:RelV v u) (j:Rep K H O v d):
  Paired (λ(x:D×bb×ae) (p:D×D)=>x.1=p.1/\Rep K H O (.ref x.2.1) p.1/\(∃v,RelV v x.2.2/\Rep K H O v p.2)/\R9 7 p.1=true) (storedH Y k b u) (fB N k d):=by
 unfold storedH fB;by_cases h:k∈N.map (·.1)
 .rw[h9 h,h9 (bC.mpr (by rw[a];exact h))];clear a h;induction g with
  |nil=>exact .nil
  |@cons x p Y N r t f=>
   rw[aAr,aAr];refine .cons ?_ f;unfold putAt;by_cases e:p.1=k
   .rw[h9 (r.1.trans e),h9 e];exact⟨r.1,r.2.1,⟨v,i,j⟩,r.2.2.2⟩
   .rw[ib (λz=>e (r.1.symm.trans z)),ib e];exact r
 .rw[ib h,ib (λz=>h (by rw[<-a];exact bC.mp z))];clear a h;induction g with
  |nil=>exact .cons ⟨rfl,l,⟨v,i,j⟩,kk⟩ .nil
  |cons r t f=>exact .cons r f
end
section
variable{K:Type} [DecidableEq K] {knd:HeapKind prog w K}
def rB {Q:wO}(g:knd.room A.in1)(b:knd.is s.heap k a)(i:(d==sysModules)=false)(e:s.heap.DictOfH knd d Y)
  (h:Q (atKey Y k).isSome {s with toks:=s.toks+knd.draws k}):ag (bc prog w) A (contains (.ref d) (.ref a)) Q E s:=by
 unfold contains;try with_reducible refine aAR ?_
 refine aAa (aBD e.typeIs aFe.lookup ?_);show ag _ _ (if(some (aGu "dict.__contains__")==some Value.none)=true then _ else _) _ E s;rw[ib (by rw[aFF];exact aBb)];refine aAa (wpAny_callSpecialUnlessNone?_slot (name:=aDz "__contains__") e.typeIs aFe
  (aBC aFe e.typeIs entry_dict_contains ?_ (args_dict_contains _ _)))
 show ag _ _ (dictGet d (.ref a)>>=_) _ _ s;refine aAa (wpAny_dictGet_heap g b e ?_);cases f:atKey Y k with
 |some p=>rw[f]at h;show ag _ _ (ret<|.bool true) _ _ _;exact aAb ⟨_,rfl,aBO h⟩
 |none=>rw[f]at h;show ag _ _ (Builtin.Dict.pendingKey? d (.ref a)>>=_) _ _ _;exact aAa (wpAny_pendingKey_other i<|aAb ⟨_,rfl,aBO h⟩)
end
def IS:D->Bool
 |.tup _=>true
 |_=>false
open Classical in
def pC (i:Nat) (ρ:Ev) (k:D):R Bool:=match ρ[i]? with
 |some (.d N)=>if R9 7 k=true/\IS k=true then .ok (!decide (k∈N.map (·.1)))else .bad
 |_=>.bad
section
def qG {K:i6}{H:Hp}{O:bb->Prop}{v:V}{k:D}(r:Rep K H O v k)(h:IS k=true):∃a,v=.ref a:=by
 cases r with
 |tup h r=>exact⟨_,rfl⟩
 |_=>cases h
def IF (i:Nat){x:Str}{p:Pos}{f:Ev->R D}(ha:PD X e f)(hu:X.A.units+130<dg)(hN:X.N[i]?=some x:=by rfl)(hv:BN X.env.scope x:=by first|exact aCV rfl|exact aCc (aCV rfl)|exact aCc (aCc rfl))
  (hd:(x==jh)=false:=by decide) (gg:(x==ji)=false:=by decide) (hm:hF .NotIn (.Name x p)=false:=by first|rfl|with_unfolding_all rfl):
  FK X (.Compare e [.NotIn] [.Name x p] pos) (λρ=>(f ρ).bind (pC i ρ)):=by
 refine wN λU s σ H Q I H9 O0 O ρ E q=>?_;dsimp only at q;refine wpAny_isTrue_Compare1 (MB (ta:=tD X f) (tb:=qj i) ha (R6 hN hv hd gg) (R:=λy x g=>∃a b o l N k,x=.ref a/\y=.ref b/\g a=some (.ext λh=>h.get? a=some o)/\NA a o l/\nT X.K g O l N/\(N.map (·.1)).Nodup/\Rep X.K g O (.ref b) k/\R9 7 k=true/\Q (!(open Classical in decide (k∈N.map (·.1)))) g) I ⟨H9,O0,O,ρ,E,?_⟩ λu w s2 y x g t ry rx h=>?_) hm
 .cases B:f ρ with
  |ex z=>rw[B]at q;exact q
  |bad=>rw[B]at q;exact q.elim
  |ok k=>
   rw[B,R.aa0]at q;intro v H1 sm r;unfold pC at q;cases C:ρ[i]? with
   |none=>rw[C]at q;exact aAk q
   |some sl=>
    rw[C]at q;cases sl with
    |d N=>
     dsimp only at q;by_cases j:R9 7 k=true/\IS k=true
     .rw[h9 j]at q;obtain⟨a,o,l,h1,_,_,J,m,L,T⟩:=(E.grow sm).slot i _ C;obtain⟨b,rfl⟩:=qG r j.2;exact⟨_,h1,a,b,o,l,N,k,rfl,rfl,J,m,L,T,r,j.1,q H1 sm⟩
     .rw[ib j]at q;exact aAk q
    |_=>exact aAk q
 .obtain⟨a,b,o,l,N,k,rfl,rfl,J,m,L,T,rk,j,qq⟩:=h;cases ry;cases rx;obtain⟨Y,hD,vg,hp⟩:=FQ t J m L T;obtain⟨ok,dp⟩:=mT j;show ag _ _ (contains (.ref a) (.ref b)>>=λc=>pure (aDk (!c))) _ _ s2;refine aAa (rB (knd:=tJ X.prog X.w) (by show X.A.in1.units+128<dg;rw[t7];lia) ⟨V6 t rk ok rfl,by lia⟩ m.1 hD (aAb ?_));refine aBO ⟨g,t.tok _,?_⟩;have e3:(atKey Y k).isSome=(open Classical in decide (k∈N.map (·.1))):=by
   by_cases n:k∈N.map (·.1)
   .rw[decide_eq_true n];exact bC.mpr (by rw[vg];exact n)
   .rw[decide_eq_false n];cases z:(atKey Y k).isSome with
    |false=>rfl
    |true=>exact absurd (by rw[<-vg];exact bC.mp z) n
  rw[e3];exact qq
def NY (i:Nat)(y:X.N.Nodup)(A:X.N[i]?=some x:=by rfl)(B:Loc X.env.scope x:=by first|exact aCV rfl|exact aCc rfl)(C:ek (.Dict [] [] f) (some (.Name x g)) j.line X.env=pure false:=by rfl)(J:X.fn x=true\/X.env.scope.names.lookup x=some .local:=by first|exact .inl rfl|exact .inr rfl|assumption):pL X (.Assign [.Name x g] (.Dict [] [] f) j) (λρ=>.ok (.nx (ρ.set i (.d [])))):=by
 rintro U Y t s σ H D I ⟨O,ρ,E,fk,q⟩;refine aFn (wpAny_Dict_empty ?_) C;have v:(s.heap.push {cls:=.type "dict",data:=.dict #[]}).get? s.heap.objs.size=some {cls:=.type "dict",data:=.dict #[]}:=aAp _ rfl;have l:=I.hok.fresh (aAh s.heap.objs.size);have m:=I.laid (a:=s.heap.objs.size) (o:=.ext λh=>h.get? s.heap.objs.size=some {cls:=.type "dict",data:=.dict #[]}) (h':=s.heap.push {cls:=.type "dict",data:=.dict #[]}) (t':=s.toks) (λ_ _ q=>aAc _ q) (aAh _)
  ⟨v,⟨_,v⟩,λh1 h2 e k=>k _ e⟩
 have L:=PM m (j3 (H:=H) (a:=s.heap.objs.size));have p:sysModules<s.heap.objs.size:=aGJ (by decide) (I.mod.glob.keeps I.bk).lt;refine Q6 m y A B (show RelV (.ref s.heap.objs.size) _ from rfl) (λs3 Q=>⟨_,_,Q,?_⟩) J;have w:=E.ad8 (u:=.ext λh=>h.get? s.heap.objs.size=some {cls:=.type "dict",data:=.dict #[]}) (sl:=.d []) i l L trivial λT=>⟨s.heap.objs.size,_,[],rfl,.inr rfl,T,j3,⟨by simp[aDd p],⟨rfl,rfl,rfl⟩,#[],0,rfl,rfl⟩,.nil,aCP⟩;exact q _ _ _ w (uF m _ w.trk) λb o r n=>⟨by rw[k9 (t5 r l)];exact r,λz=>z.elim n (t5 r l)⟩
def a1e (X:Cx):UA:=λx y v H Q=>∃O a b o f N k d,x=.ref a/\y=.ref b/\H a=some (.ext λh=>h.get? a=some o)/\NA a o f/\nT X.K H O f N/\(N.map (·.1)).Nodup/\f.length<=sizeLine/\Rep X.K H O (.ref b) k/\R9 7 k=true/\Rep X.K H O v d/\
 ∀g e,NA a g e->nT X.K H O e (fB N k d)->Q (upd H a<|.ext λh=>h.get? a=some g)
def RK (hu:X.A.units+130<dg):YE X (a1e X):=by
 intro C s σ H x y v ov iv u Q I rx ry ru z;obtain⟨O,a,b,o,es,N,k,d,E,ey,l,m,h6,h7,hz,J,L,rv,q⟩:=z;subst E ey;cases rx;cases ry;obtain⟨Y,T,vg,hp⟩:=FQ I l m h6 h7;obtain⟨ok,dp⟩:=mT L;have f:Y.length<=sizeLine:=by
  obtain⟨_,E,ea,ep,hd,he⟩:=m;obtain⟨o2,sr,ep2,U,_,i,kn,_⟩:=T;have g:s.heap.get? a=some o:=(I.hok a _ l).1;rw[g]at U;cases U;rw[hd]at i;cases i;have:=i5 aGk (he.symm.trans kn);rw[aAj]at this
  lia
 refine wpAny_setItem_heap (knd:=tJ X.prog X.w) (by show X.A.in1.units+128<dg;rw[t7];lia) ⟨V6 I J ok rfl,by lia⟩ T (λh' n hs=>?_) f;obtain⟨j,p,r,t,B,oh,wg,is',nd'⟩:=n;have I1:=I.write (x:=a) (e:=a) (o:=.ext λh=>h.get? a=some j) (h':=h') (t':=s.toks+kA k) (by rw[l];trivial) (.inl rfl) (λb u hb e=>(hs.2 b hb).trans e) ⟨j,t⟩ ⟨t,⟨j,t⟩,λh1 h2 e k=>k _ e⟩;exact⟨_,I1,q j _ ⟨m.1,B,p,r,oh,rfl⟩ (by rw[wg];exact EI (JV hp vg J L ru rv))⟩
def yH (i:Nat) (ρ:Ev) (k d:D):R Out:=match ρ[i]? with
 |some (.d N)=>if R9 7 k=true/\IS k=true/\N.length<=sizeLine then .ok (.nx (ρ.set i<|.d (fB N k d)))else .bad
 |_=>.bad
def BI (i:Nat){x:Str}{k:cu}{f g:Ev->R D}{p ps:Pos}(he:PD X e f)(j:PD X k g)(hu:X.A.units+130<dg)(hN:X.N[i]?=some x:=by rfl)(hv:BN X.env.scope x:=by first|exact aCV rfl|exact aCc (aCV rfl)|exact aCc (aCc rfl))(hd:(x==jh)=false:=by decide)
  (gg:(x==ji)=false:=by decide) (ha:∀v,gv (.Subscript (.Name x p) k ps) X.env v=(do
   let t<-fg [v] (dm (.Name x p) X.env)
   let B<-fg [v,t] (dm k X.env)
   standAt ps
   fg [v,t,B] (setItem t B v)
   release [v,t,B] []):=by intro _;rfl)
  (hs:gk [.Subscript (.Name x p) k ps] e C.line X.env=pure false:=by rfl) (hw:gm [.Subscript (.Name x p) k ps] e X.env=pure none:=by rfl) (u:(dq [.Subscript (.Name x p) k ps] X.env).map (·.2)=[gv (.Subscript (.Name x p) k ps) X.env]:=by rfl):
  pL X (.Assign [.Subscript (.Name x p) k ps] e C) (λρ=>(f ρ).bind λd=>(g ρ).bind λl=>yH i ρ l d):=λU Y=>
 AA (AG he (NK (R6 hN hv hd gg) j (RK hu) ha) hs hw u) λD σ H O ρ E fk q=>⟨U,Y,O,ρ,E,by
  cases I:f ρ with
  |ex z=>rw[I]at q;exactλH' s=>q H' (E.same.trans s)
  |bad=>rw[I]at q;exact q
  |ok d=>
   rw[I,R.aa0]at q;intro v H1 s1 r1;have J:=E.grow s1;cases w:g ρ with
   |ex z=>rw[w]at q;exact(q H<|E.same.trans<|Same.refl _).elim
   |bad=>rw[w]at q;exact aAk q
   |ok l=>
    rw[w,R.aa0]at q;unfold yH at q;cases y:ρ[i]? with
    |none=>rw[y]at q;exact aAk q
    |some sl=>
     rw[y]at q;cases sl with
     |d N=>
      dsimp only at q;by_cases j:R9 7 l=true/\IS l=true/\N.length<=sizeLine
      .rw[h9 j]at q;obtain⟨a,o,es,u,h2,h3,L,h5,h6,h7⟩:=J.slot i _ y;refine⟨_,u,U,Y,O,ρ,J,?_⟩;rw[w];intro kv H2 n r2;have E2:=J.grow n;obtain⟨b,rfl⟩:=qG r2 j.2.1;have Q:nT X.K H2 O es N:=h6.mono λr=>r.same n;refine⟨O,a,b,o,es,N,l,d,rfl,rfl,n _ _ L,h5,Q,h7,by rw[h6.length];exact j.2.2,r2,j.1,r1.same n,λo' T d' r'=>?_⟩;obtain⟨E3,k3⟩:=E2.ad6 (sl':=.d (fB N l d)) (u':=.ext λh=>h.get? a=some o') y trivial u (n _ _ L) trivial trivial λhO h0 m=>⟨a,o',T,rfl,h2,h3,j3,d',r'.mono λr=>r.upd (n _ _ L) trivial h2,HP N l d h7⟩;exact q _ _ _ E3 fk (((Kp.of s1).trans (Kp.of n)).trans k3)
      .rw[ib j]at q;exact aAk q
     |_=>exact aAk q⟩
end
end
section
variable [Tabs]
def _root_.L2.Inv.ae5 {a:N4}{σ:St}{H:Hp}{s:a9}{h':cq}{t':Nat}{L:List bb}{T:bb}{vs:List V}(I:Inv X a σ H s)(k:∀b o,b∉L->s.heap.get? b=some o->h'.get? b=some o)
  (h:∀b∈L,lV X a H b) (i:s.heap.objs.size<=T) (hz:vs.length<=sizeLine) {its:List ae} (p:l8 vs its) (t:IsTup h' T its.toArray):Inv X a σ (upd H T (.tup vs)) {s with heap:=h',toks:=t'}:=by
 have j:H T=none:=I.hok.fresh i;have ne:∀b u,H b=some u->b≠T:=λb u e z=>by rw[z,j]at e;cases e
 have f:Same H (upd H T<|.tup vs):=j8 j _;have l:∀b u,H b=some u->b∉L:=λb u e z=>by rw[(h b z).1]at e;cases e
 refine I.step (g':=s.gens) (d':=s.drawn) (ch:=L) (λb g=>?_) (λb o _ _ d e _=>k b o d e) (λb o _ _ d e _=>⟨o.slots,k b o d e⟩) (λb o _ e n=>?_)
  (λb o d e=>⟨o,k b o d e⟩) (λb _ e=>f _ _ e) (λb _ _ e=>f _ _ e) (λb _ e=>f _ _ e) (λm w=>?_) (λb u e=>?_) I.bare
 .obtain⟨_,x,_,y,A,B⟩:=h b g;exact⟨y,x,A,B⟩
 .rw[k9 (aAm<|aAw (aAf e) i)];exact n
 .obtain⟨o,C,E,J,r⟩:=w;exact⟨o,C,E,k _ o (λz=>(h _ z).2.1 rfl) J,r⟩
 .by_cases g:b=T
  .subst g;rw[j3]at e;cases e;exact⟨hz,its,p,t⟩
  .rw[k9 g]at e;refine(I.hok b u e).ab8 (λc v d q=>k c v ?_ q) (λ_ q=>f _ _ q) λ_ _ _ q=>f _ _ q;rcases d with z|z
   .rw[z];exact l b u e
   .exact l c _ z
def _root_.L2.Inv.af1 {a:N4}{σ:St}{H:Hp}{s:a9}{h':cq}{t':Nat}{L:List bb}(I:Inv X a σ H s)(k:∀b o,b∉L->s.heap.get? b=some o->h'.get? b=some o)
  (f:∀b∈L,lV X a H b):Inv X a σ H {s with heap:=h',toks:=t'}:=by
 have g:∀b u,H b=some u->b∉L:=λb u e z=>by rw[(f b z).1]at e;cases e
 refine I.step (g':=s.gens) (d':=s.drawn) (ch:=L) (λb h=>?_) (λb o _ _ d e _=>k b o d e) (λb o _ _ d e _=>⟨o.slots,k b o d e⟩) (λ_ _ _ _ n=>n)
  (λb o d e=>⟨o,k b o d e⟩) (λb _ e=>e) (λb _ _ e=>e) (λb _ e=>e) (λm i=>?_) (λb u e=>?_) I.bare
 .obtain⟨_,j,_,l,p,t⟩:=f b h;exact⟨l,j,p,t⟩
 .obtain⟨o,w,x,y,r⟩:=i;exact⟨o,w,x,k _ o (λz=>(f _ z).2.1 rfl) y,r⟩
 .refine(I.hok b u e).ab8 (λc v d q=>k c v ?_ q) (λ_ q=>q) λ_ _ _ q=>q;rcases d with z|z
  .rw[z];exact g b u e
  .exact g c _ z
def ay {h:cq}{i a:bb}{k:Nat}(x:h.IsListIter i a k):∃o,h.get? i=some o/\∀v,o.data≠.cell v:=by obtain⟨o,e,c,d⟩:=x;exact⟨o,e,λv z=>by rw[d]at z;cases z⟩
def Ite (K:i6)(a:bb):It:=
 ⟨λi H=>∃Y x,N2 K H a Y/\Y[i]?=some x,
  λi H v b=>∃T,v=.ref T/\H T=none/\∀Y,N2 K H a Y->∃x,Y[i]?=some x/\b=upd H T (.tup [.int i,x]),
  λi H=>∃Y,N2 K H a Y/\Y.length<=i⟩
def tnE (e it a:bb)(i:Nat)(h:cq):Prop:=(∃b,IsEnum h e it (i:Int) b)/\h.IsListIter it a i
def HI {P:be}{w:cp}{K:i6}{el:List cu}{c}{tp:Pos}{e it a:bb}(D:e≠it):Turn P w K (.Tuple el c tp) (Ite K a) [e,it] e (tnE e it a)where
 mem:=by simp
 obj:=λi h ⟨⟨f,B⟩,C⟩ c d=>by
  simp only[aAd,aAD,or_false]at d;rcases d with rfl|rfl
  .exact⟨_,B,λv z=>nomatch z⟩
  .exact ay C
 keep:=λi h p ⟨⟨f,B⟩,C⟩ k=>⟨⟨f,k _ (by simp) _ B⟩,C.at λo e=>k _ (by simp) o e⟩
 item:=by
  intro X J L N d i m s σ H E I r st O;subst J L N;obtain⟨Y,x,t,ex⟩:=O;obtain⟨Q,g,T,zx⟩:=I.list t;obtain⟨u,hu,ru⟩:=g.get ex;obtain⟨⟨f,y⟩,A⟩:=st;refine wpAny_pyNext_enum_item y A T.isList (x:=u) (by simpa using hu) D λp q0 q1 hp hsz U=>?_;refine⟨.ref s.heap.objs.size,rfl,wpAny_letOwnedTupleGo_enum (s:={s with heap:=p,toks:=s.toks+1}) q0 λh2 z2 sb=>?_⟩;have j:e<s.heap.objs.size:=aAf y;have n:it<s.heap.objs.size:=by obtain⟨o,e,_⟩:=A;exact aAf e
  have up:∀c o,c≠e->p.get? c=some o->h2.get? c=some o:=λc o d e=>sb.extBut c o d e;have hTf:s.heap.objs.size∉[e,it]:=λl=>by
   simp only[aAd,aAD,or_false]at l;rcases l with l|l
   .rw[<-l]at j;exact absurd j (aBf _)
   .rw[<-l]at n;exact absurd n (aBf _)
  have kk:∀c o,c∉[e,it]->s.heap.get? c=some o->h2.get? c=some o:=λc o d e=>by simp only[aAd,aAD,or_false,not_or]at d;exact up c o d.1 (U c o d.1 d.2 e)
  refine⟨.ref s.heap.objs.size,upd H s.heap.objs.size (.tup [.int i,x]),I.ae5 (t':=s.toks+1) kk r (aAh _) (by show 2<=sizeLine;decide) (its:=[.int i s.toks,u]) (.cons ⟨_,rfl⟩ (.cons ru .nil)) ⟨_,up _ _ (aDd j) hp,rfl,0,rfl⟩,rfl,
   ⟨_,rfl,I.hok.fresh (aAh _),λxs' hx'=>⟨x,by rw[I.ab3 hx' t];exact ex,rfl⟩⟩,⟨⟨u,?_⟩,q1.at λo e=>up _ o (aBW D) e⟩,λb hb=>?_⟩
  .have:((i+1:Nat):Int)=(i:Int)+1:=by lia
   rw[this];exact z2
  .rw[k9 (λq:b=s.heap.objs.size=>hTf (q▸hb))];exact(r b hb).1
 done:=by intro X J L N d i m s σ H E I r st O;subst J L N;obtain⟨Y,t,hl⟩:=O;obtain⟨Q,g,T,zx⟩:=I.list t;obtain⟨⟨f,y⟩,A⟩:=st;have hlx:=g.length;refine wpAny_pyNext_enum_end (I.ok.hd d) y A T.isList (by simp;lia) λp U=>⟨rfl,I.af1 (t':=s.toks) (λc o d e=>?_) r⟩;simp only[aAd,aAD,or_false,not_or]at d;exact U c o d.2 e
 self:=by rintro _ _ _ _ _ ⟨⟨_,st⟩,_⟩ h;exact wpAny_pyIter_enum st h
def GR (Y:List D):List D:=List.zipWith (λ(k:Nat) d=>D.tup [.int (k:Int),d]) (aBy Y.length) Y
def KU:List D->R (List D)
 |[.lst Y]=>.ok (GR Y)
 |_=>.bad
def jX (Y:List D)(i:Nat):(GR Y)[i]?=Y[i]?.map λd=>D.tup [.int (i:Int),d]:=by
 unfold GR;rw[List.getElem?_zipWith];by_cases h:i<Y.length
 .rw[List.getElem?_range h];cases Y[i]?<;>rfl
 .rw[aEq (by simpa using h),aEq (by lia:Y.length<=i)];rfl
def NN {el:List cu}{c}{tp:Pos}{e1:cu}{p:Pos}{g:Ev->R D}(t:PD X e1 g)(hg:Gl X "enumerate":=by rfl)(hm:X.mg "enumerate"=none:=by assumption)(hv:cv "enumerate"=some (.type "enumerate"):=by decide+kernel)
  (J:ar [e1] X.env=(false,dm e1 X.env)::ar [] X.env:=by rfl) (bo:(cz h (ar [] X.env)).any (·.1)=false:=by rfl):
  VO X (.Tuple el c tp) (.Call (.Name "enumerate" p) [e1] [] h) (λρ=>(p6 g P9 ρ).bind KU):=by
 rintro j s σ H Rr I ⟨H9,O0,O,ρ,E,fk,q⟩;dsimp only at q;refine aAW (M1 I hg hm hv ?_ (by decide) (by decide));have qc:KF X [e1] (p6 g P9):=i8 t u0 J;refine aBk (F7 (qc h j s σ H (λu f=>∃v1 Y,u=[v1]/\p6 g P9 ρ=.ok [.lst Y]/\Same H f/\Rep X.K f O v1 (.lst Y)) I ⟨H9,O0,O,ρ,E,?_⟩) λus l v=>?_) J bo
 .cases e1:p6 g P9 ρ with
  |ex z=>rw[e1]at q;exact q
  |bad=>rw[e1]at q;exact q.elim
  |ok ds=>
   rw[e1,R.aa0]at q;match ds,q with
   |[.lst Y],q=>
    intro u f l m;cases m with
    |cons ra m=>cases m with
     |nil=>exact⟨_,Y,rfl,rfl,l,ra⟩
 .obtain⟨u,f,r,m,v1,Y,w,ef,sm,y⟩:=v;subst w;rw[ef,R.aa0]at q;simp only[KU]at q;cases y with
  |@lst a A _ n nx L=>
  obtain⟨u1,rfl,B⟩:=vals1 m;cases B;obtain⟨itx,rvx,px,zX⟩:=r.list n;refine call_enumerate_list px.isList λN Q z2 zsz k1=>?_;have I2:=r.kept (h':=N) (t':=l.toks) k1;refine wpAny_pyIter_enum (s:={l with heap:=N}) Q ⟨_,_,_,Ite X.K a,f,rfl,I2,HI (Nat.succ_ne_self _),⟨⟨_,Q⟩,z2⟩,λc U=>?_,q _ f sm λH2 O2 k hK hO hO2 i=>?_⟩
  .have yo:l.heap.objs.size<=c:=by simp only[aAd,aAD,or_false]at U;rcases U with rfl|rfl<;>lia
   exact r.ae9 yo (r.hok.fresh yo)
  .obtain⟨n2x,b⟩:=k.lst nx n λo q=>hK a o q;have C:=k.ac3 hO hK L;refine⟨λd e=>?_,λe=>⟨A,b,?_⟩⟩
   .rw[jX]at e;cases e1:Y[i]? with
    |none=>rw[e1]at e;cases e
    |some dx=>rw[e1]at e;cases e;obtain⟨vx,g1,g2⟩:=C.get e1;refine⟨⟨A,vx,b,g1⟩,λx H' v=>?_⟩;obtain⟨T,w,hT,hh⟩:=v;obtain⟨x1,q1,rfl⟩:=hh A b;rw[g1]at q1;cases q1;subst w;have s2:Same H2 (upd H2 T<|.tup [.int i,vx]):=j8 hT _;exact⟨s2,.tup (U4.of j3) (.cons .int (.cons (g2.same s2) .nil))⟩
   .rw[L.length];rw[jX]at e;cases e1:Y[i]? with
    |none=>exact aBR.mp e1
    |some dx=>rw[e1]at e;cases e
end
section
variable [Tabs]
section
variable{K:Type} [DecidableEq K] {knd:HeapKind prog w K}
end
section
variable{o e:cu} {es:List cu} {to:TE} {t:TA} {name:Str} {apos av:Pos} {T id:String} {r:V->List V->Hp->VK->Prop}
end
open Classical in
def atK (N:List (D×D)) (k:D):Option D:=(N.find? λp=>decide (p.1=k)).map (·.2)
section
variable{A:cf} {s:a9} {prog:be} {w:cp} {E:A4}
end
end
end DL
namespace MM
open PySem
def CmpOn (prog:be)(w:cp)(A:cf)(op:CmpOp)(d:cq->Prop)(P:Nat->ae->Prop)(bt:Nat->Nat->Bool):Prop:=
 ∀i j a b (s:a9) (Q:A4) (E:A4),d s.heap->P i a->P j b->Q (.bool (bt i j)) s->ag (bc prog w) A (gy op a b) Q E s
section
def IJ (W:WalksS prog w A.in1 I U m G n P St){E:cq->Prop}(Y:∀i s,St i s->E s.heap)(bt:Nat->Nat->Bool)(lu:CmpOn prog w A.in1 .Lt E P bt)(S:bb)(H:S∉U):
  ∀(k j:Nat) (s:a9) (d:ae) (c:Nat),n-(j+1)=k->j+1<=n->St (j+1) s->P (cy bt j) d->
  s.heap.get? S=some {cls:=.type "list",dict:=none,data:=.seq #[d,d] c,slots:=#[]}->
  (∀v s',P (cy bt (n-1)) v->Moved (S::m) G s s'->R (.ok (.ret v)) s')->fh (bc prog w) A (.builtin "min.loop" ⟨[.ref I,.none,.ref S],[]⟩) R s:=by
 have J:S∉m:=λh=>H (W.sub _ h);have t:∀b∈m,b∈S::m:=λb a=>aAe _ a;have L:(toString "min"++toString ".loop":String)= "min.loop":=by decide
 have N:∀{b:bb},b∉S::m->S≠b:=λa h=>a (by rw[h];exact aAN);intro k;induction k with
 |zero=>
  intro j s d c hk hj u f p r;have O:j+1=n:=by omega
  refine aBu aFI ?_;rw[aAY aCN _];show ag _ A.in1 (seqItems? (.ref S)>>=_) _ _ s;refine aAa (aBx p rfl ?_);show ag _ A.in1 (tryCatch (eR<|.ref I) _>>=_) _ _ s;refine aAa (aCU<|W.done s _ _ (O▸u) λs' l=>?_);have q:=l.heap S _ J p;show ag _ A.in1 (fo S (λ_=>#[])>>=_) _ _ _;refine aAa ?_;refine aBF q rfl (aAa<|aCT<|aAb ?_);exact r d _ (by rw[<-O];exact f) ((l.mono t).then_heap (tk:=s'.toks) (aAh _) λb o a e=>(aAx _ _<|N a).trans e)
 |succ k Q=>
  intro j s d c hk hj u f p r;have x:j+1<n:=by omega
  refine aBu aFI ?_;rw[aAY aCN _];show ag _ A.in1 (seqItems? (.ref S)>>=_) _ _ s;refine aAa (aBx p rfl ?_);show ag _ A.in1 (tryCatch (eR<|.ref I) _>>=_) _ _ s;refine aAa (aCU<|W.item (j+1) s _ _ x u λv s' T y l=>?_);have q:=l.heap S _ J p;show ag _ A.in1 (tryCatch (fg [v,v]<|gy .Lt v d>>=_) _>>=_) _ _ _;refine aAa (aCU<|aAR<|aAa<|lu (j+1) (cy bt j) v d _ _ _ (Y _ _ y) T f ?_);refine aAa (aAR<|aBO ?_);refine aAa (aCT<|aAb ?_);cases a:bt (j+1) (cy bt j)with
  |true=>
   simp only[if_true];refine aAa ?_;refine aBF q rfl (aAa<|aCT ?_);rw[L];refine aAb ⟨aBB aCN _,Q (j+1) _ v _ (by omega) x (W.frame _ s' _ s'.toks y (aAh _) λb za o e=>?_) (by simp only[cy,a,if_true];exact T) (aBa _ q rfl)
    λz g B C=>?_⟩
   .exact(aAx _ _ (λh:S=b=>H (by rw[h];exact za))).trans e
   .exact r z g B (aDQ W.gtrans ((l.mono t).then_heap (aAh _) λb o a e=>(aAx _ _<|N a).trans e) C)
  |false=>simp only[aAq,if_false];refine aAa (aCT ?_);rw[L];refine aAb ⟨aBB aCN _,Q (j+1) _ d c (by omega) x y (by simp only[cy,a,aAq,if_false];exact f) q λz g B C=>?_⟩;exact r z g B (aDQ W.gtrans (l.mono t) C)
def CM (W:WalksS prog w A.in1 I q a G n P St){j:cq->Prop}(r:∀i s,St i s->j s.heap)(bt:Nat->Nat->Bool)(t:CmpOn prog w A.in1 .Lt j P bt)(S:bb)(f:S∉q)(k:0<n)(u:St 0 s)(l:s.heap.get? S=some {cls:=.type "list",dict:=none,data:=.seq #[] c,slots:=#[]})(x:∀v s',P (cy bt (n-1)) v->Moved (S::a) G s s'->R (.ok (.ret v)) s'):fh (bc prog w) A (.builtin "min.loop" ⟨[.ref I,.none,.ref S],[]⟩) R s:=by
 have y:S∉a:=λh=>f (W.sub _ h);have z:∀b∈a,b∈S::a:=λb d=>aAe _ d;have B:(toString "min"++toString ".loop":String)= "min.loop":=by decide
 have C:∀{b:bb},b∉S::a->S≠b:=λd h=>d (by rw[h];exact aAN);refine aBu aFI ?_;rw[aAY aCN _];show ag _ A.in1 (seqItems? (.ref S)>>=_) _ _ s;refine aAa (aBx l rfl ?_);show ag _ A.in1 (tryCatch (eR<|.ref I) _>>=_) _ _ s;refine aAa (aCU<|W.item 0 s _ _ k u λv s' E H m=>?_);have p:=m.heap S _ y l;show ag _ A.in1 (fo S (λ_=>#[v,v])>>=_) _ _ _;refine aAa ?_;refine aBF p rfl ?_;rw[B];refine aAb ⟨aBB aCN _,IJ W r bt t S f _ 0 _ v _ rfl k (W.frame _ s' _ s'.toks H (aAh _) λb J o e=>?_) E (aBa _ p rfl) λL g N O=>?_⟩
 .exact(aAx _ _ (λh:S=b=>f (by rw[h];exact J))).trans e
 .exact x L g N (aDQ W.gtrans ((m.mono z).then_heap (aAh _) λb o d e=>(aAx _ _<|C d).trans e) O)
def call_minH {E:A4}{Q:A4}(h:ag (bc prog w) A.in1 (pyIter x) (λit a=>∃I d f G n P St g bt,it=.ref I/\WalksS prog w A.in1 I d f G n P St/\St 0 a/\(∀b∈d,b<a.heap.objs.size)/\0<n/\(∀i s,St i s->g s.heap)/\CmpOn prog w A.in1 .Lt g P bt/\
   ∀v s',P (cy bt (n-1)) v->Moved f G a s'->Q v s') E s):
  ag (bc prog w) A (call (.builtin "min") [x]) Q E s:=by
 have k:(toString "min"++toString ".loop":String)= "min.loop":=by decide
 refine call_function_tree F.kind_min F.plain_min F.entry_min (F.args_min1 _) ?_;show ag _ A.in1 (aCI "min" ["key", "default"] 0 ⟨[],[]⟩>>=_) _ _ s;refine aAa (aGp (show aCI "min" ["key", "default"] 0 ⟨[],[]⟩=pure [none,none]from rfl) ?_);refine aAa (aAb ?_);refine aAa (aCs h (λit a l=>?_) λ_ _ e=>e);obtain⟨I,d,f,G,n,P,St,g,bt,rfl,W,m,p,q,r,t,u⟩:=l;refine aAa (aBt ?_);have y:a.heap.objs.size∉d:=λj=>aBf _ (p _ j);rw[k];refine aAb ⟨aBB aCN _,CM W r bt t a.heap.objs.size y q (W.frame 0 a _ a.toks m (aAh _) λb _ o e=>aAc _ e) (aAp _ rfl) λv s' z j=>?_⟩;exact u v s' z (Moved.drop_new (tk:=a.toks) j<|aAh _)
def HK (W:WalksS prog w A.in1 I U m G n P St){E:cq->Prop}(Y:∀i s,St i s->E s.heap)(bt:Nat->Nat->Bool)(lu:CmpOn prog w A.in1 .Gt E P bt)(S:bb)(H:S∉U):
  ∀(k j:Nat) (s:a9) (d:ae) (c:Nat),n-(j+1)=k->j+1<=n->St (j+1) s->P (cy bt j) d->
  s.heap.get? S=some {cls:=.type "list",dict:=none,data:=.seq #[d,d] c,slots:=#[]}->
  (∀v s',P (cy bt (n-1)) v->Moved (S::m) G s s'->R (.ok (.ret v)) s')->fh (bc prog w) A (.builtin "max.loop" ⟨[.ref I,.none,.ref S],[]⟩) R s:=by
 have J:S∉m:=λh=>H (W.sub _ h);have t:∀b∈m,b∈S::m:=λb a=>aAe _ a;have L:(toString "max"++toString ".loop":String)= "max.loop":=by decide
 have N:∀{b:bb},b∉S::m->S≠b:=λa h=>a (by rw[h];exact aAN);intro k;induction k with
 |zero=>
  intro j s d c hk hj u f p r;have O:j+1=n:=by omega
  refine aBu aFJ ?_;rw[aAY aCO _];show ag _ A.in1 (seqItems? (.ref S)>>=_) _ _ s;refine aAa (aBx p rfl ?_);show ag _ A.in1 (tryCatch (eR<|.ref I) _>>=_) _ _ s;refine aAa (aCU<|W.done s _ _ (O▸u) λs' l=>?_);have q:=l.heap S _ J p;show ag _ A.in1 (fo S (λ_=>#[])>>=_) _ _ _;refine aAa ?_;refine aBF q rfl (aAa<|aCT<|aAb ?_);exact r d _ (by rw[<-O];exact f) ((l.mono t).then_heap (tk:=s'.toks) (aAh _) λb o a e=>(aAx _ _<|N a).trans e)
 |succ k Q=>
  intro j s d c hk hj u f p r;have x:j+1<n:=by omega
  refine aBu aFJ ?_;rw[aAY aCO _];show ag _ A.in1 (seqItems? (.ref S)>>=_) _ _ s;refine aAa (aBx p rfl ?_);show ag _ A.in1 (tryCatch (eR<|.ref I) _>>=_) _ _ s;refine aAa (aCU<|W.item (j+1) s _ _ x u λv s' T y l=>?_);have q:=l.heap S _ J p;show ag _ A.in1 (tryCatch (fg [v,v]<|gy .Gt v d>>=_) _>>=_) _ _ _;refine aAa (aCU<|aAR<|aAa<|lu (j+1) (cy bt j) v d _ _ _ (Y _ _ y) T f ?_);refine aAa (aAR<|aBO ?_);refine aAa (aCT<|aAb ?_);cases a:bt (j+1) (cy bt j)with
  |true=>
   simp only[if_true];refine aAa ?_;refine aBF q rfl (aAa<|aCT ?_);rw[L];refine aAb ⟨aBB aCO _,Q (j+1) _ v _ (by omega) x (W.frame _ s' _ s'.toks y (aAh _) λb za o e=>?_) (by simp only[cy,a,if_true];exact T) (aBa _ q rfl)
    λz g B C=>?_⟩
   .exact(aAx _ _ (λh:S=b=>H (by rw[h];exact za))).trans e
   .exact r z g B (aDQ W.gtrans ((l.mono t).then_heap (aAh _) λb o a e=>(aAx _ _<|N a).trans e) C)
  |false=>simp only[aAq,if_false];refine aAa (aCT ?_);rw[L];refine aAb ⟨aBB aCO _,Q (j+1) _ d c (by omega) x y (by simp only[cy,a,aAq,if_false];exact f) q λz g B C=>?_⟩;exact r z g B (aDQ W.gtrans (l.mono t) C)
def AC (W:WalksS prog w A.in1 I q a G n P St){j:cq->Prop}(r:∀i s,St i s->j s.heap)(bt:Nat->Nat->Bool)(t:CmpOn prog w A.in1 .Gt j P bt)(S:bb)(f:S∉q)(k:0<n)(u:St 0 s)(l:s.heap.get? S=some {cls:=.type "list",dict:=none,data:=.seq #[] c,slots:=#[]})(x:∀v s',P (cy bt (n-1)) v->Moved (S::a) G s s'->R (.ok (.ret v)) s'):fh (bc prog w) A (.builtin "max.loop" ⟨[.ref I,.none,.ref S],[]⟩) R s:=by
 have y:S∉a:=λh=>f (W.sub _ h);have z:∀b∈a,b∈S::a:=λb d=>aAe _ d;have B:(toString "max"++toString ".loop":String)= "max.loop":=by decide
 have C:∀{b:bb},b∉S::a->S≠b:=λd h=>d (by rw[h];exact aAN);refine aBu aFJ ?_;rw[aAY aCO _];show ag _ A.in1 (seqItems? (.ref S)>>=_) _ _ s;refine aAa (aBx l rfl ?_);show ag _ A.in1 (tryCatch (eR<|.ref I) _>>=_) _ _ s;refine aAa (aCU<|W.item 0 s _ _ k u λv s' E H m=>?_);have p:=m.heap S _ y l;show ag _ A.in1 (fo S (λ_=>#[v,v])>>=_) _ _ _;refine aAa ?_;refine aBF p rfl ?_;rw[B];refine aAb ⟨aBB aCO _,HK W r bt t S f _ 0 _ v _ rfl k (W.frame _ s' _ s'.toks H (aAh _) λb J o e=>?_) E (aBa _ p rfl) λL g N O=>?_⟩
 .exact(aAx _ _ (λh:S=b=>f (by rw[h];exact J))).trans e
 .exact x L g N (aDQ W.gtrans ((m.mono z).then_heap (aAh _) λb o d e=>(aAx _ _<|C d).trans e) O)
def call_maxH {E:A4}{Q:A4}(h:ag (bc prog w) A.in1 (pyIter x) (λit a=>∃I d f G n P St g bt,it=.ref I/\WalksS prog w A.in1 I d f G n P St/\St 0 a/\(∀b∈d,b<a.heap.objs.size)/\0<n/\(∀i s,St i s->g s.heap)/\CmpOn prog w A.in1 .Gt g P bt/\
   ∀v s',P (cy bt (n-1)) v->Moved f G a s'->Q v s') E s):
  ag (bc prog w) A (call (.builtin "max") [x]) Q E s:=by
 have k:(toString "max"++toString ".loop":String)= "max.loop":=by decide
 refine call_function_tree F.kind_max F.plain_max F.entry_max (F.args_max1 _) ?_;show ag _ A.in1 (aCI "max" ["key", "default"] 0 ⟨[],[]⟩>>=_) _ _ s;refine aAa (aGp (show aCI "max" ["key", "default"] 0 ⟨[],[]⟩=pure [none,none]from rfl) ?_);refine aAa (aAb ?_);refine aAa (aCs h (λit a l=>?_) λ_ _ e=>e);obtain⟨I,d,f,G,n,P,St,g,bt,rfl,W,m,p,q,r,t,u⟩:=l;refine aAa (aBt ?_);have y:a.heap.objs.size∉d:=λj=>aBf _ (p _ j);rw[k];refine aAb ⟨aBB aCO _,AC W r bt t a.heap.objs.size y q (W.frame 0 a _ a.toks m (aAh _) λb _ o e=>aAc _ e) (aAp _ rfl) λv s' z j=>?_⟩;exact u v s' z (Moved.drop_new (tk:=a.toks) j<|aAh _)
end
def walks_more {P:Nat->ae->Prop}{St:Nat->cq->Prop}(W:Walks prog w A I m j n P St)(more:N4)(q:∀p∈more,p.1∉j):
  Walks prog w A I (m++more.map (·.1)) j n P (λi h=>St i h/\∀p∈more,h.get? p.1=some p.2)where
 sub:=λb f=>aBs _ (W.sub b f)
 frame:=λi h g st k=>⟨W.frame i h g st.1 λb f o e=>k b (aBs _ f) o e,λp a=>k p.1 (aAG _<|aBq a) _ (st.2 p a)⟩
 item:=λi s Q E r st d=>W.item i s Q E r st.1 λv g t u x l=>d v g t u ⟨x,λp a=>l p.1 p.2 (q p a) (st.2 p a)⟩ l
 done:=λs Q E st d=>W.done s Q E st.1 d
 self:=λi s Q E st d=>W.self i s Q E st.1 d
end MM
namespace DL
open PySem PySem.Spec L2
open PyProof.Rows hiding St
section
variable [Tabs]
section
def IZ {x:Str}{a:bb}{b:Option bb}{its:Array ae}{n:Nat}{sl:Array (Option ae)}{ns:List Int}(d:X.mg x=some (.ref a))(e:X.K.lookup a=some ⟨.type "tuple",b,.seq its n,sl⟩)(f:l8 (ns.map V.int) its.toList)(hz:its.size<=sizeLine)(g:Gl X x:=by rfl)(h:(x==jh)=false:=by decide):
 PD X (.Name x i) (XI (.tup (ns.map D.int))):=vF (VY g d (show RelV (.ref a) _ from rfl) h) λH O=>.tup (.inr ⟨_,its,n,e,rfl,rfl,hz,f⟩) (Reps.ints ns)
def QU:D->D->R D
 |.non,.non=>.ok (.bl true)
 |_,.non=>.ok (.bl false)
 |_,_=>.bad
def MF:lX X (dA .Is) QU:=by
 intro H O x y e f Q j d g q;refine⟨_,bq,?_⟩;cases f with
 |non=>
  refine⟨g.ac2,?_⟩;cases e with
  |non=>rw[d.ac2];exact q _ H (Same.refl _) .bl
  |bl b=>rw[d.blI];exact q _ H (Same.refl _) .bl
  |int i=>rw[d.aa6];exact q _ H (Same.refl _) .bl
  |str z=>rw[d.ac4];exact q _ H (Same.refl _) .bl
  |tup h=>obtain⟨a,_,rfl,_⟩:=d.tupI;exact q _ H (Same.refl _) .bl
  |lst h=>obtain⟨a,_,rfl,_⟩:=d.aa5;exact q _ H (Same.refl _) .bl
  |dct=>obtain⟨a,_,rfl,_⟩:=d.ag0;exact q _ H (Same.refl _) .bl
 |_=>cases e<;>exact aAk q
def KO (h:PD X e f)(i:ek e none a.line X.env=pure false:=by rfl):pL X (.Expr e a) (λρ=>(f ρ).bind λ_=>.ok (.nx ρ)):=λj k=>
 AA (mS h i) λD σ H O ρ E l q=>⟨j,k,O,ρ,E,by
  cases b:f ρ with
  |ok d=>rw[b]at q;exactλv g s r=>q _ g O (E.grow s) l (Kp.of s)
  |ex x=>rw[b]at q;exactλg s=>q g (E.same.trans s)
  |bad=>rw[b]at q;exact q⟩
def cI:List D->Option (List Bool)
 |[]=>some []
 |.bl b::a=>(cI a).map (b::·)
 |_::_=>none
theorem oF:∀{ds:List D} {bs:List Bool},cI ds=some bs->ds=bs.map D.bl
 |[],bs,h=>by cases h;rfl
 |.bl b::ds,bs,h=>by
  unfold cI at h;cases e:cI ds with
  |none=>rw[e]at h;cases h
  |some l=>rw[e]at h;have a:b::l=bs:=Option.some.inj h;subst a;rw[oF e];rfl
 |.non::_,_,h|.int _::_,_,h|.str _::_,_,h|.tup _::_,_,h|.lst _::_,_,h|.dct::_,_,h=>by cases h
def anyR:List D->R D
 |[.lst a]=>match cI a with
  |some bs=>.ok (.bl (bs.any id))
  |none=>.bad
 |_=>.bad
def CF {K:i6}{H:Hp}{O:bb->Prop}{ws:List V}{bs:List Bool}{its:List ae}(r:Reps K H O ws (bs.map D.bl))(v:l8 ws its):its=bs.map aDk:=by
 induction bs generalizing ws its with
 |nil=>cases r;cases v;rfl
 |cons b bs a=>
  cases r with
  |cons r t=>
   cases v with
   |cons d e=>cases r;have:_=aDk b:=d;rw[this,a t e];rfl
def JO (bs:List Bool):(aBy bs.length).any (λi=>bs.getD i false)=bs.any id:=by
 rw[aDA,aEr,aEr];constructor
 .rintro⟨i,a,e⟩;have d:i<bs.length:=by simpa using a
  refine⟨bs[i],aBU d,?_⟩;simpa[aAl,aAg d]using e
 .rintro⟨b,f,e⟩;obtain⟨i,a,rfl⟩:=aBp f;exact⟨i,by simpa using a,by simpa[aAl,aAg a]using e⟩
def YL (y:X.calm=true):Y3 X (.builtin "any") anyR:=by
 intro H O j A Q fr r q;match A,q with
 |[.lst Y],q=>
  obtain⟨v,rfl,z⟩:=AY r;obtain⟨p,ws,rfl,B,k⟩:=z.aa5;simp only[anyR]at q;cases e:cI Y with
  |none=>rw[e]at q;exact q.elim
  |some bs=>
   rw[e]at q;rw[oF e]at k;refine⟨λj l m=>j=[.ref p]/\l=H/\m=Q,λn s σ l Y us m I C ⟨J,L,N⟩=>?_,rfl,rfl,rfl⟩;subst J L N;obtain⟨u,rfl,T⟩:=vals1 C;cases T;obtain⟨a,g,⟨U,nL,t,cL,dL,sL⟩,zL⟩:=I.list B;have w:=CF k g;have x:s.heap.IsList p a.toArray:=⟨U,t,cL,nL,sL⟩;refine call_any_walk (aDE x ⟨s.heap.objs.size,_,_,a.toArray.size,_,_,λi=>bs.getD i false,rfl,Walks.list (by simp[I.ok.hd y]) s.heap.objs.size p (aAm<|aAf t) a.toArray,⟨⟨_,aAp _ rfl,rfl,rfl⟩,x.push _⟩,λi v s' Q E d f=>?_,λh' tk kp=>?_⟩)
   .have d:a.toArray[i]?=some v:=d;have f:Q (bs.getD i false) s':=f;rw[aBY,w,aAI]at d;cases h:bs[i]? with
    |none=>rw[h]at d;cases d
    |some b=>rw[h]at d;have:aDk b=v:=Option.some.inj d;subst this;rw[aAl,h]at f;exact aBO f
   .have I2:=I.kept (h':=h') (t':=tk) λb o e=>kp b o (by simp only[aAV];exact aAm (aAf e)) (aAc _ e);refine⟨.bl (bs.any id),_,I2,?_,q _ _ (Same.refl _) .bl⟩;show aDk _=aDk _;rw[aAn,w,aAj,JO]
end
def NJ (ds:List D)(i j:Nat):Bool:=HT.lexLt (flat<|ds.getD i .non) (flat<|ds.getD j .non)
def ND:List D->R D
 |[.lst a]=>if a≠[]/\a.all S7=true then .ok (a.getD (cy (NJ a) (a.length-1)) .non)else .bad
 |_=>.bad
def jF (h:cq)(its:List ae):List (bb×Obj):=its.filterMap λv=>match v with
 |.ref b=>(h.get? b).map λo=>(b,o)
 |_=>none
def pB (a:aDJ b∈its)(e:h.get? b=some o):(b,o)∈jF h its:=
 aCb.mpr ⟨_,a,by show(h.get? b).map _=_;rw[e];rfl⟩
def O8 (a:p∈jF h its):h.get? p.1=some p.2:=by
 obtain⟨v,_,e⟩:=aCb.mp a;cases v with
 |ref b=>
  have e:(h.get? b).map (λo=>(b,o))=some p:=e;cases q:h.get? b with
  |none=>rw[q]at e;cases e
  |some o=>rw[q]at e;cases e;exact q
 |_=>cases e
section
def WL (hc:X.calm=true)(hu:X.A.units+300<dg):Y3 X (.builtin "min") ND:=by
 intro H O vs ds Q fr r q;match ds,q with
 |[.lst Y],q=>
  obtain⟨v,rfl,z⟩:=AY r;obtain⟨p,ws,rfl,h1,h2⟩:=z.aa5;simp only[ND]at q;by_cases x:Y≠[]/\Y.all S7=true
  .rw[h9 x]at q;obtain⟨af,x⟩:=x;have pt:∀d∈Y,S7 d=true:=aBE.mp x;refine⟨λvs N Q'=>vs=[.ref p]/\N=H/\Q'=Q,λpins s σ N xs' us Q' I rv z9=>?_,rfl,rfl,rfl⟩;obtain⟨e1,e2,e3⟩:=z9;subst e1 e2 e3;obtain⟨u,rfl,ru⟩:=vals1 rv;cases ru;obtain⟨f,y,⟨oL,nL,T,cL,dL,sL⟩,zL⟩:=I.list h1;have hl:s.heap.IsList p f.toArray:=⟨oL,T,cL,nL,sL⟩;have st:v9 X.K N O f Y:=v9.of y h2;have l:f.toArray.size=Y.length:=by rw[aAn,<-y.length,h2.length]
   have sv:0<Y.length:=aDR.mpr af;have W:=MM.walks_more (Walks.list (prog:=X.prog) (w:=X.w) (A:=X.A.in1) (by simp[I.ok.hd hc]) s.heap.objs.size p (aAm<|aAf T) f.toArray) (jF s.heap f)
    (λq t=>by simp only[aAV];exact aAm (aAf<|O8 t))
   refine MM.call_minH (aDE hl ⟨s.heap.objs.size,_,_,_,f.toArray.size,_,_,λh=>∀q∈jF s.heap f,h.get? q.1=some q.2,NJ Y,rfl,W.toS,⟨⟨⟨_,aAp _ rfl,rfl,rfl⟩,hl.push _⟩,λq t=>aAc _ (O8 t)⟩,λb k=>?_,by rw[l];exact sv,λi s h=>h.2,λi j vi vj m Q2 E2 hh B hj t=>?_,λv m E J=>?_⟩)
   .rw[aBw];rcases aAU.mp k with k|k
    .rcases aAd.mp k with rfl|k
     .exact aDi _
     .rcases aAd.mp k with rfl|k
      .exact aBg (aAf T)
      .cases k
    .obtain⟨q,t,rfl⟩:=aAi.mp k;exact aBg (aAf<|O8 t)
   .have one:∀i v,f.toArray[i]?=some v->∃b a,v=.ref b/\IsTup m.heap b a/\IntsAre a.toList (flat<|Y.getD i .non):=λi v B=>by
     rw[aBY]at B;obtain⟨d,L,w,U,rp⟩:=A7 st B;have oh:Y.getD i .non=d:=by rw[aAl,L];rfl
     rw[oh];have C:=pt d (aAu L);obtain⟨b,a,rfl,⟨o,g,c,n,dd⟩,hia⟩:=G6 C (V6 I rp (A8 C) U);exact⟨b,a,rfl,⟨o,hh _ (pB (aAu B) g),c,n,dd⟩,hia⟩
    obtain⟨b,a,rfl,t1,i1⟩:=one i vi B;obtain⟨b',um,rfl,t2,i2⟩:=one j vj hj;exact HT.lt_tupInts t1 t2 i1 i2 (by rw[t7];lia) t
   .have E:f.toArray[cy (NJ Y) (f.toArray.size-1)]?=some v:=E;rw[aBY,l]at E;obtain⟨d,L,w,U,rp⟩:=A7 st E;have oh:Y.getD (cy (NJ Y)<|Y.length-1) .non=d:=by rw[aAl,L];rfl
    rw[oh]at q;have I2:=I.kept (h':=m.heap) (t':=m.toks) λb o e=>J.heap b o (by simp only[aAV];exact aAm (aAf e)) (aAc _ e);have es:m={s with heap:=m.heap,toks:=m.toks}:=by have g1:=J.gens;have g2:=J.drawn;have g3:=J.os;cases m;simp only at g1 g2 g3;subst g1 g2 g3;rfl
    rw[es];exact⟨w,_,I2,U,q _ _ (Same.refl _) rp⟩
  .rw[ib x]at q;exact q.elim
def TF (h:RA ds)(n:Nat)(a:n<ds.length):cy (NJ ds) n=0:=by
 induction n with
 |zero=>rfl
 |succ k b=>
  have e:=b (by lia);unfold cy;rw[e];have:NJ ds (k+1) 0=false:=by
   unfold NJ;rw[aAl,aAl,aAg a,aAg (by lia:0<ds.length)];have:=aCl.mp h 0 (k+1) (by lia) a (by lia);cases q:HT.lexLt (flat<|(some ds[k+1]).getD .non) (flat ((some (ds[0]'(by lia))).getD .non))with
   |false=>rfl
   |true=>have z:HT.lexLt (flat (ds[0]'(by lia))) (flat (ds[0]'(by lia)))=true:=TS.lex_trans _ _ _ this q;rw[TS.lex_irrefl]at z;cases z
  rw[this];rfl
end
end
section
variable [Tabs]
end
end DL
namespace DL
open PySem PySem.Spec L2
open PyProof.Rows hiding St sub_tuple_tuple sub_list_list sub_tuple_list sub_list_tuple
section
open PySem.MeetsSeq PySem.MeetsSeq2 PySem.MeetsSeq3 PySem.AutoSeq1
def ML (l:bb)(Y:Array ae)(n:Nat)(b:bb)(a:Array ae)(n2:Nat)(sl:Array (Option ae))(i:¬(!Y.isEmpty&&aCZ (Y.size+a.size))=true)(j:Y.size<=sizeLine)(e:Y.size+a.size<=sizeLine+1):
  Meets (Builtin.«list.extend» ⟨[.ref l,.ref b],[]⟩) (λ_ R s=>s.heap.get? l=some ⟨.type "list",none,.seq Y n,#[]⟩/\s.heap.get? b=some ⟨.type "list",none,.seq a n2,sl⟩/\R (.ok (.ret Value.none)) {s with heap:=s.heap.update l (aBI λx=>x++a),toks:=s.toks}):=
 .of_wp λf w A R s q=>by
  obtain⟨o,g,d,p,os⟩:=s;obtain⟨h,k,m⟩:=q;have r:=idx_int;have t:=sub_tuple_tuple;have u:=sub_list_list;have v:=sub_tuple_list;have y:=sub_list_tuple;have z:(Y++a).size<=sizeLine+1:=by rw[Array.size_append];exact e
  wp_walk using(aBF h rfl (hz:=j) (_hz':=z)),aDy h,aDy k
  exact⟨_,rfl,m⟩
end
section
def uq (K:i6):V->List V->Hp->VK->Prop:=λx d H Q=>∃l b Y a,x=.ref l/\d=[.ref b]/\H l=some (.lst Y)/\N2 K H b a/\Y.length+a.length<=sizeLine/\Q .non (upd H l<|.lst (Y++a))
def fj:MtM X "list.extend" (uq X.K):=by
 intro i s σ H x N v O Q I t w h;obtain⟨l,b,Y,T,rfl,rfl,j,y,U,q⟩:=h;cases t;obtain⟨u,rfl,A⟩:=w.one;cases A;obtain⟨z,a,n,r,hl,e⟩:=I.af6 j;obtain⟨f,k,⟨⟨B,ua,C,E⟩,J,L,m,o,p⟩,z2⟩:=I.list y;simp only at m o p;subst m o p;have qd:=k.length;have g:a.toArray.size+f.toArray.size<=sizeLine:=by rw[aAn,aAn];lia
 have d:¬(!a.toArray.isEmpty&&aCZ (a.toArray.size+f.toArray.size))=true:=by rw[OV g,aGh];exact aBb
 refine call_meets F.slot_list_extend ⟨_,e,rfl⟩ F.entry_list_extend (F.args_list_extend_2 _ _) (ML l a.toArray n b f.toArray J E d (by rw[aAn];lia) (by lia)) ⟨e,L,?_⟩;refine⟨.non,_,I.af2 (its':=a++f) j e (by simp) (r.append k) ?_,rfl,q⟩;rw[aAB]
 lia
end
variable [Tabs]
section
def oT (i:Nat)(A:PD X e f)(B:X.N[i]?=some x:=by rfl)(I:BN X.env.scope x:=by first|exact aCV rfl|exact aCc (aCV rfl)|exact aCc (aCc rfl))(J:(x==jh)=false:=by decide)(L:(x==ji)=false:=by decide)(Q:gn (.Name x p) "extend" X.env (dm (.Name x p) X.env)=dm (.Name x p) X.env:=by rfl)(T:((cz g (ar [e] X.env)).all (λx=>!x.1)&&(backToKw g (keywordEach [] X.env)).all (λx=>x.1.isSome)
   &&decide ([e].length+([]:List Keyword).length+(if([]:List Keyword).isEmpty then 0 else 1)<30))=true:=by rfl) (U:(b.endLine==g.line)=true:=by rfl) (r:ar [e] X.env=(false,dm e X.env)::ar [] X.env:=by rfl) (lg:(cz g (ar [] X.env)).any (·.1)=false:=by rfl) (xp:ek (.Call (.Attribute (.Name x p) "extend" b) [e] [] g) none l.line X.env=pure false:=by rfl):
  pL X (.Expr (.Call (.Attribute (.Name x p) "extend" b) [e] [] g) l) (λρ=>(f ρ).bind (RY i ρ)):=λH9 O0=>
 AA (mS (XA PySem.F.plainAttrs_list PySem.F.slot_list_extend PySem.F.type_list_extend fj (R6 B I J L) (i8 A u0 r) Q T U r lg) xp) λD σ H O ρ E fk q=>by
 cases j:f ρ with
 |ok d=>
  rw[j,R.aa0]at q;unfold RY at q;cases h:ρ[i]? with
  |none=>rw[h]at q;exact aAk q
  |some s=>
   rw[h]at q;cases s with
   |x C=>exact aAk q
   |c m φ=>exact aAk q
   |d N=>exact aAk q
   |no=>exact aAk q
   |v d=>exact aAk q
   |o Y=>
    cases d with
    |lst ys=>
     dsimp only at q;split at q
     .rename_i hz;obtain⟨a,t,u,h2,h3,w,y⟩:=E.own i Y h;refine⟨_,u,.inl ⟨rfl,t,N2.of w⟩,H9,O0,O,ρ,E,?_⟩;show IG X H O ((f ρ).bind λd=>(R.ok []).bind λds=>.ok (d::ds)) _;rw[j];intro us H1 k n;cases n with
      |cons n rn=>
       cases rn;have E1:=E.grow k;cases n with
       |lst hb nb z=>refine⟨a,_,t,_,rfl,rfl,k _ _ w,hb,by rw[y.length,z.length];exact hz,?_⟩;obtain⟨E2,k2⟩:=E1.write h u ((y.same k).append z);exact q σ _ O E2 fk ((Kp.of k).trans k2)
     .exact aAk q
    |_=>exact aAk q
 |ex x=>
  rw[j]at q;cases h:ρ[i]? with
  |none=>exact(q H E.same).elim
  |some s=>exact(q H E.same).elim
 |bad=>rw[j]at q;exact aAk q
end
end DL
namespace TS
open PySem PyProof.Rows HT
section
def FR (A:cf)(s:a9)(x y:ae)(b:Bool):Prop:=∀(a:be) (w:cp) (E:A4) (Q:wO),Q b s->ag (bc a w) A (oneLt' false x y) Q E s
def lt_two {Q:wO}(g:IsTup s.heap l #[p,r])(h:IsTup s.heap b #[a,d])(i:f=false)(j:SeqAt.EqAt A s p a e1)(k:e1=false->FR A s p a b1)(m:e1=true->SeqAt.EqAt A s r d e2)(t:e1=true->e2=false->FR A s r d b2)(q:Q (bif e1 then(bif e2 then false else b2)else b1) s):ag (bc prog w) A (keyLt' (tupK f) (.ref l) (.ref b)) Q E s:=by
 obtain⟨o,u,y,n,v⟩:=g;obtain⟨z,x,B,C,e⟩:=h;subst i;rw[rS];refine aAa (aEm u v<|aAa<|aEm x e ?_);show ag _ _ (forIn [((p,a),0),((r,d),1)] _ _>>=_) _ _ _;rw[aDa];refine aAa (aAa ?_);refine aAa (j _ _ _ _ ?_);cases e1 with
 |false=>refine aAa (k rfl _ _ _ _ ?_);exact aAb (aAb<|aAb q)
 |true=>
  refine aAb ?_;dsimp only;rw[aDa];refine aAa ?_;refine aAa (m rfl _ _ _ _ ?_);cases e2 with
  |false=>refine aAa (t rfl rfl _ _ _ _ ?_);exact aAb (aAb<|aAb q)
  |true=>refine aAb ?_;dsimp only;rw[aEh];exact aAb (aAb q)
def QH (h:∀(prog:be) (w:cp) (E:A4) (Q:A4),Q (.bool b) s->ag (bc prog w) A (gy .Lt x y) Q E s):FR A s x y b:=λprog w E Q q=>by rw[oneLt'_eq];simp only[aAq,if_false];exact aAa (h prog w _ _<|aBO q)
def oneLt_tup (d:IsTup s.heap l items)(e:IsTup s.heap b f)(g:IntsAre items.toList ns)(h:IntsAre f.toList i)(j:A.units<dg):FR A s (.ref l) (.ref b) (HT.lexLt ns i):=
 QH λa w E Q q=>HT.lt_tupInts d e g h j q
end
end TS
namespace DL
open PySem PySem.Spec L2
open PyProof.Rows hiding St
section
def uX (k:D->List Int)(d:D):List D->List D
 |[]=>[d]
 |x::Y=>if HT.lexLt (k d) (k x)=true then d::x::Y else x::uX k d Y
def bY (k:D->List Int)(ds:List D):List D:=ds.foldr (uX k) []
def pI (k:D->List Int)(ds:List D):Prop:=ds.Pairwise λx y=>HT.lexLt (k x) (k y)=true
theorem kF (k:D->List Int)(d:D):∀Y:List D,(uX k d Y).Perm (d::Y)
 |[]=>.refl _
 |x::Y=>by
  unfold uX;split
  .exact .refl _
  .exact((kF k d Y).cons x).trans (.swap d x Y)
theorem G0 (k:D->List Int):∀ds:List D,(bY k ds).Perm ds
 |[]=>.refl _
 |d::ds=>(kF k d (bY k ds)).trans ((G0 k ds).cons d)
theorem zA:∀{Y:List D},pI k Y->(∀x∈Y,k x≠k d)->pI k (uX k d Y)
 |[],_,_=>aDX _ _
 |x::Y,h,n=>by
  have b:=aAz.mp h;unfold uX;split
  .rename_i lt;refine aAz.mpr ⟨λy a=>?_,h⟩;rcases aAd.mp a with rfl|a
   .exact lt
   .exact TS.lex_trans _ _ _ lt (b.1 y a)
  .rename_i e;refine aAz.mpr ⟨λy a=>?_,zA b.2 λz f=>n z (.tail _ f)⟩;rcases aAd.mp ((kF k d Y).mem_iff.mp a)with rfl|a
   .cases q:HT.lexLt (k x) (k y)with
    |true=>rfl
    |false=>exact absurd (TS.lex_total _ _ q (by simpa using e)) (n x<|.head _)
   .exact b.1 y a
theorem aO:∀{ds:List D},(ds.map k).Nodup->pI k (bY k ds)
 |[],_=>.nil
 |d::ds,h=>by rw[aAr,aAE]at h;refine zA (aO h.2) λx a e=>h.1 ?_;rw[<-e];exact aBq ((G0 k ds).mem_iff.mp a)
theorem dS:∀{Y a:List D},pI k Y->pI k a->Y.Perm a->Y=a
 |[],a,_,_,p=>(List.nil_perm.mp p).symm
 |x::Y,[],_,_,p=>by have:=p.length_eq;simp at this
 |x::Y,y::a,g,h,p=>by
  have e:=aAz.mp g;have f:=aAz.mp h;have b:x=y:=by
   rcases aAd.mp (p.mem_iff.mp<|.head _)with q|q
   .exact q
   .rcases aAd.mp (p.mem_iff.mpr<|.head _)with d|d
    .exact d.symm
    .have:=TS.lex_trans _ _ _ (f.1 x q) (e.1 y d);rw[TS.lex_irrefl]at this;cases this
  subst b;rw[dS e.2 f.2 ((List.perm_cons x).mp p)]
def DW [Tabs]{R:ae->D->Prop}{key:ae->List Int}{k:D->List Int}{a:List ae}{ds:List D}(st:Paired R a ds)(f:a.Pairwise λx y=>HT.lexLt (key y) (key x)=false)(p:(ds.map k).Nodup)(g:∀u d,R u d->d∈ds->key u=k d):pI k ds:=by
 induction st with
 |nil=>exact .nil
 |@cons u d a ds r t q=>
  have i:=aAE.mp p;have m:=aAz.mp f;refine aAz.mpr ⟨λe s=>?_,q m.2 i.2 λu d h v=>g u d h (.tail _ v)⟩;obtain⟨j,b,rfl⟩:=aBp s;have n:j<a.length:=by rw[t.length];exact b
  obtain⟨A,o,w⟩:=A7 t (aAg n);rw[aAg b]at o;cases o;have l:=m.1 a[j] (aBU n);rw[g _ _ w (.tail _ (aBU b)),g u d r (.head _)]at l;cases z:HT.lexLt (k d) (k ds[j])with
  |true=>rfl
  |false=>exact absurd (aAi.mpr ⟨ds[j],aBU b,(TS.lex_total _ _ z l).symm⟩) i.1
def jx:D->Bool
 |.tup [p,.lst _]=>S7 p
 |_=>false
def R1:D->List Int
 |.tup (p::_)=>flat p
 |_=>[]
def ZD (h:jx d=true):∃p r,d=.tup [p,.lst r]/\S7 p=true/\R1 d=flat p:=by
 unfold jx at h;split at h
 .exact⟨_,_,rfl,h,rfl⟩
 .cases h
def sfR:D->R (List D)
 |.lst a=>if a.all jx=true/\(a.map R1).Nodup/\a.length<=63 then .ok (bY R1 a)else .bad
 |_=>.bad
variable [Tabs]
def FV (h:cq)(u:ae)(l:List Int):Prop:=∃b p r d,u=.ref b/\IsTup h b #[p,r]/\S7 d=true/\HV h p d/\flat d=l
def FV.inj (x:FV h u l)(y:FV h u k):l=k:=by obtain⟨b,p,r,d,rfl,⟨o,g,_,n,m⟩,_,q,rfl⟩:=x;obtain⟨t,v,w,z,e,⟨A,i,_,B,a⟩,_,f,rfl⟩:=y;cases e;rw[g]at i;cases i;rw[m]at a;injection a with s _;have j:=i5 aFU s;simp only[aEM]at j;obtain⟨rfl,_⟩:=j;rw[HV.inj q f]
def HA (h:cq) (u:ae):List Int:=open Classical in if p:∃l,FV h u l then p.choose else[]
def gS (x:FV h u l):HA h u=l:=by unfold HA;rw[dif_pos ⟨l,x⟩];exact FV.inj (Exists.choose_spec (⟨l,x⟩:∃l,FV h u l)) x
section
def LN (I:Inv X e σ H s)(r:Rep X.K H O v d)(h:jx d=true)(g:RelV v u):FV s.heap u (R1 d):=by
 obtain⟨p,ring,rfl,f,i⟩:=ZD h;cases r with
 |tup q a=>
  cases g;obtain⟨j,b,k,_⟩:=I.tuple q;cases a with
  |cons l a=>
   cases a with
   |cons m a=>
    cases a;cases b with
    |cons v1 b=>
     cases b with
     |cons n b=>cases b;exact⟨_,_,_,p,rfl,k,f,V6 I l (A8 f) v1,i.symm⟩
end
section
def DE (ha:PB X e f)(hh:X.calm=true)(hu:X.A.units+300<dg)(hg:Gl X "sorted":=by rfl)(hm:X.mg "sorted"=none:=by assumption)(hv:cv "sorted"=some (.builtin "sorted"):=by decide+kernel)(he:ar [e] X.env=(false,dm e X.env)::ar [] X.env:=by rfl)(bo:(cz pos (ar [] X.env)).any (·.1)=false:=by rfl):
  PF X (.Call (.Name "sorted" p) [e] [] pos) (λρ=>(f ρ).bind sfR):=by
 refine wN λpins s σ H Q I H9 O0 O ρ E q=>?_;dsimp only at q;refine aAW (M1 I hg hm hv ?_ (by decide) (by decide));have qc:PA X [e] _:=K3 ha bJ he;refine aBQ (F7 (qc pos pins s σ H (λvs H1=>∃v t,vs=[v]/\f ρ=.ok (.lst t)/\Same H H1/\A5 X.K H1 O v (.lst t)) I ⟨H9,O0,O,ρ,E,?_⟩) λus J z9=>?_) he bo
 .cases e1:f ρ with
  |ex z=>rw[e1]at q;exact q
  |bad=>rw[e1]at q;exact q.elim
  |ok d=>
   rw[e1,R.aa0]at q;cases d with
   |lst t=>exactλv H1 J r1=>⟨v,t,rfl,rfl,J,r1⟩
   |_=>exact aAk q
 .obtain⟨vs,H1,I1,r1,v,t,ev,ef,sm,rb⟩:=z9;subst ev;rw[ef,R.aa0]at q;obtain⟨a,ws,rfl,hS,rr⟩:=rb.aa5;obtain⟨u,rfl,ru⟩:=vals1 r1;cases ru;obtain⟨m,rv,⟨oL,nL,gL,cL,dL,sL⟩,zL⟩:=I1.list hS;have hl:J.heap.IsList a m.toArray:=⟨oL,gL,cL,nL,sL⟩;simp only[sfR]at q;by_cases hc:t.all jx=true/\(t.map R1).Nodup/\t.length<=63
  .rw[h9 hc]at q;obtain⟨oo,nd,wc⟩:=hc;have fc:∀d∈t,jx d=true:=aBE.mp oo;have st:v9 X.K H1 O m t:=v9.of rv rr;have hlen:m.length=t.length:=st.length;have B:∀u∈m,∃i d,m[i]?=some u/\t[i]?=some d/\FV J.heap u (R1 d):=λu hu=>by obtain⟨i,hi,rfl⟩:=aBp hu;obtain⟨d,Y,w,mo,rp⟩:=A7 st (aAg hi);exact⟨i,d,aAg hi,Y,LN I1 rp (fc d<|aAu Y) mo⟩
   have keq:∀u∈m,∀u'∈m,HA J.heap u=HA J.heap u'->u=u':=λu hu u' ba e=>by
    obtain⟨i,d,hi,Y,fv⟩:=B u hu;obtain⟨j,d',hj,oh,fv'⟩:=B u' ba;rw[gS fv,gS fv']at e;have eij:i=j:=by obtain⟨li,ei⟩:=aAC.mp Y;obtain⟨lj,ej⟩:=aAC.mp oh;refine(List.getElem_inj (xs:=t.map R1) (i:=i) (j:=j) (h₀:=by simpa using li) (h₁:=by simpa using lj) nd).mp ?_;rw[aDj,aDj,ei,ej];exact e
    subst eij;rw[hi]at hj;cases hj;rfl
   refine TS.sorted_keys (vs:=m) (f:=false) (key:=HA J.heap) (C:=λs'=>∃h',s'={J with heap:=h'}/\∀b o,J.heap.get? b=some o->h'.get? b=some o)
    (λ{Q'} hq=>collect_list hl (hq _ ⟨_,rfl,λb o e=>?_⟩) (by rw[hlen];exact aAs wc (by decide)))
    (λs' ⟨h',U,k⟩ s6 k6 x hx y hy prog w A E hA {Q} qq=>?_) (λh2 s' ⟨h',U,k⟩ s6 k6 A {Q} qq=>?_) (by rw[hlen];lia) λs' ie h' l ⟨h1,U,k⟩ pm srt k2 hl ⟨n,gl⟩=>?_
   .exact(aAx _ _<|aBW<|aAm<|aAf e).trans (aAc _ e)
   .subst U;have kk:∀b o,J.heap.get? b=some o->s6.heap.get? b=some o:=λb o e=>k6 b o (k b o e);obtain⟨i,d,hi,Y,fv⟩:=B x hx;obtain⟨j,d',hj,oh,fv'⟩:=B y hy;have kx:=gS fv;have ky:=gS fv';have eqk:=keq x hx y hy;rw[kx,ky]at qq;rw[kx,ky]at eqk;obtain⟨b,p1,r1,d1,rfl,⟨o,g,c,n,dd⟩,N,hv1,e1⟩:=fv;obtain⟨b',p2,r2,d2,rfl,⟨o',g',c',n',dd'⟩,hp2,hv2,e2⟩:=fv';have L:HV s6.heap p1 d1:=hv1.keeps λb o e _=>kk b o e;have hv2':HV s6.heap p2 d2:=hv2.keeps λb o e _=>kk b o e;have hA':A.units+8<dg:=by lia
    obtain⟨c1,i1,rfl,t1,ia1⟩:=G6 N L;obtain⟨c2,i2,rfl,t2,ia2⟩:=G6 hp2 hv2';rw[<-e1,<-e2]at qq eqk;refine TS.lt_two (e1:=u8 d1 d2) (e2:=true) (b1:=HT.lexLt (flat d1) (flat d2)) (b2:=false) ⟨o,kk _ _ g,c,n,dd⟩ ⟨o',kk _ _ g',c',n',dd'⟩ rfl (sD L hv2' (by have:=mK N;lia)) (λ_=>TS.oneLt_tup t1 t2 ia1 ia2 (by lia)) (λeq=>?_) (λ_ z=>by cases z) ?_
    .have ed:=bM (A8 N) (A8 hp2) eq;have er:=eqk (by rw[ed]);cases er;rw[g]at g';cases g';rw[dd]at dd';injection dd' with e3 _;have e4:=i5 aFU e3;simp only[aEM]at e4;rw[e4.2.1];exact aEa _
    .cases z:u8 d1 d2 with
     |false=>exact qq
     |true=>have ed:=bM (A8 N) (A8 hp2) z;rw[ed,TS.lex_irrefl]at qq;exact qq
   .subst U;have kk:∀b o,J.heap.get? b=some o->s6.heap.get? b=some o:=λb o e=>k6 b o (k b o e);have sg:∀x∈m,∃p,∃b r,x=.ref b/\IsTup s6.heap b r/\r[0]?=some p/\s6.TypeIs p "tuple":=λx hx=>by obtain⟨i,d,hi,Y,fv⟩:=B x hx;obtain⟨b,p1,r1,d1,rfl,⟨o,g,c,n,dd⟩,N,hv1,e1⟩:=fv;have L:HV s6.heap p1 d1:=hv1.keeps λb o e _=>kk b o e;obtain⟨c1,i1,rfl,⟨o1,g1,cc1,_⟩,ia1⟩:=G6 N L;exact⟨_,b,_,rfl,⟨o,kk _ _ g,c,n,dd⟩,rfl,⟨o1,g1,cc1⟩⟩
    obtain⟨gf,hgf⟩:∃gf:ae->ae,∀x∈m,∃b r,x=.ref b/\IsTup s6.heap b r/\r[0]?=some (gf x)/\s6.TypeIs (gf x) "tuple":=by refine⟨λx=>open Classical in if z:x∈m then(sg x z).choose else .none,λx hx=>?_⟩;dsimp only;rw[dif_pos hx];exact(sg x hx).choose_spec
    exact TS.kind_tuples (T:= "tuple") gf hgf (λz=>by rw[z]at h2;simp at h2) (by decide) qq
   .subst U;obtain⟨qe,p2,ku⟩:=Y4 pm st;have hk:∀u d,(∃v,RelV v u/\Rep X.K H1 O v d)->d∈t->HA J.heap u=R1 d:=by rintro u d ⟨v,rv,rp⟩ Y;exact gS (LN I1 rp (fc d Y) rv)
    have qf:(qe.map R1).Nodup:=(p2.map R1).nodup_iff.mpr nd;have yc:pI R1 qe:=DW (R:=λu d=>∃v,RelV v u/\Rep X.K H1 O v d) ku srt qf λu d h Y=>hk u d h (p2.mem_iff.mp Y);have e2:qe=bY R1 t:=dS yc (aO nd) (p2.trans (G0 R1 t).symm);subst e2;obtain⟨wv,mo,ou⟩:=v9.ac3 ku;have I2':=I1.kept (h':=h1) (t':=J.toks) k;have I3:=I2'.laid (a:=l) (o:=.lst wv) (h':=h') (t':=J.toks) k2 hl ⟨by rw[ou.length,(G0 R1 t).length_eq];exact aAs wc (by decide),ie,n,mo,gl⟩;exact⟨.ref l,_,I3,rfl,q wv _ l sm (I2'.hok.fresh hl) ou⟩
  .rw[ib hc]at q;exact q.elim
end
end
section
def kC:List Int->Int
 |[]=>0
 |a::l=>l.foldl max a
theorem T1:∀(l:List Int) (a:Int),(l.foldl max a=a\/l.foldl max a∈l)/\a<=l.foldl max a/\∀b∈l,b<=l.foldl max a
 |[],a=>⟨.inl rfl,aBV _,λb h=>by cases h⟩
 |c::l,a=>by
  obtain⟨d,g,f⟩:=T1 l (max a c);rw[aEG];refine⟨?_,by lia,λb e=>?_⟩
  .rcases d with d|d
   .rw[d];rcases Int.le_total a c with q|q
    .exact .inr (by rw[Int.max_eq_right q];exact .head _)
    .exact .inl (Int.max_eq_left q)
   .exact .inr (.tail _ d)
  .rcases aAd.mp e with rfl|e
   .lia
   .exact f b e
def iP (h:ns≠[]):kC ns∈ns:=by
 cases ns with
 |nil=>exact absurd rfl h
 |cons a l=>
  rcases(T1 l a).1 with q|q
  .show l.foldl max a∈_;rw[q];exact .head _
  .exact .tail _ q
def mZ (h:a∈ns):a<=kC ns:=by
 cases ns with
 |nil=>cases h
 |cons b l=>
  rcases aAd.mp h with rfl|h
  .exact(T1 l a).2.1
  .exact(T1 l b).2.2 a h
def FY:List D->R D
 |[.lst Y]=>match fG Y with
  |some a=>if a≠[]then .ok (.int (kC a))else .bad
  |none=>.bad
 |_=>.bad
variable [Tabs]
section
def KN (d:IntsAre its ns)(e:its.toArray=intItems b):∀i,numAt b i=ns.getD i 0:=λi=>by have a:=nums_intItems b;rw[<-e]at a;have f:=d.numsOf;rw[show its.toArray.toList=its from rfl,f]at a;rw[a];unfold numAt;rw[aAl,aAI,<-aAF]
def UQ (C:X.calm=true):Y3 X (.builtin "max") FY:=by
 intro H O k E Q fr r q;match E,q with
 |[.lst Y],q=>
  obtain⟨v,rfl,z⟩:=AY r;obtain⟨p,ws,rfl,l,m⟩:=z.aa5;simp only[FY]at q;cases e:fG Y with
  |none=>rw[e]at q;exact q.elim
  |some d=>
   rw[e]at q;dsimp only at q;by_cases f:d≠[]
   .rw[h9 f]at q;rw[jI e]at m;rw[iY m]at l;refine⟨λk n o=>k=[.ref p]/\n=H/\o=Q,λw s σ n J us o I L ⟨N,T,U⟩=>?_,rfl,rfl,rfl⟩;subst N T U;obtain⟨u,rfl,ru⟩:=vals1 L;cases ru;obtain⟨its,r',pl,hz⟩:=I.list l;have g:=DL.U5 r';obtain⟨a,h⟩:=g.allInts.items;have x:=pl.isList;rw[h]at x;have y:a.size=d.length:=by have:=i5 Array.size h;rw[aAn,g.length]at this;simpa[intItems]using this.symm
    have sv:0<d.length:=aDR.mpr f;refine max_intList (I.ok.hd C) x (by lia) λv h' tk hv hk=>?_;obtain⟨t,rfl⟩:=intItems_at hv;obtain⟨g1,A⟩:=argBest_gt (numAt a) (a.size-1);have em:numAt a (cy (λi j=>decide (numAt a i>numAt a j))<|a.size-1)=kC d:=by
     generalize cy (λi j=>decide (numAt a i>numAt a j)) (a.size-1)=b at g1 A;have m1:numAt a b∈d:=by rw[KN g h,aAl,aAg (by lia)];exact aBU _
     have m2:=mZ m1;obtain⟨j,hj,ej⟩:=aBp (iP f);have B:=A j (by lia);rw[KN g h j,aAl,aAg hj]at B;have m4:d[j]<=numAt a b:=B
     lia
    rw[em];exact⟨.int (kC d),_,I.kept hk,⟨t,rfl⟩,q _ _ (Same.refl _) .int⟩
   .rw[ib f]at q;exact q.elim
def OA (K:i6)(mg:cH)(x:Str)(ns:List Int):Prop:=∃a d b n e,mg x=some (.ref a)/\K.lookup a=some ⟨.type "tuple",d,.seq b n,e⟩/\l8 (ns.map V.int) b.toList/\b.size<=sizeLine
omit [Tabs]in
def ZE {K:i6}{mg:cH}{x:Str}{a:bb}{b:Option bb}{n:Nat}{sl:Array (Option ae)}{i j k:Int}{t u v:Tok}(d:mg x=some (.ref a))(e:K.lookup a=some ⟨.type "tuple",b,.seq #[.int i t,.int j u,.int k v] n,sl⟩):OA K mg x [i,j,k]:=
 ⟨a,b,_,n,sl,d,e,.cons ⟨t,rfl⟩ (.cons ⟨u,rfl⟩ (.cons ⟨v,rfl⟩ .nil)),show 3<=sizeLine by decide⟩
def vX (c:OA X.K X.mg x ns)(b:Gl X x:=by rfl)(d:(x==jh)=false:=by decide):PD X (.Name x e) (XI (.tup (ns.map D.int))):=by obtain⟨a,k,f,n,l,g,h,i,j⟩:=c;exact IZ g h i j b d
end
end
section
variable [Tabs]
section
variable{K:i6}
structure FunC (K:PySem.W.Frag)(x qual:Str)(st:Stmt)(f:Addr)(fd:FuncData)(cd:Addr):Prop where
 ex:∃(oc:Value) (od:Option Addr) (kV doc pm:Value) (an:Option Addr) (ct:Value) (osl:Array (Option Value)),
  fd=PySem.W.fnOf x qual (E6 st) (t9 st) (c8 st) .none kV doc pm an (.ref cd) ct/\K.lookup f=some ⟨oc,od,.func fd,osl⟩/\PySem.W.codeIn K (.ref cd) qual=true
 kp:PySem.W.keepIn K (.ref f)=true
omit [Tabs]in
def FunC.fn {x qual:Str}{st:df}{f:bb}{fd:dn}{cd:bb}(F:FunC K x qual st f fd cd):Fun K x qual st f fd:=
 let⟨d,e,kV,a,g,h,i,b,j,k,l⟩:=F.ex
 ⟨⟨d,e,kV,a,g,h,.ref cd,i,b,j,k,l⟩,F.kp⟩
omit [Tabs]in
def TV {x qual:Str}{st:df}{f cd:bb}{h:ae}{i d:Option bb}{b:Array (Option ae)}{kV a g T ct:ae}(l:K.lookup f=some ⟨h,i,.func (PySem.W.fnOf x qual (E6 st) (t9 st) (c8 st) .none kV a g d T ct),b⟩)
  (e:T=.ref cd) (c:PySem.W.codeIn K T qual=true) (k:PySem.W.keepIn K (.ref f)=true):FunC K x qual st f (PySem.W.fnOf x qual (E6 st) (t9 st) (c8 st) .none kV a g d T ct) cd:=by
 subst e;exact⟨⟨h,i,kV,a,g,d,ct,b,rfl,l,c⟩,k⟩
def a1u {x qual:Str}{st:df}{f cd:bb}{fd:dn}{N ps:List Str}{k:Nat}{m:List D->R D}{F:Ev->R Out}(j:FunC K x qual st f fd cd)(S:FnScope N ps (c8 st))
  (l:∀(A:cf) (a:List Env) (s:a9) (H:Hp) (E:XK),Room k (A.deeper (envOfC qual (c8 st) s.heap.objs.size f (.ref cd)))->bI (UW P w K mg base N qual (c8 st) f (.ref cd) A a s H E) (t9 st) F)
  (n:∀ds d,ds.length=ps.length->m ds=.ok d->M6 (F (k5 N ds))=.ok d):FnOk P w K mg base wD (k+1) f fd ps (jz K ps.length m):=by
 obtain⟨U,Y,kV,p,pm,an,ct,t,rfl,lk,u⟩:=j.ex;refine XE lk u S (by rintro v H Q E ⟨O,ds,d,r,g,_⟩;rw[r.length];exact g) λA a s H v Q E y z=>?_;obtain⟨O,ds,d,r,g,B,C,I,e,q⟩:=z;refine⟨_,wE.nox (l A a s H E y H O),O,_,rZ r B C,I,?_⟩;have h:=n ds d g e;cases i:F (k5 N ds)with
 |ok o=>
  rw[i]at h;cases o with
  |rt J=>have b:R.ok J=R.ok d:=h;injection b with b;subst b;exact q
  |nx ρ=>have b:R.ok D.non=R.ok d:=h;injection b with b;subst b;exactλai L O' T _ _=>q .non L T.same .non
  |bk ρ=>cases h
  |ct ρ=>cases h
 |ex x=>rw[i]at h;cases h
 |bad=>rw[i]at h;cases h
def VV {x qual:Str}{st:df}{f cd:bb}{fd:dn}{N ps:List Str}{k:Nat}{m:List D->R D}{F:Ev->R Out}(e:FunC K x qual st f fd cd)(S:FnScope N ps (c8 st))(b:Binds K fd ps [])(g:mg x=some (.ref f))
  (h:∀(A:cf) (a:List Env) (s:a9) (H:Hp) (E:XK),Room k (A.deeper (envOfC qual (c8 st) s.heap.objs.size f (.ref cd)))->bI (UW P w K mg base N qual (c8 st) f (.ref cd) A a s H E) (t9 st) F)
  (i:∀ds d,ds.length=ps.length->m ds=.ok d->M6 (F (k5 N ds))=.ok d):w9 P w K mg base (k+1) x ps.length m:=
 ⟨f,fd,ps,a1u e S h i,b,e.kp,g⟩
def SE (P:be)(w:cp)(K:i6)(mg:cH)(base:cq)(k d:Nat)(x:Str)(M:D->(List D->R D)->(List D->R D)->R D):Prop:=
 ∃g b a,FnOk P w K mg base wD k g b a (spF K (KH P w K mg base d 1) M)/\Binds K b a []/\PySem.W.keepIn K (.ref g)=true/\mg x=some (.ref g)/\a.length=3
def SU {x qual:Str}{st:df}{f:bb}{fd:dn}{N ps:List Str}{k e:Nat}{M:D->(List D->R D)->(List D->R D)->R D}{F:Ev->R Out}(g:Fun K x qual st f fd)(S:FnScope N ps (c8 st))(h:ps.length=3)(b:Binds K fd ps [])(m:mg x=some (.ref f))
  (n:∀(T:ae) (A:cf) (a:List Env) (s:a9) (H:Hp) (E:XK),Room k (A.deeper (envOfC qual (c8 st) s.heap.objs.size f T))->bI (UW P w K mg base N qual (c8 st) f T A a s H E) (t9 st) F)
  (o:∀i j l d,M i j l=.ok d->M6 (F (kQ N (KH P w K mg base e 1) i j l))=.ok d):SE P w K mg base (k+1) e x M:=
 ⟨f,fd,ps,fnF g S h n o,b,g.kp,m,h⟩
end
section
def zP (i:Nat){Φ:(List D->R D)->Hp->(bb->Prop)->bb->Prop}(a:KH X.prog X.w X.K X.mg X.base k n=Φ)(d:KF X (e::es) f)(g:IQ f n)(h:Room k X.A)(j:X.N[i]?=some x:=by rfl)(l:BN X.env.scope x:=by first|exact aCV rfl|exact aCc (aCV rfl)|exact aCc (aCc rfl))(m:(x==jh)=false:=by decide)(o:(x==ji)=false:=by decide)(q:ar (e::es) X.env=(false,dm e X.env)::ar es X.env:=by rfl)(r:(cz b (ar es X.env)).any (·.1)=false:=by rfl):
  PD X (.Call (.Name x p) (e::es) [] b) (callC Φ i f):=by
 subst a;exact NQ i d g h j l m o q r
def AU (t:NstOk X k n1)(u:NstOk X k n2)(v:ClosOk X n1 clos1)(z:ClosOk X n2 clos2)(B:∀x b,(x,b)∈clos1++clos2->X.env.cells.lookup x=some b)(C:iM X.mg X.base)(E:X.env.code=.ref c)(H:PySem.W.codeHdIn X.K c I=true)(j:(I,tb)∈Tabs.tbs)(l:(n1.pos,n1.qual)∈tb)(J:(n2.pos,n2.qual)∈tb)(L:∀p∈tb,p.1.line=n1.pos.line->p.1.col=n1.pos.col->p.2=n1.qual)(m:∀p∈tb,p.1.line=n2.pos.line->p.1.col=n2.pos.col->p.2=n2.qual)(O:n1.i≠n2.i)(Q:X.N.Nodup)(T:SE X.prog X.w X.K X.mg X.base U (k+1) x M)(Y:Room U X.A)(he:PD X e f)(yn:∀y,X.fn y=true)(hg:Gl X x:=by rfl)(jc:(x==jh)=false:=by decide)(n:ar [e,.Name n1.name h,.Name n2.name a] X.env=(false,dm e X.env)::ar [.Name n1.name h,.Name n2.name a] X.env:=by rfl)(o:ar [.Name n1.name h,.Name n2.name a] X.env=(false,dm (.Name n1.name h) X.env)::ar [.Name n2.name a] X.env:=by rfl)(q:ar [.Name n2.name a] X.env=(false,dm (.Name n2.name a) X.env)::ar [] X.env:=by rfl)(bo:(cz r (ar [.Name n1.name h,.Name n2.name a] X.env)).any (·.1)=false:=by rfl):
  bI X [n1.stmt,n2.stmt,.Return (some (.Call (.Name x p) [e,.Name n1.name h,.Name n2.name a] [] r)) s] (λρ=>((f ((ρ.set n1.i .no).set n2.i .no)).bind λd1=>(dN n1.js ((ρ.set n1.i .no).set n2.i .no)).bind λw1=>(dN n2.js ((ρ.set n1.i .no).set n2.i .no)).bind λw2=>M d1 (n1.mm w1) (n2.mm w2)).bind λd=>.ok (.rt d)):=by
 obtain⟨g,gd,ps,FF,hb,hk,hm,h3⟩:=T;exact HU t u v z B C E H j l J L m O Q FF Y hm hk hb h3 he yn hg jc n o q bo
end
end
end DL
namespace DL
open PySem L2
def _root_.L2.Room.ae8 (r:Room k A):A.units+130<dg:=by have:=r.un;lia
def _root_.L2.Room.ae0 (r:Room k A)(h:7<=k):A.units+300<dg:=by have:=r.un;lia
def JE {y:Str}{d:bb}{a:List (Str×bb)}(h:a.lookup y=some d:=by rfl):∀(x:Str) (b:bb),(x,b)∈[(y,d)]++[(y,d)]->a.lookup x=some b:=λx b e=>by
 have:(x,b)=(y,d):=by simpa using e
 injection this with f g;subst f g;exact h
def GC {sc:hH}{fn:List Str}{x:Str}(h:sc.names.lookup x=some .free)(a:(sc.names.all λp=>p.2 !=.free||fn.contains p.1)=true:=by decide+kernel):x∈fn:=by have b:=aBE.mp a _ (PySem.mem_of_lookup h);simpa using b
def EH:df->Pos
 |.FunctionDef _ _ _ _ _ _ _ _ _ p=>p
 |_=>⟨0,0,0,0⟩
end DL
namespace M
open PySem L2 DL
def rA:D->Option G.V
 |.tup [.int a,.int b,.int c]=>some ⟨a,b,c⟩
 |_=>none
@[simp]def mR (v:G.V):rA (vd v)=some v:=rfl
def kP (h:rA d=some v):d=vd v:=by
 unfold rA at h;split at h
 .cases h;rfl
 .cases h
def B9:List D->Option (List G.V)
 |[]=>some []
 |d::a=>match rA d,B9 a with
  |some v,some b=>some (v::b)
  |_,_=>none
@[simp]theorem q9:∀vs:List G.V,B9 (vs.map vd)=some vs
 |[]=>rfl
 |v::vs=>by rw[aAr,B9,mR,q9 vs]
theorem m9:∀{ds:List D} {vs:List G.V},B9 ds=some vs->ds=vs.map vd
 |[],vs,h=>by cases h;rfl
 |d::ds,vs,h=>by
  unfold B9 at h;split at h
  .rename_i v e a b;cases h;rw[kP a,m9 b];rfl
  .cases h
def qP (h:vd u=vd v):u=v:=by
 have:rA (vd u)=rA (vd v):=by rw[h]
 simpa using this
def VQ {u v:List G.V}(h:u.map vd=v.map vd):u=v:=by
 have:B9 (u.map vd)=B9 (v.map vd):=by rw[h]
 simpa using this
def S5 (n:Nat)(J:List G.V):Prop:=(∀P∈J,Sz n P)/\J.length<=1000
def AV:Option G.V->D
 |some v=>vd v
 |none=>.non
def z6:List D->R D
 |[.lst Y]=>match B9 Y with
  |some a=>.ok (AV (G.A0 a))
  |none=>.bad
 |_=>.bad
open Classical in
def B8:List D->R D
 |[.lst Y]=>match B9 Y with
  |some J=>if J≠[]/\S5 1000 J then .ok (.int (G.U0 J))else .bad
  |none=>.bad
 |_=>.bad
open Classical in
def D6:List D->R D
 |[.lst Y]=>match B9 Y with
  |some J=>if S5 1000 J/\G.U0 J=3 then .ok .non else .bad
  |none=>.bad
 |_=>.bad
open Classical in
def y9:List D->R D:=v4 λa b c d=>JB λY=>mL (match B9 Y with
 |some J=>if Sz 10000 ⟨a,b,c⟩/\S5 1000 J then .ok (.lst ((G.o6 ⟨a,b,c⟩ d J).map vd))else .bad
 |none=>.bad)
open Classical in
def D5:List D->R D:=RD λg=>JB λY=>mL ((v1 λa b c=>v1 λd e f=>mL (match B9 Y with
 |some J=>if Sz 1000 ⟨a,b,c⟩/\Sz 1000 ⟨d,e,f⟩/\S5 1000 J/\G.cV (G.b7 ⟨a,b,c⟩ ⟨d,e,f⟩ J).1 then .ok (fX (G.b7 ⟨a,b,c⟩ ⟨d,e,f⟩ J).1 (G.b7 ⟨a,b,c⟩ ⟨d,e,f⟩ J).2)else .bad
 |none=>.bad)) g)
abbrev B4 (p:G.V×G.V):D:=.tup [vd p.1,vd p.2]
structure Land (J:List G.V)(m:G.V):Prop where
 good:G.Good J m
 sz:S5 900 J
 few:J.length<=63
 head:J.head?=some m
open Classical in
def G4:List D->R D
 |[.lst Y]=>match B9 Y with
  |some (m::J)=>if Land (m::J) m then .ok (B4 (G.f6 m (m::J)))else .bad
  |_=>.bad
 |_=>.bad
open Classical in
def eJ:List D->R D:=v1 λa b c=>v1 λd e f=>v1 λg h i=>v1 λj k l=>mL (
 if Sz 10000 ⟨a,b,c⟩/\Sz 1000 ⟨d,e,f⟩/\Sz 1000 ⟨g,h,i⟩/\Sz 1000 ⟨j,k,l⟩then .ok (.int (G.turn ⟨a,b,c⟩ ⟨d,e,f⟩ ⟨g,h,i⟩ ⟨j,k,l⟩))else .bad)
open Classical in
def T9:List D->R D:=v1 λa b c=>JB λY=>mL (match B9 Y with
 |some J=>if Sz 10000 ⟨a,b,c⟩/\S5 1000 J then .ok (.lst ((G.w8 ⟨a,b,c⟩ J).reverse.map vd))else .bad
 |none=>.bad)
open Classical in
def N8:List D->R D:=v1 λa b c=>JB λY=>mL (match B9 Y with
 |some J=>if Sz 10000 ⟨a,b,c⟩/\S5 1000 J then .ok (.lst ((G.j9 ⟨a,b,c⟩ J).map vd))else .bad
 |none=>.bad)
def w5:List D->R D
 |[.lst Y]=>match B9 Y with
  |some J=>if J.length<=3000 then .ok (.lst ((G.J3 J).map B4))else .bad
  |none=>.bad
 |_=>.bad
abbrev k8 (J:List G.V)(f:G.V×Int):D:=.tup [fX f.1 f.2,.lst ((G.d7 J f).map vd)]
def dP (J:List G.V)(fs:List (G.V×Int)):Prop:=(∀f,f∈fs↔G.IsFace J f.1 f.2)/\pI R1 (fs.map<|k8 J)
open Classical in
def i9 (J:List G.V):List (G.V×Int):=if h:∃fs,dP J fs then h.choose else[]
def J4:List D->List D->R D
 |[w],[_]=>.ok w
 |_,_=>.bad
def C6:List D->List D->R D
 |[w],[p]=>y9 [p,w]
 |_,_=>.bad
open Classical in
def I9 (d:D) (a b:List D->R D):R D:=match a [.non]with
 |.ok (.lst Y)=>match B9 Y with
  |some (m::J)=>if Land (m::J) m/\(m::J).length<=23/\d=B4 (G.f6 m (m::J))/\a=J4 [.lst Y]/\b=C6 [.lst Y]then .ok (.lst ((i9 (m::J)).map (k8 (m::J))))else .bad
  |_=>.bad
 |_=>.bad
def c7 (J:List G.V):List G.V:=(bV<|J.map vd).filterMap rA
open Classical in
def D2:List D->R D
 |[.lst Y]=>match B9 Y with
  |some J=>if S5 900 J/\G.j2 J/\(c7 J).length<=23 then .ok (.lst ((i9 (c7 J)).map (k8 (c7 J))))else .bad
  |none=>.bad
 |_=>.bad
def YZ:D->Option (List G.V)
 |.tup [_,.lst Y]=>B9 Y
 |_=>none
def uE:List D->Option (List (List G.V))
 |[]=>some []
 |d::a=>match YZ d,uE a with
  |some v,some b=>some (v::b)
  |_,_=>none
open Classical in
def G5:List D->R D
 |[.lst Y]=>match uE Y with
  |some a=>if a.flatten.length<=3000/\(c7 a.flatten).length<=63 then .ok (.lst ((c7 a.flatten).map vd))else .bad
  |none=>.bad
 |_=>.bad
def t4 (J:List G.V):List G.V:=c7 ((i9<|c7 J).flatMap (G.d7<|c7 J))
open Classical in
def aF:List D->R D
 |[.lst Y]=>match B9 Y with
  |some J=>if S5 900 J/\G.j2 J/\(c7 J).length<=23 then .ok (.lst ((t4 J).map vd))else .bad
  |none=>.bad
 |_=>.bad
def ne0 (v:G.V):BC (vd v) (.tup [.int 0,.int 0,.int 0])=.ok (.bl (!decide (v=0))):=by rw[jR];congr 3;rw[aDA];simp only[aAJ,beq_iff_eq,decide_eq_true_eq,G.pG];exact⟨λh=>h,λh=>h⟩
def eq0 (v:G.V):XD (vd v) (.tup [.int 0,.int 0,.int 0])=.ok (.bl (decide (v=0))):=by rw[YS];congr 2;rw[aDA];simp only[aAJ,beq_iff_eq,decide_eq_true_eq,G.pG];exact⟨λh=>h,λh=>h⟩
def T6 (a:G d ρ=.ok ρ1)(b:F ρ1=.ok (.nx ρ2)):R8 G F (d::ds) ρ=R8 G F ds ρ2:=by rw[R8,a];dsimp only;rw[b]
def iH (a:G d ρ=.ok ρ1)(b:F ρ1=.ok (.rt x)):R8 G F (d::ds) ρ=.ok (.rt x):=by rw[R8,a];dsimp only;rw[b]
theorem L0 {α:Type}(rep:α->D)(p:α->Bool)(g:α->D):∀(l:List α),(∀a∈l,∃ρ1,G (rep a) ρ=.ok ρ1/\ft ρ1=.ok (p a)/\(p a=true->fe ρ1=.ok (g a)))->u9 G ft fe ρ (l.map rep)=.ok ((l.filter p).map g)
 |[],_=>rfl
 |a::l,h=>by
  obtain⟨ρ1,e,f,i⟩:=h a (.head _);have j:=L0 rep p g l λb k=>h b (.tail _ k);rw[aAr,u9,e];dsimp only;rw[f,R.aa0,j];cases d:p a with
  |false=>rw[ib (by decide),aFw (by simp[d])]
  |true=>rw[h9 rfl,i d,R.aa0,R.aa0,aFv d];rfl
def V0 {α:Type}(rep:α->D)(g:α->D)(l:List α)(h:∀a∈l,∃ρ1,G (rep a) ρ=.ok ρ1/\fe ρ1=.ok (g a)):u9 G (λ_=>.ok true) fe ρ (l.map rep)=.ok (l.map g):=by
 have:=L0 rep (G:=G) (ft:=λ_=>.ok true) (fe:=fe) (ρ:=ρ) (λ_=>true) g l λa b=>let⟨ρ1,d,e⟩:=h a b;⟨ρ1,d,rfl,λ_=>e⟩
 rw[this,List.filter_eq_self.mpr λ_ _=>rfl]
def small (h:n<=1000):n<=sizeLine:=aAs h (by decide)
def MV (h:n<=3000):n<=sizeLine:=aAs h (by decide)
def S5.sub (h:S5 n J)(b:∀P∈a,P∈J)(d:a.length<=J.length):S5 n a:=⟨λP e=>h.1 P (b P e),aAs d h.2⟩
def S5.mono (h:S5 m J)(a:m<=n:=by decide):S5 n J:=⟨λP b=>(h.1 P b).mono a,h.2⟩
def a0w (t:Int):(sgn t==0)=decide (t=0):=by
 unfold sgn;by_cases h:0<t
 .rw[h9 h];simp;lia
 .rw[ib h];by_cases a:t<0
  .rw[h9 a];simp;lia
  .rw[ib a];simp;lia
def gU (a:Sz 10000 n)(b:S5 1000 J):y9 [fX n d,.lst (J.map vd)]=.ok (.lst ((G.o6 n d J).map vd)):=by simp only[y9,v4,RD,sK,JB,mL,q9];exact h9 ⟨a,b⟩
def LX (a:J≠[])(b:S5 1000 J):B8 [.lst (J.map vd)]=.ok (.int (G.U0 J)):=by simp only[B8,q9];exact h9 ⟨a,b⟩
def AX (ws:List G.V):z6 [.lst (ws.map vd)]=.ok (AV (G.A0 ws)):=by simp only[z6,q9]
def AH (bs:List Bool):cI (bs.map D.bl)=some bs:=by
 induction bs with
 |nil=>rfl
 |cons b bs a=>rw[aAr,cI,a];rfl
def cx (bs:List Bool):anyR [.lst (bs.map D.bl)]=.ok (.bl (bs.any id)):=by simp only[anyR,AH]
def TX (Y:List D):MN (.lst Y) none (some (-1))=.ok (.lst Y.dropLast):=by
 show R.ok (D.lst<|cutD Y none<|some (-1))=_;unfold cutD HT.sIx;rw[aEp];simp;congr 1
 lia
def WF (Y:List D):MN (.lst Y) (some 1) none=.ok (.lst Y.tail):=by
 show R.ok (D.lst<|cutD Y (some 1) none)=_;unfold cutD HT.sIx;cases Y with
 |nil=>rfl
 |cons a l=>simp
def ZL (Y:List D):MN (.lst Y) none (some 1)=.ok (.lst (Y.take 1)):=by
 show R.ok (D.lst<|cutD Y none<|some 1)=_;unfold cutD HT.sIx;cases Y with
 |nil=>rfl
 |cons a l=>simp
def XF (Y:List D)(a b:D):qQ (Y++[a,b]) (-1)=some b:=by
 have d:(Y++[a,b]).length=Y.length+2:=by simp
 unfold qQ JG;rw[d,ib (by decide),h9 (by lia)];show(Y++[a,b])[((-1:Int)+((Y.length+2:Nat):Int)).toNat]?=_;have:((-1:Int)+((Y.length+2:Nat):Int)).toNat=Y.length+1:=by lia
 rw[this,aAA (by lia),show Y.length+1-Y.length=1 by lia];rfl
def WX (Y:List D)(a b:D):qQ (Y++[a,b]) (-2)=some a:=by
 have d:(Y++[a,b]).length=Y.length+2:=by simp
 unfold qQ JG;rw[d,ib (by decide),h9 (by lia)];show(Y++[a,b])[((-2:Int)+((Y.length+2:Nat):Int)).toNat]?=_;have:((-2:Int)+((Y.length+2:Nat):Int)).toNat=Y.length:=by lia
 rw[this,aAA (by lia),Nat.sub_self];rfl
def oj (a:D)(Y:List D):qQ (a::Y) 0=some a:=by rw[V2 (by decide)];rfl
def mj (a b:D)(Y:List D):qQ (a::b::Y) 1=some b:=by rw[V2 (by decide)];rfl
def SY {P Q R:G.V}(h:G.cV (G.j6 P Q R).1):G.cr (Q-P) (R-P)≠0:=λe=>by
 have:(G.j6 P Q R).1=0:=by show G.jB (G.cr (Q-P)<|R-P) _=0;rw[e];rfl
 rw[this]at h;unfold G.cV at h;exact absurd h (by decide)
theorem zU:∀{c:List G.V},(G.X1 n P c).length<=c.length
 |[]=>aAh _
 |[a]=>aAh _
 |b::a::r=>by
  unfold G.X1;split
  .exact aAs (zU (c:=a::r)) (by simp)
  .exact aAh _
theorem qF:∀(a c:List G.V),(a.foldl (λc P=>P::G.X1 n P c) c).length<=a.length+c.length
 |[],c=>by simp
 |P::a,c=>by refine aAs (qF a _) ?_;have:=zU (n:=n) (P:=P) (c:=c);simp;lia
def rP (n:G.V)(ps:List G.V):(G.w8 n ps).length<=ps.length:=by simpa[G.w8]using qF (n:=n) ps []
theorem tK {α β:Type}(f:α->D):∀(Y a:List α),jO (Y.map f) (a.map f)=(Y.zip a).map λp=>D.tup [f p.1,f p.2]
 |[],_=>by simp[jO]
 |_::_,[]=>by simp[jO]
 |x::Y,y::a=>by have:=tK (β:=β) f Y a;simp only[jO]at this⊢;simp[this]
def WM (a:Sz 10000 n)(b:S5 1000 J):T9 [vd n,.lst (J.map vd)]=.ok (.lst ((G.w8 n J).reverse.map vd)):=by simp only[T9,v1,RD,sK,JB,mL,q9];exact h9 ⟨a,b⟩
def EA {n P Q R:G.V}(h:Sz 10000 n)(a:Sz 1000 P)(b:Sz 1000 Q)(d:Sz 1000 R):eJ [vd n,vd P,vd Q,vd R]=.ok (.int (G.turn n P Q R)):=h9 ⟨h,a,b,d⟩
def X0 (a:Sz 1000 A)(b:Sz 1000 B)(d:S5 1000 J)(e:G.cV (G.b7 A B J).1):D5 [.tup [vd A,vd B],.lst (J.map vd)]=.ok (fX (G.b7 A B J).1 (G.b7 A B J).2):=by simp only[D5,v1,RD,sK,JB,mL,q9];exact h9 ⟨a,b,d,e⟩
def SV (a:Sz 10000 n)(b:S5 1000 J):N8 [vd n,.lst (J.map vd)]=.ok (.lst ((G.j9 n J).map vd)):=by simp only[N8,v1,RD,sK,JB,mL,q9];exact h9 ⟨a,b⟩
def xZ (h:J.length<=3000):w5 [.lst (J.map vd)]=.ok (.lst ((G.J3 J).map B4)):=by simp only[w5,q9];exact h9 h
def FJ (h:a.length+b.length<=sizeLine):pF (.lst a) (.lst b)=.ok (.lst (a++b)):=h9 h
def OD (a b:G.V):HT.lexLt (flat (vd a)) (flat (vd b))=true↔G.d8 (b-a):=by
 show HT.lexLt [a.x,a.y,a.z] [b.x,b.y,b.z]=true↔_;unfold G.d8;simp only[HT.lexLt,G.FW,G.EZ,G.EF];by_cases d:a.x=b.x
 .by_cases e:a.y=b.y
  .by_cases f:a.z=b.z
   .simp[d,e,f]
   .simp[d,e,f];try lia
  .simp[d,e];try lia
 .simp[d];try lia
def CB {J:List G.V}(h:J.Pairwise λa b=>G.d8 (b-a)):RA (J.map vd):=aBN.mpr (h.imp λ{a b} q=>(OD a b).mpr q)
def YO {J:List G.V}(h:RA (J.map vd)):J.Pairwise λa b=>G.d8 (b-a):=(aBN.mp h).imp λ{a b} q=>(OD a b).mp q
def LO (J:List G.V):(J.map vd).all S7=true:=aBE.mpr λd a=>by obtain⟨v,_,rfl⟩:=aAi.mp a;rfl
def jj [Tabs]{m:G.V}{J:List G.V}(h:(m::J).Pairwise λa b=>G.d8 (b-a)):ND [.lst ((m::J).map vd)]=.ok (vd m):=by show(if(m::J).map vd≠[]/\((m::J).map vd).all S7=true then _ else _)=_;rw[h9 ⟨by simp,LO _⟩,TF (CB h) _ (by simp)];rfl
def sE {k:Nat}{P Q R:G.V}(p:Sz k P)(q:Sz k Q)(r:Sz k R):Sz (k+1+(k+1)+1) (G.j6 P Q R).1:=by
 have a:=(q.sub p).cr (r.sub p);by_cases d:G.cr (Q-P) (R-P)=0
 .have:(G.j6 P Q R).1=0:=by show G.jB (G.cr (Q-P)<|R-P) _=0;rw[d];rfl
  rw[this];exact⟨aAX _,aAX _,aAX _⟩
 .obtain⟨h,i,j⟩:=G.iZ d;have e:=bits_fdiv (b:=(G.x8 (G.cr (Q-P)<|R-P):Int)) a.1;have f:=bits_fdiv (b:=(G.x8 (G.cr (Q-P)<|R-P):Int)) a.2.1;have g:=bits_fdiv (b:=(G.x8 (G.cr (Q-P)<|R-P):Int)) a.2.2;rw[nU h]at e f g;exact⟨e,f,g⟩
def nM {P Q R:G.V}(p:Sz 1000 P)(q:Sz 1000 Q)(r:Sz 1000 R):Sz 2003 (G.j6 P Q R).1:=sE p q r
def yL {A B:G.V}{J:List G.V}(p:Sz 1000 A)(q:Sz 1000 B)(r:S5 1000 J):Sz 2003 (G.b7 A B J).1:=by
 unfold G.b7;rcases G.kU (a:=B-A) (A:=A) J 0 A with h|h
 .exact nM p q (r.1 _ h)
 .rw[h];exact nM p q p
def vk (m:G.V):vd (m+G.kk)=.tup [.int m.x,.int m.y,.int (m.z+1)]:=by simp[G.kk]
def PU (h:Sz 900 m):Sz 1000 (m+G.kk):=(h.add (v:=G.kk) ⟨by decide,by decide,by decide⟩).mono
def MR (h:S5 k J):S5 k (G.o6 n d J):=h.sub (λP a=>(G.c5.mp a).1) (aEj _ _)
def QD {α:Type}{l:List α}{a b:α}(d:a∈l)(e:b∈l)(h:a≠b):∃x y r,l=x::y::r:=by
 match l,d,e with
 |[x],d,e=>exact absurd ((aAV.mp d).trans (aAV.mp e).symm) h
 |x::y::r,_,_=>exact⟨x,y,r,rfl⟩
open Classical in
def QM {N:List (D×D)}{k v a:D}:a∈(fB N k v).map (·.1)↔a∈N.map (·.1)\/a=k:=by
 unfold fB;split
 .rename_i h;rw[aBL];have:((λx=>x.1)∘λp:D×D=>if p.1=k then(p.1,v)else p)=λp=>p.1:=by funext p;simp only[aGw];split<;>rfl
  rw[this];exact⟨.inl,λq=>q.elim id λe=>by rw[e];exact h⟩
 .rw[aCr,aAU];simp
def QE {N:List (D×D)}{k v:D}:(fB N k v).length<=N.length+1:=by
 unfold fB;split
 .simp
 .simp
def FB {p q:G.V×G.V}(h:B4 p=B4 q):p=q:=by injection h with h;injection h with b a;injection a with a _;exact aFX (qP b) (qP a)
def CI (p:G.V×G.V):R9 7 (B4 p)=true/\IS (B4 p)=true:=⟨rfl,rfl⟩
def ffC:Ev->R Bool:=λρ=>((((uV 5 ρ).bind λd=>R.ok [d]).bind oN).bind λx=>kq x (D.int 0)).bind xP
def ffS:Ev->R Out:=λρ=>
 C4 ((Z8 9 ρ).bind λa=>yH 4 ρ a (D.bl true)) λρ=>((((uV 9 ρ).bind λx=>J1 x (D.int 1)).bind λd=>(((uV 9 ρ).bind λx=>J1 x (D.int 0)).bind λd=>R.ok [d]).bind λb=>R.ok (d::b)).bind fA).bind (BR 5 ρ)
theorem GS {a0 a1 a2 a3 a6 a7 a8:Sl}:∀(a:List (G.V×G.V)) (N:List (D×D)) (W:List (G.V×G.V)) (g:Sl),N.length+a.length<=10000->W.length+a.length<=10000->
  ∃f b,R8 (λd ρ=>R.ok (aDh ρ 9 (Sl.v d))) ffS (a.map B4) [a0,a1,a2,a3,.d N,.o (W.map B4),a6,a7,a8,g]=.ok (.nx [a0,a1,a2,a3,.d f,.o ((W++a.map λq=>(q.2,q.1)).map B4),a6,a7,a8,b])/\
   (∀e:G.V×G.V,B4 e∈f.map (·.1)↔B4 e∈N.map (·.1)\/e∈a)/\f.length<=N.length+a.length
 |[],N,W,g,_,_=>⟨N,g,by simp,λe=>by simp,by simp⟩
 |q::a,N,W,g,i,j=>by
  simp only[aAt]at i j;have u:=QE (N:=N) (k:=B4 q) (v:=.bl true);obtain⟨f,b,e,m,l⟩:=GS a (fB N (B4 q)<|.bl true) (W++[(q.2,q.1)]) (.v (B4 q)) (by lia) (by simp;lia);refine⟨f,b,?_,λx=>?_,by simp;lia⟩
  .rw[aAr];refine(T6 (ρ2:=[a0,a1,a2,a3,.d (fB N (B4 q)<|.bl true),.o ((W++[(q.2,q.1)]).map B4),a6,a7,a8,.v (B4 q)]) rfl ?_).trans ?_
   .have n:N.length<=sizeLine:=aAs (show N.length<=10000 by lia) (by decide);have p:(W.map B4).length<sizeLine:=by rw[aAj];exact aDs (show W.length<=10000 by lia) (by decide)
    have r:yH 4 [a0,a1,a2,a3,.d N,.o (W.map B4),a6,a7,a8,.v (B4 q)] (B4 q) (.bl true)=.ok (.nx [a0,a1,a2,a3,.d (fB N (B4 q)<|.bl true),.o (W.map B4),a6,a7,a8,.v (B4 q)]):=by show(if _ then _ else _)=_;rw[h9 ⟨(CI q).1,(CI q).2,n⟩];rfl
    have s:BR 5 [a0,a1,a2,a3,.d (fB N (B4 q)<|.bl true),.o (W.map B4),a6,a7,a8,.v (B4 q)] (B4 (q.2,q.1))=.ok (.nx [a0,a1,a2,a3,.d (fB N (B4 q)<|.bl true),.o ((W++[(q.2,q.1)]).map B4),a6,a7,a8,.v (B4 q)]):=by show(if _ then _ else _)=_;rw[h9 p,aCr];rfl
    show C4 ((R.ok<|B4 q).bind λt=>yH 4 [a0,a1,a2,a3,.d N,.o (W.map B4),a6,a7,a8,.v (B4 q)] t (D.bl true)) _=_;rw[R.aa0,r];exact s
   .rw[e];simp
  .rw[m x,QM,aAd];constructor
   .rintro((h|h)|h)
    .exact .inl h
    .exact .inr (.inl (FB h))
    .exact .inr (.inr h)
   .rintro(h|h|h)
    .exact .inl (.inl h)
    .exact .inl (.inr (by rw[h]))
    .exact .inr h
section
variable(Φ:(List D->R D)->Hp->(bb->Prop)->bb->Prop)
def ffB:Ev->R Out:=λρ=>
 C4 ((AR 5 ρ).bind λz=>R.ok (Out.nx<|aDh z.snd 6<|Sl.v z.fst)) λρ=>
  ((Z8 6 ρ).bind (pC 4 ρ)).bind λt=>
   if t=true then
    C4
     ((((Z8 6 ρ).bind λd=>((callC Φ 1 (p6 (λρ=>(uV 6 ρ).bind λx=>J1 x (D.int 0)) P9) ρ).bind λd=>R.ok [d]).bind λa=>R.ok (d::a)).bind D5).bind λd=>R.ok (Out.nx<|aDh ρ 7<|Sl.v d))
     λρ=>
     C4
      (((((uV 7 ρ).bind λx=>MN x none (some 3)).bind λd=>((callC Φ 2 (p6 (Z8 7) P9) ρ).bind λd=>R.ok [d]).bind λa=>R.ok (d::a)).bind N8).bind λd=>R.ok (Out.nx<|aDh ρ 8<|Sl.v d))
      λρ=>
      C4 ((((Z8 7 ρ).bind λd=>((Z8 8 ρ).bind λd=>R.ok [d]).bind λa=>R.ok (d::a)).bind fA).bind (BR 3 ρ))
       λρ=>((((Z8 8 ρ).bind λd=>R.ok [d]).bind w5).bind X9).bind λa=>R8 (λd ρ=>R.ok (aDh ρ 9<|Sl.v d)) ffS a ρ
   else R.ok (Out.nx ρ)
def xD (L:D) (e:G.V×G.V) (fs:List D) (N:List (D×D)) (W:List (G.V×G.V)) (a b c d:Sl):Ev:=
 [Sl.v (B4 e),Sl.c (J4 [L]) (Φ<|J4 [L]),Sl.c (C6 [L]) (Φ<|C6 [L]),.o fs,.d N,.o (W.map B4),a,b,c,d]
end
def yG {Φ:(List D->R D)->Hp->(bb->Prop)->bb->Prop}{i:Nat}{f:Ev->R (List D)}{ρ:Ev}{m:List D->R D}{ds:List D}(h:ρ[i]?=some (.c m (Φ m)))(a:f ρ=.ok ds):callC Φ i f ρ=m ds:=by unfold callC;rw[h];dsimp only;rw[h9 rfl,a];rfl
def gM (J:List G.V)(fs:List (G.V×Int)):Nat:=(fs.map λf=>(G.d7 J f).length).sum
def dW (J:List G.V)(fs:List (G.V×Int))(f:G.V×Int):gM J (fs++[f])=gM J fs+(G.d7 J f).length:=by simp[gM]
def PX {J:List G.V}{m:G.V}(h:Land J m):Sz 1000 (G.f6 m J).1/\Sz 1000 (G.f6 m J).2:=by
 have a:Sz 900 m:=h.sz.1 m h.good.mem;obtain⟨j,e,f,g,i⟩:=G.yE h.good.solid h.good.mem h.good.least;unfold G.f6;dsimp only;split
 .exact⟨a.mono,PU a⟩
 .obtain⟨x,y,r,b⟩:=QD e g i;rw[b];have q:∀z∈x::y::r,Sz 1000 z:=λz d=>by rw[<-b]at d;exact(h.sz.1 z (G.c5.mp d).1).mono
  exact⟨q x (.head _),q y (.tail _ (.head _))⟩
def UI {J:List G.V}{m:G.V}(h:Land J m){fs:List (G.V×Int)}{b:G.V×G.V->Prop}{W:List (G.V×G.V)}(L:G.LInv J (G.f6 m J) fs b W){p:G.V×G.V}(d:p∈W):Sz 1000 p.1/\Sz 1000 p.2:=by
 rcases L.wt p d with⟨f,g,i⟩|⟨_,e⟩
 .have S:=(L.face f g).aa2 h.good.ord;have a:=S.aa1.mp i;exact⟨(h.sz.1 _ (G.c5.mp a.q).1).mono,(h.sz.1 _ (G.c5.mp a.p).1).mono⟩
 .rw[e];exact PX h
def MX {J:List G.V}{m:G.V}(h:Land J m){f:G.V×Int}(a:G.IsFace J f.1 f.2):(G.d7 J f).length<=J.length:=by have S:=a.aa2 h.good.ord;exact G.q8 S.aa4 λx b=>(G.c5.mp<|S.aa3 b).1
def xM {J:List G.V}{f g:G.V×Int}(h:R1 (k8 J f)=R1 (k8 J g)):f=g:=by have h:[f.1.x,f.1.y,f.1.z,f.2]=[g.1.x,g.1.y,g.1.z,g.2]:=h;simp only[aEM,and_true]at h;exact aFX (G.ext h.1 h.2.1 h.2.2.1) h.2.2.2
def rJ {α β:Type}{f:α->β}(d:∀a b,f a=f b->a=b){l:List α}(h:l.Nodup):(l.map f).Nodup:=aBN.mpr (h.imp λ{a b} n e=>n (d a b e))
def SS {Φ:(List D->R D)->Hp->(bb->Prop)->bb->Prop}{J:List G.V}{m:G.V}(hz:Land J m){fs:List (G.V×Int)}{N:List (D×D)}{W:List (G.V×G.V)}{a b c d:Sl}(L:G.LInv J (G.f6 m J) fs (λe=>B4 e∈N.map (·.1)) W)
  (hk:N.length<=gM J fs) (hW:W.length<=1+gM J fs) {n:Nat} (hn:W.length+(J.length*J.length-gM J fs)<n+1) (af:W≠[]):
  ∃k l W' a' b' c' d',ffB Φ (xD Φ (.lst (J.map vd)) (G.f6 m J) (fs.map (k8 J)) N W a b c d)=.ok (.nx (xD Φ (.lst (J.map vd)) (G.f6 m J) (k.map (k8 J)) l W' a' b' c' d'))/\
   G.LInv J (G.f6 m J) k (λe=>B4 e∈l.map (·.1)) W'/\l.length<=gM J k/\W'.length<=1+gM J k/\W'.length+(J.length*J.length-gM J k)<n:=by
 obtain⟨rest,p,rfl⟩:∃rest p,W=rest++[p]:=⟨W.dropLast,W.getLast af,(aEB af).symm⟩;have r:=G.tT hz.good.solid hz.good.ord L.nd L.face;have s:=hz.few;have nn:J.length*J.length<=63*63:=aFi s s;have hsum:gM J fs+J.length<=J.length*J.length:=r;have E:(rest++[p]).length=rest.length+1:=by simp
 rw[E]at hW hn;have H:AR 5 (xD Φ (.lst (J.map vd)) (G.f6 m J) (fs.map<|k8 J) N (rest++[p]) a b c d)=.ok (B4 p,xD Φ (.lst (J.map vd)) (G.f6 m J) (fs.map<|k8 J) N rest a b c d):=by show(match((rest++[p]).map B4)[((rest++[p]).map B4).length-1]? with|some d=>_|none=>_:R (D×Ev))=_;rw[aCr];simp;rfl
 have I:pC 4 (xD Φ (.lst (J.map vd)) (G.f6 m J) (fs.map<|k8 J) N rest (.v (B4 p)) b c d) (B4 p)=.ok (!(open Classical in decide (B4 p∈N.map (·.1)))):=by unfold pC;rw[show(xD Φ (.lst (J.map vd)) (G.f6 m J) (fs.map<|k8 J) N rest (.v (B4 p)) b c d)[4]?=some (.d N)from rfl];dsimp only;rw[h9 (CI p)]
 have B:S5 1000 J:=hz.sz.mono;unfold ffB;rw[H];show∃k l W' a' b' c' d',C4 (R.ok<|Out.nx<|xD Φ (.lst (J.map vd)) (G.f6 m J) (fs.map<|k8 J) N rest (.v (B4 p)) b c d) _=_/\_;rw[B7];rw[show Z8 6 (xD Φ (.lst (J.map vd)) (G.f6 m J) (fs.map<|k8 J) N rest (.v (B4 p)) b c d)=.ok (B4 p)from rfl,R.aa0,I,R.aa0];by_cases t:B4 p∈N.map (·.1)
 .refine⟨fs,N,rest,.v (B4 p),b,c,d,?_,G.MZ hz.good L rfl t,hk,by lia,by lia⟩;rw[decide_eq_true t];rfl
 .have u:p∈rest++[p]:=by simp
  obtain⟨C,n2,n3⟩:=G.yS hz.good L u t;obtain⟨w,y⟩:=UI hz L u;have ab:=X0 w y B C.prim;have i:=yL w y B;obtain⟨f,ef⟩:∃f,G.b7 p.1 p.2 J=f:=⟨_,rfl⟩;rw[ef]at C n2 n3 ab i;have po:=gU (d:=f.2) i.mono B;have O:=SV (n:=f.1) (J:=G.o6 f.1 f.2 J) i.mono (MR B);have rl:=MX hz C;have O:N8 [vd f.1,.lst ((G.o6 f.1 f.2 J).map vd)]=.ok (.lst ((G.d7 J f).map vd)):=O;have pr:=xZ (J:=G.d7 J f) (by lia);have Q:=λ{wk'} {W'} h1 h2=>G.KW hz.good L (rest:=rest) (p:=p) rfl t (walked':=wk') (waiting':=W') h1 h2;rw[ef]at Q;have T:(fs++[f]).Nodup:=by
   have:=(Q (wk':=λe=>B4 e∈N.map (·.1)\/e∈G.J3 (G.d7 J f)) (W':=rest++(G.J3<|G.d7 J f).map λq=>(q.2,q.1)) (λe=>Iff.rfl) (λq=>by
    rw[aAU,aAi];constructor
    .rintro(h|⟨x,U,rfl⟩)
     .exact .inl h
     .exact .inr U
    .rintro(h|h)
     .exact .inl h
     .exact .inr ⟨_,h,rfl⟩))
   exact this.nd
  have j:gM J (fs++[f])+J.length<=J.length*J.length:=G.tT hz.good.solid hz.good.ord T λg hg=>by
   rcases aAU.mp hg with z|z
   .exact L.face g z
   .rw[aAV.mp z];exact C
  rw[dW]at j;have clen:(G.J3<|G.d7 J f).length=(G.d7 J f).length:=by unfold G.J3;simp;lia
  obtain⟨l,Y,run,A,len'⟩:=GS (a0:=Sl.v (B4<|G.f6 m J)) (a1:=Sl.c (J4 [.lst (J.map vd)]) (Φ<|J4 [.lst (J.map vd)])) (a2:=Sl.c (C6 [.lst (J.map vd)]) (Φ<|C6 [.lst (J.map vd)])) (a3:=.o ((fs++[f]).map (k8 J))) (a6:=.v (B4 p)) (a7:=.v (fX f.1 f.2)) (a8:=.v (.lst ((G.d7 J f).map vd))) (G.J3<|G.d7 J f) N rest d (by lia) (by lia);refine⟨fs++[f],l,rest++(G.J3<|G.d7 J f).map (λq=>(q.2,q.1)),.v (B4 p),.v (fX f.1 f.2),.v (.lst ((G.d7 J f).map vd)),Y,?_,Q A (λq=>?_),?_,?_,?_⟩
  .have ap:BR 3 (xD Φ (.lst (J.map vd)) (G.f6 m J) (fs.map<|k8 J) N rest (.v (B4 p)) (.v (fX f.1 f.2)) (.v (.lst ((G.d7 J f).map vd))) d) (k8 J f)=.ok (.nx (xD Φ (.lst (J.map vd)) (G.f6 m J) ((fs++[f]).map (k8 J)) N rest (.v (B4 p)) (.v (fX f.1 f.2)) (.v (.lst ((G.d7 J f).map vd))) d)):=by show(if(fs.map<|k8 J).length<sizeLine then _ else _)=_;have h3:=G.lH hz.good.solid hz.good.ord L.face;have h3:3*fs.length<=gM J fs:=h3;rw[h9 (by rw[aAj];exact aDs (show fs.length<=4000 by lia) (by decide)),aCr];rfl
   have ca:callC Φ 1 (p6 (λρ=>(uV 6 ρ).bind λx=>J1 x (D.int 0)) P9) (xD Φ (.lst (J.map vd)) (G.f6 m J) (fs.map<|k8 J) N rest (.v (B4 p)) b c d)=.ok (.lst (J.map vd)):=by exact(yG (m:=J4 [.lst (J.map vd)]) (ds:=[vd p.1]) rfl rfl).trans rfl
   have ct:callC Φ 2 (p6 (Z8 7) P9) (xD Φ (.lst (J.map vd)) (G.f6 m J) (fs.map<|k8 J) N rest (.v (B4 p)) (.v (fX f.1 f.2)) c d)=.ok (.lst ((G.o6 f.1 f.2 J).map vd)):=by exact(yG (m:=C6 [.lst (J.map vd)]) (ds:=[fX f.1 f.2]) rfl rfl).trans po
   have sl:MN (fX f.1 f.2) none (some 3)=.ok (vd f.1):=rfl;rw[decide_eq_false t];simp only[Bool.not_false,if_true];rw[ca,R.aa0,R.aa0,R.aa0,R.aa0,ab,R.aa0];show C4 (R.ok<|Out.nx<|xD Φ (.lst (J.map vd)) (G.f6 m J) (fs.map<|k8 J) N rest (.v (B4 p)) (.v (fX f.1 f.2)) c d) _=_;rw[B7];rw[ct];show C4 ((((R.ok<|fX f.1 f.2).bind λx=>MN x none (some 3)).bind λd=>(R.ok [D.lst ((G.o6 f.1 f.2 J).map vd)]).bind λds=>R.ok (d::ds)).bind N8|>.bind λd=>R.ok (Out.nx<|aDh _ 8<|Sl.v d)) _=_;rw[R.aa0,sl,R.aa0,R.aa0,R.aa0,O,R.aa0];show C4 (R.ok<|Out.nx<|xD Φ (.lst (J.map vd)) (G.f6 m J) (fs.map<|k8 J) N rest (.v (B4 p)) (.v (fX f.1 f.2)) (.v (.lst ((G.d7 J f).map vd))) d) _=_;rw[B7];show C4 (BR 3 (xD Φ (.lst (J.map vd)) (G.f6 m J) (fs.map<|k8 J) N rest (.v (B4 p)) (.v (fX f.1 f.2)) (.v (.lst ((G.d7 J f).map vd))) d)<|k8 J f) _=_;rw[ap,B7];show((w5 [.lst ((G.d7 J f).map vd)]).bind X9).bind _=_;rw[pr,R.aa0];exact run
  .rw[aAU,aAi];constructor
   .rintro(h|⟨x,U,rfl⟩)
    .exact .inl h
    .exact .inr U
   .rintro(h|h)
    .exact .inl h
    .exact .inr ⟨_,h,rfl⟩
  .rw[dW];lia
  .rw[dW,aAB,aAj];lia
  .rw[dW,aAB,aAj];lia
def UM (J:List G.V)(f:G.V×Int):List (G.V×Int)->List (G.V×Int)
 |[]=>[f]
 |x::Y=>if HT.lexLt (R1 (k8 J f)) (R1 (k8 J x))=true then f::x::Y else x::UM J f Y
def FH (J:List G.V)(fs:List (G.V×Int)):List (G.V×Int):=fs.foldr (UM J) []
theorem xC (J:List G.V)(f:G.V×Int):∀Y:List (G.V×Int),uX R1 (k8 J f) (Y.map (k8 J))=(UM J f Y).map (k8 J)
 |[]=>rfl
 |x::Y=>by
  unfold UM;rw[aAr,uX];split
  .rfl
  .rw[aAr,xC J f Y]
theorem eV (J:List G.V):∀fs:List (G.V×Int),bY R1 (fs.map (k8 J))=(FH J fs).map (k8 J)
 |[]=>rfl
 |f::fs=>by show uX R1 (k8 J f) (bY R1 (fs.map (k8 J)))=_;rw[eV J fs,xC];rfl
def jW (h:k8 J f=k8 J g):f=g:=xM (by rw[h])
theorem fN:∀{a b:List (G.V×Int)},a.map (k8 J)=b.map (k8 J)->a=b
 |[],[],_=>rfl
 |[],_::_,h=>by cases h
 |_::_,[],h=>by cases h
 |x::a,y::b,h=>by rw[aAr,aAr]at h;injection h with d e;rw[jW d,fN e]
def HQ:f∈FH J fs↔f∈fs:=by
 have h:=(G0 R1<|fs.map<|k8 J).mem_iff (a:=k8 J f);rw[eV]at h;constructor
 .intro q;obtain⟨g,b,e⟩:=aAi.mp (h.mp<|aBq q);rw[<-jW e];exact b
 .intro q;obtain⟨g,b,e⟩:=aAi.mp (h.mpr<|aBq q);rw[<-jW e];exact b
def rW [Tabs]{J:List G.V}{fs:List (G.V×Int)}(h:fs.Nodup):((fs.map (k8 J)).map R1).Nodup:=by rw[aBL];exact rJ (λa b e=>xM (J:=J) e) h
def K6 (h:pI k l):l.Nodup:=h.imp λ{a b} q e=>by subst e;rw[TS.lex_irrefl]at q;cases q
def G9 {J:List G.V}{fs:List (G.V×Int)}(h:(fs.map (k8 J)).Nodup):fs.Nodup:=(aBN.mp h).imp λ{a b} n e=>n (by rw[e])
def zM {J:List G.V}{fs gs:List (G.V×Int)}(a:dP J fs)(b:dP J gs):fs=gs:=by
 have d:=G9 (K6 a.2);have e:=G9 (K6 b.2);have p:fs.Perm gs:=(aCM d e).mpr λf=>by rw[a.1,b.1]
 exact fN (dS a.2 b.2 (p.map _))
def qA (h:dP J fs):i9 J=fs:=by unfold i9;have q:∃fs,dP J fs:=⟨fs,h⟩;rw[dif_pos q];exact zM q.choose_spec h
def rQ [Tabs]{J:List G.V}{fs:List (G.V×Int)}(a:fs.Nodup)(h:∀n d,(n,d)∈fs↔G.IsFace J n d):dP J (FH J fs):=by refine⟨λf=>by rw[HQ];exact h f.1 f.2,?_⟩;rw[<-eV];exact aO (rW a)
def lq [Tabs]{Φ:(List D->R D)->Hp->(bb->Prop)->bb->Prop}{J:List G.V}{m:G.V}(hz:Land J m)(r:J.length<=23):
  M6 (C4 (R3 ffC (ffB Φ) 5000 (xD Φ (.lst (J.map vd)) (G.f6 m J) [] [] [G.f6 m J] .no .no .no .no)) λρ=>(((uV 3 ρ).bind sfR).bind λds=>R.ok (D.lst ds)).bind λd=>R.ok (Out.rt d))=.ok (.lst ((i9 J).map (k8 J))):=by
 refine HF (Iv:=λn ρ=>∃fs N W a b c d,ρ=xD Φ (.lst (J.map vd)) (G.f6 m J) (fs.map<|k8 J) N W a b c d/\G.LInv J (G.f6 m J) fs (λe=>B4 e∈N.map (·.1)) W/\N.length<=gM J fs/\W.length<=1+gM J fs/\W.length+(J.length*J.length-gM J fs)<n) ?_ ?_ ?_ (by rintro ρ ⟨_,_,_,_,_,_,_,_,_,_,_,h⟩;lia)
 .rintro n ρ ⟨fs,N,W,a,b,c,d,rfl,L,s,t,u⟩;by_cases i:W=[]
  .subst i;exact .inl rfl
  .refine .inr ⟨?_,?_⟩
   .have v:(0:Int)<((W.map B4).length:Int):=by have:=aDR.mpr i;rw[aAj];lia
    show(R.ok<|D.bl<|decide ((0:Int)<((W.map B4).length:Int))).bind xP=_;rw[decide_eq_true v];rfl
   .obtain⟨w,x,y,A,B,C,E,e,H,I,k,l⟩:=SS (Φ:=Φ) (a:=a) (b:=b) (c:=c) (d:=d) hz L s t u i;exact⟨_,e,w,x,y,A,B,C,E,rfl,H,I,k,l⟩
 .refine⟨[],[],[G.f6 m J],.no,.no,.no,.no,rfl,?_,aAh _,aAh _,?_⟩
  .have:=G.CT hz.good;refine⟨this.face,this.nd,λe=>?_,this.cl,this.wt,this.ne⟩;rw[<-this.wk e];simp
  .have nn:J.length*J.length<=23*23:=aFi r r;show 1+(J.length*J.length-0)<5000
   lia
 .rintro n ρ ⟨fs,N,W,a,b,c,d,rfl,L,s,t,u⟩ j;have o:W=[]:=by
   cases W with
   |nil=>rfl
   |cons p W=>have j:(R.ok<|D.bl<|decide ((0:Int)<(((p::W).map B4).length:Int))).bind xP=.ok false:=j;rw[decide_eq_true (by simp;try lia)]at j;cases j
  subst o;obtain⟨i,q⟩:=G.QI hz.good L;have O:=rQ L.nd q;rw[qA O];have g:fs≠[]:=λz=>by have Q:=G.W6 hz.good.solid hz.good.ord hz.good.mem hz.good.least;have:=(q _ _).mpr Q;rw[z]at this;cases this
  have T:=(G.nH hz.good.solid hz.good.ord (λf=>q f.1 f.2) L.nd g).1;have U:(fs.map<|k8 J).length<=63:=by rw[aAj];lia
  have Y:sfR (.lst (fs.map<|k8 J))=.ok ((FH J fs).map (k8 J)):=by show(if _ then _ else _)=_;rw[h9 ⟨aBE.mpr λd hd=>by obtain⟨f,_,rfl⟩:=aAi.mp hd;rfl,rW L.nd,U⟩,eV]
  show M6 ((((R.ok<|D.lst<|fs.map<|k8 J).bind sfR).bind λds=>R.ok (D.lst ds)).bind λd=>R.ok (Out.rt d))=_;rw[R.aa0,Y];rfl
theorem GF:∀{ds:List D},(∀d∈ds,∃v,d=vd v)->(ds.filterMap rA).map vd=ds
 |[],_=>rfl
 |d::ds,h=>by obtain⟨v,rfl⟩:=h d (.head _);rw[List.filterMap_cons_some (mR v),aAr,GF λd a=>h d (.tail _ a)]
section
variable [Tabs]
def QO (J:List G.V):∀d∈J.map vd,S7 d=true:=λd a=>by obtain⟨v,_,rfl⟩:=aAi.mp a;rfl
def bE (J:List G.V):bV (J.map vd)=(c7 J).map vd:=by unfold c7;refine(GF λd a=>?_).symm;obtain⟨v,_,rfl⟩:=aAi.mp ((O5 (QO J) d).mp a);exact⟨v,rfl⟩
def m5 (J:List G.V):(c7 J).Pairwise λa b=>G.d8 (b-a):=YO (by rw[<-bE];exact eS _)
def LB {v:G.V}{J:List G.V}:vd v∈J.map vd↔v∈J:=by rw[aAi];exact⟨by rintro⟨u,a,e⟩;rw[<-qP e];exact a,λh=>⟨v,h,rfl⟩⟩
def u6 {J:List G.V}{v:G.V}:v∈c7 J↔v∈J:=by rw[<-LB,<-bE,O5 (QO J),LB]
def T8 (J:List G.V):(c7 J).Nodup:=(m5 J).imp λ{a b} h e=>by subst e;exact G.G7 h
def lC {a b:List G.V}(g:a.Pairwise λa b=>G.d8 (b-a))(i:b.Pairwise λa b=>G.d8 (b-a))(h:∀v,v∈a↔v∈b):a=b:=by refine VQ (oO (CB g) (CB i) λd=>?_);rw[aAi,aAi];exact⟨λ⟨v,f,e⟩=>⟨v,(h v).mp f,e⟩,λ⟨v,f,e⟩=>⟨v,(h v).mpr f,e⟩⟩
def WZ (h:(c7 J).length<=63):rz (.lst (J.map vd))=.ok ((c7 J).map vd):=by show(if _ then _ else _)=_;rw[h9 ⟨LO J,by rw[bE,aAj];exact h⟩,bE]
def U6 (h:G.j2 a)(d:∀v,v∈a->v∈b):G.j2 b:=by obtain⟨A,f,B,g,C,i,D,j,e⟩:=h;exact⟨A,d A f,B,d B g,C,d C i,D,d D j,e⟩
def YX (h:G.j2 J):G.U0 J=3:=by
 by_cases e:G.U0 J=3
 .exact e
 .exact absurd h (G.PK e)
def qH (J:List G.V):(c7 J).length<=J.length:=G.q8 (T8 J) λv a=>u6.mp a
def Y0 (f:S5 900 J)(g:G.j2 J)(d:(c7 J).length<=63):∃m r,c7 J=m::r/\Land (m::r) m:=by
 have a:G.j2 (c7 J):=U6 g λv i=>u6.mpr i;cases e:c7 J with
 |nil=>rw[e]at a;obtain⟨A,j,_⟩:=a;cases j
 |cons m r=>
  refine⟨m,r,rfl,?_⟩;have b:=m5 J;rw[e]at a d b;refine⟨⟨a,b,.head _,λX k=>?_⟩,⟨λP l=>f.1 P (u6.mp (by rw[e];exact l)),by lia⟩,d,rfl⟩;rcases aAd.mp k with h|h
  .exact .inl h
  .exact .inr ((aAz.mp b).1 X h)
def RJ (a:S5 1000 J)(b:G.j2 J):D6 [.lst (J.map vd)]=.ok .non:=by simp only[D6,q9];exact h9 ⟨a,YX b⟩
def qx (h:Land (m::J) m):G4 [.lst ((m::J).map vd)]=.ok (B4 (G.f6 m (m::J))):=by simp only[G4,q9];exact h9 h
def XZ (h:Land (m::J) m)(a:(m::J).length<=23):I9 (B4 (G.f6 m (m::J))) (J4 [.lst ((m::J).map vd)]) (C6 [.lst ((m::J).map vd)])=.ok (.lst ((i9 (m::J)).map (k8 (m::J)))):=by simp only[I9,show J4 [.lst ((m::J).map vd)] [.non]=.ok (.lst ((m::J).map vd))from rfl,q9];exact h9 ⟨h,a,rfl,rfl,rfl⟩
def iS (a:S5 900 J)(b:G.j2 J)(d:(c7 J).length<=23):D2 [.lst (J.map vd)]=.ok (.lst ((i9 (c7 J)).map (k8 (c7 J)))):=by simp only[D2,q9];exact h9 ⟨a,b,d⟩
def VG (a:S5 900 J)(b:G.j2 J)(d:(c7 J).length<=23):aF [.lst (J.map vd)]=.ok (.lst ((t4 J).map vd)):=by simp only[aF,q9];exact h9 ⟨a,b,d⟩
omit [Tabs]in
theorem tq {α:Type}:∀l:List α,∃b:List α,b.Nodup/\∀x,x∈b↔x∈l
 |[]=>⟨[],aCP,λ_=>Iff.rfl⟩
 |a::l=>by
  obtain⟨b,d,h⟩:=tq l;by_cases f:a∈l
  .exact⟨b,d,λx=>by rw[h,aAd];exact⟨.inr,λq=>q.elim (λe=>by rw[e];exact f) id⟩⟩
  .exact⟨a::b,aAE.mpr ⟨λz=>f ((h a).mp z),d⟩,λx=>by rw[aAd,aAd,h]⟩
def E8 (h:Land J m)(o:J.length<=23):dP J (i9 J):=by
 classical
 obtain⟨fs,b,g⟩:=tq ((G.cands J).filter λf=>decide (G.IsFace J f.1 f.2));have i:∀n d,(n,d)∈fs↔G.IsFace J n d:=λn d=>by
  rw[g,aAK];constructor
  .intro q;exact of_decide_eq_true q.2
  .intro q;refine⟨?_,decide_eq_true q⟩;obtain⟨A,j,B,k,C,l,_,e⟩:=G.eN q;unfold G.cands;rw[<-e];exact aBc.mpr ⟨A,j,aBc.mpr ⟨B,k,aAi.mpr ⟨C,l,rfl⟩⟩⟩
 have a:=rQ b i;rw[qA a];exact a
theorem lI:∀(Y:List D) (b:List (List G.V)) (B:List G.V) (x y:Sl),uE Y=some b->B.length+b.flatten.length<=3000->
  ∃g i,R8 (bW 2 (F8 (λd ρ=>R.ok (aDh ρ 2 (Sl.v d))) (F8 (λd ρ=>R.ok (aDh ρ 3 (Sl.v d))) fO))) (λρ=>(Z8 3 ρ).bind (RY 1 ρ)) Y [a,.o (B.map vd),x,y]=.ok (.nx [a,.o ((B++b.flatten).map vd),g,i])
 |[],b,B,x,y,h,_=>by cases h;exact⟨x,y,by simp⟩
 |d::Y,b,B,x,y,h,k=>by
  unfold uE at h;split at h
  .rename_i v l f m;cases h;obtain⟨p,j,rfl,n⟩:∃p j,d=.tup [p,.lst j]/\B9 j=some v:=by
    unfold YZ at f;split at f
    .exact⟨_,_,rfl,f⟩
    .cases f
   have q:=m9 n;subst q;rw[List.flatten_cons,aAB]at k;obtain⟨g,i,e⟩:=lI Y l (B++v) (.v p) (.v (.lst (v.map vd))) m (by rw[aAB];lia);refine⟨g,i,?_⟩;have r:(B.map vd).length+(v.map vd).length<=sizeLine:=by rw[aAj,aAj];exact MV (by lia)
   refine(T6 (ρ1:=[a,.o (B.map vd),.v p,.v (.lst (v.map vd))]) (ρ2:=[a,.o ((B++v).map vd),.v p,.v (.lst (v.map vd))]) rfl ?_).trans ?_
   .show(if(B.map vd).length+(v.map vd).length<=sizeLine then _ else _)=_;rw[h9 r,aCr];rfl
   .rw[e,List.flatten_cons,aFs]
  .cases h
theorem lQ (J:List G.V):∀fs:List (G.V×Int),uE (fs.map (k8 J))=some (fs.map (G.d7 J))
 |[]=>rfl
 |f::fs=>by rw[aAr,uE,lQ J fs];rw[show YZ (k8 J f)=some (G.d7 J f)from q9 _];rfl
def DP {J:List G.V}{fs:List (G.V×Int)}(a:(fs.flatMap (G.d7 J)).length<=3000)(b:(c7 (fs.flatMap (G.d7 J))).length<=63):G5 [.lst (fs.map (k8 J))]=.ok (.lst ((c7 (fs.flatMap (G.d7 J))).map vd)):=by have e:(fs.map<|G.d7 J).flatten=fs.flatMap (G.d7 J):=rfl;simp only[G5,lQ,e];exact h9 ⟨a,b⟩
def oK (d:J.Pairwise λa b=>G.d8 (b-a))(e:G.IsFace J f.1 f.2)(h:X∈G.d7 J f):X∈J:=(G.c5.mp<|(e.aa2 d).aa3 h).1
def cM (g:S5 900 J)(i:G.j2 J)(a:(c7 J).length<=23)(h:X∈t4 J):X∈J:=by obtain⟨m,r,e,L⟩:=Y0 g i (by lia);unfold t4 at h;rw[u6,aBc]at h;obtain⟨f,b,d⟩:=h;rw[e]at b d a;have j:=E8 L a;have:=oK L.good.ord ((j.1 f).mp b) d;rw[<-e,u6]at this;exact this
def tZ (L:Land J m)(b:J.length<=23):((i9 J).flatMap (G.d7 J)).length<=200/\(c7 ((i9 J).flatMap (G.d7 J))).length<=23:=by
 have a:=E8 L b;have e:=G9 (K6 a.2);have g:i9 J≠[]:=λz=>by have h:=G.W6 L.good.solid L.good.ord L.good.mem L.good.least;have:=(a.1 _).mpr h;rw[z]at this;cases this
 have i:=(G.nH L.good.solid L.good.ord a.1 e g).2;constructor
 .rw[List.length_flatMap]
  lia
 .refine aAs (G.q8 (T8 _) λv d=>?_) b;rw[u6,aBc]at d;obtain⟨f,j,k⟩:=d;exact oK L.good.ord ((a.1 f).mp j) k
end
def aL (h:0<b):dJ (.int a) (.int b)=.ok (.int (a.fmod b)):=xG (by omega)
def kN (h:0<b)(d:b<1000000000000000):S9 (.int a) (.int b)=.ok (.int (a.fdiv b)):=kG ⟨by omega,o8 (L4 (n:=60) (by omega) (by omega))⟩
def fT {a b:Int}(h:0<b):0<=a.fmod b/\a.fmod b<b:=by have f:=PyProof.Rows.fdiv_fmod_facts a b;have g:=f.2.2.1 h;omega
def z7 (a:r=.ok (.nx ρ))(b:M6 (F ρ)=x):M6 (C4 r F)=x:=by rw[a];exact b
def a1x {n:Nat}(h:n<=1000000):jD [.int (n:Int)]=.ok ((aBy n).map λ(k:Nat)=>D.int (k:Int)):=by
 show(if sS 0 (n:Int) 1 then R.ok (BZ 0 1<|lT 0 n 1)else R.bad)=_;rw[h9 ⟨by decide,by decide,by decide,by decide,by omega,by omega⟩];have e:lT 0 (n:Int) 1=n:=by
  unfold lT;split
  .simp
  .omega
 rw[e];unfold BZ;congr 1;refine aED λk _=>?_;simp
section
variable [Tabs]
def iB {J:List G.V}(h:S5 900 J)(i:G.j2 J)(d:(c7 J).length<=23):∀X,X∈t4 J↔∃f:G.V×Int,G.IsFace (c7 J) f.1 f.2/\X∈G.d7 (c7 J) f:=λX=>by obtain⟨m,r,e,L⟩:=Y0 h i (by lia);unfold t4;rw[u6,aBc];rw[e]at d⊢;have g:=E8 L d;exact⟨by rintro⟨f,a,b⟩;exact⟨f,(g.1 f).mp a,b⟩,by rintro⟨f,a,b⟩;exact⟨f,(g.1 f).mpr a,b⟩⟩
def yZ {l:List G.V}(h:l.Pairwise λa b=>G.d8 (b-a)):c7 l=l:=lC (m5 _) h λv=>u6
def jN {J:List G.V}(k:S5 900 J)(l:G.j2 J)(o:(c7 J).length<=23):G.j2 (t4 J)/\S5 900 (t4 J)/\c7 (t4 J)=t4 J/\(t4 J).length<=23/\t4 (t4 J)=t4 J/\∀n d,G.IsFace (t4 J) n d↔G.IsFace (c7 J) n d:=by
 have q:=iB k l o;have g:(t4 J).Pairwise λa b=>G.d8 (b-a):=m5 _;have p:G.j2 (c7 J):=U6 l λv h=>u6.mpr h;have s:=m5 J;obtain⟨m,r,e,L⟩:=Y0 k l (by lia);have t:dP (c7 J) (i9<|c7 J):=by have i:=o;rw[e]at i⊢;exact E8 L i
 have y:(t4 J).length<=23:=by have i:=o;unfold t4;rw[e]at i⊢;exact(tZ L i).2
 have B:i9 (c7 J)≠[]:=λz=>by
  obtain⟨A,N,_⟩:=p;have:∃f:G.V×Int,G.IsFace (c7 J) f.1 f.2:=by have j:=L;rw[<-e]at j;have:=G.W6 j.good.solid j.good.ord j.good.mem j.good.least;exact⟨_,this⟩
  obtain⟨f,u⟩:=this;have:=(t.1 f).mpr u;rw[z]at this;cases this
 obtain⟨E,w⟩:=aFg _ B;have C:=G.FM p s g q ((t.1 E).mp w);have sz:S5 900 (t4 J):=⟨λP H=>k.1 P (cM k l o H),by lia⟩;have x:=yZ g;refine⟨C,sz,x,y,?_,λn d=>G.VM p s g q _ B t.1⟩;refine lC (m5 _) g λv=>?_;have I:=iB sz C (by rw[x];exact y) v;show v∈t4 (t4 J)↔_;rw[I,x];constructor
 .rintro⟨f,u,h⟩;exact oK g u h
 .exactλh=>G.LC p s g q h
end
end M
namespace DL
open PySem PySem.Spec L2
def SQ {K:Params->i6}{P c:bb}{tb:List (Pos×Str)}{a:List bb}(b:P∈a)(d:∀w:cp,PySem.W.codeHdIn (K w.params) c P=true):∀p∈[(P,tb)],p.1∈a/\∃c,∀w:cp,PySem.W.codeHdIn (K w.params) c p.1=true:=λp e=>by rw[aAV.mp e];exact⟨b,c,d⟩
def Got (K:i6)(x:Str)(st:df):Prop:=∃f a,PySem.W.nsIn K bg x=some (some<|.ref f)/\Fun K x x st f a
def WA (K:i6)(x:Str)(st:df)(b:bb):Prop:=∃f d a,PySem.W.nsIn K bg x=some (some<|.ref f)/\PySem.W.codeHdIn K a b=true/\FunC K x x st f d a
def fC (K:i6)(mg:cH)(x:Str)(st:df):Prop:=∃f a,mg x=some (.ref f)/\Fun K x x st f a
def nj (K:i6)(mg:cH)(x:Str)(st:df)(b:bb):Prop:=∃f d a,mg x=some (.ref f)/\PySem.W.codeHdIn K a b=true/\FunC K x x st f d a
section
variable{kV doc pm T ct:ae}
def YA (a:PySem.W.nsIn K bg x=some (some (.ref f)))(l:K.lookup f=some ⟨d,e,.func (PySem.W.fnOf x x (E6 st) (t9 st) (c8 st) .none kV doc pm g T ct),b⟩)
 (c:PySem.W.codeIn K T x=true) (k:PySem.W.keepIn K (.ref f)=true):Got K x st:=⟨f,_,a,MA l c k⟩
def TM (a:PySem.W.nsIn K bg x=some (some (.ref f)))(l:K.lookup f=some ⟨g,h,.func (PySem.W.fnOf x x (E6 st) (t9 st) (c8 st) .none kV doc pm i T ct),b⟩)
 (c:PySem.W.codeIn K T x=true) (k:PySem.W.keepIn K (.ref f)=true) (e:T=.ref cd) (n:PySem.W.codeHdIn K cd d=true):WA K x st d:=⟨f,_,cd,a,n,TV l e c k⟩
def Got.def (g:Got K x st)(X:K.In h)(G:h.Ns bg mg):fC K mg x st:=let⟨f,d,a,b⟩:=g;⟨f,d,PySem.W.mg_of X G a,b⟩
def WA.def (g:WA K x st d)(X:K.In h)(G:h.Ns bg mg):nj K mg x st d:=let⟨f,e,i,a,b⟩:=g;⟨f,e,i,PySem.W.mg_of X G a,b⟩
def J0 (a:sc.kind=.function:=by rfl)(b:sc.isCoroutine=false:=by rfl)(d:sc.isGenerator=false:=by rfl)(e:N.Nodup:=by decide+kernel)(f:N.take ps.length=ps:=by rfl)(g:∀x∈ps,sc.names.lookup x=some .local\/sc.names.lookup x=some .cell:=by decide+kernel)(h:∀y∈sc.names,y.2≠.free:=by decide+kernel):FnScope N ps sc:=⟨a,b,d,e,f,g,h⟩
variable [Tabs]
def m8 (g:fC K mg x st)(S:FnScope N ps (c8 st))(j:∀{f:bb} {T:ae} {A:cf} {a:List Env} {s:a9} {H:Hp} {E:XK},Room k (A.deeper (aEN x (c8 st) s.heap.objs.size f T))->(A.deeper (aEN x (c8 st) s.heap.objs.size f T)).units+64<dg->(A.deeper (aEN x (c8 st) s.heap.objs.size f T)).units+130<dg->N.Nodup->
  bI (UW P w K mg base N x (c8 st) f T A a s H E) (t9 st) F) (l:∀ds d,ds.length=ps.length->m ds=.ok d->M6 (F (k5 N ds))=.ok d) (e:∀(kV doc pm:ae) (n:Option bb) (T ct:ae) (b:List ae),b.length=ps.length->bindArgs (PySem.W.fnOf x x (E6 st) (t9 st) (c8 st) .none kV doc pm n T ct) ⟨b,[]⟩=pure (ps.zip b):=by
  intro _ _ _ _ _ _ b o;rcases b with _|⟨_,_|⟨_,_|⟨_,_|⟨_,_|⟨_,_|⟨_,_|⟨_,_⟩⟩⟩⟩⟩⟩⟩<;>first|rfl|exact absurd o (by simp)):w9 P w K mg base (k+1) x ps.length m:=by
 obtain⟨f,q,p,i⟩:=g;exact YV i S (i.binds e) p (λT A a s H E h=>j h h.units h.ae8 S.nd) l
end
end DL
namespace DL
open PySem PySem.Spec PySem.Calls PySem.W Builtin Builtin.ObjectAttr Builtin.Getset_descriptor
open PyProof.Rows hiding St
section
variable{prog:be} {w:cp} {A:cf} {E:A4} {K:Frag} {h:cq} {g:Array GenState} {d:Drawn} {t:Nat} {os:OsState} {a C:bb} {o:Obj}
end
end DL
namespace DL
open PySem PySem.Spec L2
open PyProof.Rows hiding St
variable [Tabs]
section
variable{X:Cx} {pos:Pos}
end
section
variable{X:Cx} {pins:N4} {σ:St} {H H':Hp} {s s':a9}
end
section
variable{K:i6} {H9 H:Hp} {O0 O:bb->Prop} {σ:St} {ρ:Ev}
end
section
variable{X:Cx} {pos sv np:Pos}
end
section
variable{X:Cx} {pos:Pos}
end
section
variable{X:Cx} {pos:Pos}
end
section
end
section
end
section
abbrev zV (X:Cx)(e:cu)(es:List cu):Prop:=ar (e::es) X.env=(false,dm e X.env)::ar es X.env
def G1 {i:Int}{j}:PB X (.Constant (.int i) j a) (XI (.int i)):=c9.pb
def rE {e1:cu}{b:Ev->R D}(c:w9 X.prog X.w X.K X.mg X.base k x 1 m)(e:Room f X.A)(a1:PD X e1 b)(g:k<=f:=by decide)(d:zV X e1 []:=by rfl)(h:Gl X x:=by rfl)(i:(x==jh)=false:=by decide)(j:(cz a (ar [] X.env)).any (·.1)=false:=by rfl):
 PD X (.Call (.Name x p) [e1] [] a) (λρ=>((p6 b P9) ρ).bind m):=uQ c (e.mono g) (i8 a1 u0 d) (A1 aG) h i d j
def bZ {e1 e2:cu}{b d:Ev->R D}(c:w9 X.prog X.w X.K X.mg X.base k x 2 m)(f:Room g X.A)(a1:PD X e1 b)(a2:PD X e2 d)(h:k<=g:=by decide)(e:zV X e1 [e2]:=by rfl)(i:zV X e2 []:=by rfl)(j:Gl X x:=by rfl)(l:(x==jh)=false:=by decide)(n:(cz a (ar [e2] X.env)).any (·.1)=false:=by rfl):
 PD X (.Call (.Name x p) [e1,e2] [] a) (λρ=>((p6 b (p6 d P9)) ρ).bind m):=uQ c (f.mono h) (i8 a1 (i8 a2 u0 i) e) (A1<|A1 aG) j l e n
def pc3 {e1 e2 a:cu}{d e f:Ev->R D}(c:w9 X.prog X.w X.K X.mg X.base k x 3 m)(h:Room i X.A)(a1:PD X e1 d)(a2:PD X e2 e)(a3:PD X a f)(j:k<=i:=by decide)(g:zV X e1 [e2,a]:=by rfl)(l:zV X e2 [a]:=by rfl)(n:zV X a []:=by rfl)(o:Gl X x:=by rfl)(q:(x==jh)=false:=by decide)(r:(cz b (ar [e2,a] X.env)).any (·.1)=false:=by rfl):
 PD X (.Call (.Name x p) [e1,e2,a] [] b) (λρ=>((p6 d (p6 e (p6 f P9))) ρ).bind m):=uQ c (h.mono j) (i8 a1 (i8 a2 (i8 a3 u0 n) l) g) (A1<|A1<|A1 aG) o q g r
def pc4 {e1 e2 b a:cu}{e f g h:Ev->R D}(c:w9 X.prog X.w X.K X.mg X.base k x 4 m)(j:Room l X.A)(a1:PD X e1 e)(a2:PD X e2 f)(a3:PD X b g)(n:PD X a h)(o:k<=l:=by decide)(i:zV X e1 [e2,b,a]:=by rfl)(q:zV X e2 [b,a]:=by rfl)(r:zV X b [a]:=by rfl)(s:zV X a []:=by rfl)(t:Gl X x:=by rfl)(u:(x==jh)=false:=by decide)(v:(cz d (ar [e2,b,a] X.env)).any (·.1)=false:=by rfl):
 PD X (.Call (.Name x p) [e1,e2,b,a] [] d) (λρ=>((p6 e (p6 f (p6 g (p6 h P9)))) ρ).bind m):=uQ c (j.mono o) (i8 a1 (i8 a2 (i8 a3 (i8 n u0 s) r) q) i) (A1<|A1<|A1<|A1 aG) t u i v
def zZ {e1 e2:cu}{a b:Ev->R D}{j}(a1:PD X e1 a)(a2:PD X e2 b)(d:zV X e1 [e2]:=by rfl)(e:zV X e2 []:=by rfl):PD X (.Tuple [e1,e2] j f) (λρ=>((p6 a (p6 b P9)) ρ).bind fA):=BF (i8 a1 (i8 a2 u0 e) d)
def ET {e1 e2 a:cu}{b d e:Ev->R D}{j}(a1:PD X e1 b)(a2:PD X e2 d)(a3:PD X a e)(f:zV X e1 [e2,a]:=by rfl)(g:zV X e2 [a]:=by rfl)(h:zV X a []:=by rfl):PD X (.Tuple [e1,e2,a] j i) (λρ=>((p6 b (p6 d (p6 e P9))) ρ).bind fA):=BF (i8 a1 (i8 a2 (i8 a3 u0 h) g) f)
def KD {id:String}{g:List D->R D}{e:cu}{f:Ev->R D}(h:Y3 X (.builtin id) g)(a:PB X e f)(i:Gl X x:=by rfl)(j:X.mg x=none:=by assumption)(k:cv x=some (.builtin id):=by decide+kernel)(l:x≠ "__name__":=by decide)(m:(x==jh)=false:=by decide)(d:zV X e []:=by rfl)(n:(cz b (ar [] X.env)).any (·.1)=false:=by rfl):
 PD X (.Call (.Name x p) [e] [] b) (λρ=>(p6 f P9 ρ).bind g):=aP h (w6 a C9 d) i j k l m d n
def IX {i:List Str}{a:hH}{l:Pos}{e:cu}{fe:Ev->R D}(h:∀b f j k C,PD (GO X b j k ([x]++i) a (cA X a C) C f) e fe)(m:([x]++i).Nodup:=by decide+kernel)(n:Loc (relabel a X.env) x:=by first|exact aCV rfl|exact aCc rfl)(o:(a.names.lookup x==some .cell)=true\/(relabel a X.env).names.lookup x=some .local:=by first|exact .inl rfl|exact .inr rfl):
  ∀(b:N4) (f:List bb) (g:Cx),(∃p q C,g=GO X b p q ([x]++i) a (cA X a C) C f)->KE g (.Name x l) (λd ρ=>.ok (ρ.set 0 (.v d)))/\SH g [] (λ_=>.ok true)/\PD g e fe:=by
 rintro b f r ⟨j,k,C,rfl⟩;exact⟨l7 0 m rfl n o,DV,h b f j k C⟩
def hxt {j:List Str}{a:hH}{l:Pos}{f c:cu}{fe:Ev->R D}{ft:Ev->R Bool}(h:∀b e g i C,FK (GO X b g i ([x]++j) a (cA X a C) C e) c ft/\PD (GO X b g i ([x]++j) a (cA X a C) C e) f fe)(m:([x]++j).Nodup:=by decide+kernel)(n:Loc (relabel a X.env) x:=by first|exact aCV rfl|exact aCc rfl)(o:(a.names.lookup x==some .cell)=true\/(relabel a X.env).names.lookup x=some .local:=by first|exact .inl rfl|exact .inr rfl):
  ∀(b:N4) (e:List bb) (k:Cx),(∃p q C,k=GO X b p q ([x]++j) a (cA X a C) C e)->KE k (.Name x l) (λd ρ=>.ok (ρ.set 0 (.v d)))/\SH k [c] ft/\PD k f fe:=by
 rintro b e r ⟨g,i,C,rfl⟩;exact⟨l7 0 m rfl n o,SG (h b e g i C).1,(h b e g i C).2⟩
end
end DL
namespace DL
open PySem L2
variable [Tabs]
end DL
namespace M
open PySem L2 DL
variable [Tabs]
def iF (h:A9 d<=40):BC d d=.ok (.bl false):=by unfold BC;rw[h9 ⟨h,h⟩,M3];rfl
def UZ (J:List G.V):A9 (.lst (J.map vd))<=40:=by
 rw[A9];have:∀J:List G.V,C3 (J.map vd)<=1:=λJ=>by
  induction J with
  |nil=>simp[C3]
  |cons P J a=>rw[aAr,C3];exact Nat.max_le.mpr ⟨by simp[A9,C3],a⟩
 have:=this J
 lia
def xH (k:Int):Int:=6*k*k+5*k+8
def eM:List D->R D
 |[.lst Y,.int k]=>if 0<=k/\k<=1000 then .ok (sQ xH Y k)else .bad
 |_=>.bad
def cJ (Y:List D)(k:Int):Int:=match sQ xH Y k with
 |.int i=>i
 |_=>0
def KR (d:M2 1048576 Y)(k:Int)(h0:0<=k)(b:k<=100):eM [.lst Y,.int k]=.ok (.int (cJ Y k))/\bits (cJ Y k)<=2000000:=by
 obtain⟨c,e,a⟩:=GU d xH k;have f:cJ Y k=c:=by unfold cJ;rw[e]
 rw[f];refine⟨(h9 ⟨h0,by lia⟩).trans (i5 R.ok e),?_⟩;rcases a with a|rfl
 .exact o8 a
 .unfold xH;have g:0<=k*k:=aBl h0 h0;have h:k*k<=100*100:=Int.mul_le_mul b b h0 (by decide);rw[aGq];exact j7 (L4 (n:=30) (by lia) (by lia)) (by decide)
def dw (c w:Int):G.V:=⟨c.fmod w-w.fdiv 2,(c.fdiv w).fmod w-w.fdiv 2,(c.fdiv<|w*w).fmod w-w.fdiv 2⟩
def tmA (c:Int)(at_ j:Nat):Int:=(c.fdiv<|5+7*(at_:Int)+(j:Int)).fmod 5-2
def ZV (P:G.V)(t:Int)(w:G.V):G.V:=⟨P.x+t*w.x,P.y+t*w.y,P.z+t*w.z⟩
def ptA (c:Int)(b:G.V)(ws:List G.V)(at_:Nat):G.V:=match ws with
 |[]=>b
 |[u]=>ZV b (tmA c at_ 0) u
 |u::v::_=>ZV (ZV b (tmA c at_ 0) u) (tmA c at_ 1) v
def lw (c:Int)(b:G.V)(ws:List G.V)(n:Nat):List G.V:=(aBy n).map (ptA c b ws)
structure Drawn (J:List G.V):Prop where
 ne:J≠[]
 len:J.length<=40
 sz:∀P∈J,Sz 100 P
 flat:¬G.j2 J
open Classical in
def kw (p:Prop) (d:D):R D:=if p then .ok d else .bad
def CZ {p:Prop}{d r:D}(h:kw p d=.ok r):p/\d=r:=by
 unfold kw at h;split at h
 .rename_i z;cases h;exact⟨z,rfl⟩
 .cases h
def vZ {p:Prop}{d:D}(h:p):kw p d=.ok d:=h9 h
def lvD (k:List G.V->List D->R D):List D->R D:=JB λY e=>match B9 Y with
 |some l=>k l e
 |none=>.bad
def aj {k:List G.V->List D->R D}{ds:List D}{r:D}(h:lvD k ds=.ok r):∃l e,ds=.lst (l.map vd)::e/\k l e=.ok r:=by
 replace h:=jG h;obtain⟨Y,e,rfl,h⟩:=h;cases q:B9 Y with
 |none=>rw[q]at h;cases h
 |some l=>rw[q]at h;exact⟨l,e,by rw[m9 q],h⟩
def RM (k:List G.V->List D->R D)(l:List G.V)(e:List D):lvD k (.lst (l.map vd)::e)=k l e:=by show(match B9 (l.map vd)with|some l=>k l e|none=>.bad)=_;rw[q9]
def l3 (k:Int->Int->Int->List D->R D):List D->R D:=JB λY e=>sK (λa=>sK λb=>sK λc=>mL (k a b c e)) Y
def XC (s k:Int):Int:=(s*s+5003*k+11).fmod 2147483647
def LK (l:List Int):List D:=l.map D.int
def fI:List D->Option (List Int)
 |[]=>some []
 |.int i::r=>match fI r with
  |some l=>some (i::l)
  |none=>none
 |_=>none
@[simp]theorem rV:∀l:List Int,fI (LK l)=some l
 |[]=>rfl
 |i::l=>by have:=rV l;unfold LK at this;simp[LK,fI,this]
theorem nK:∀{ds:List D} {l:List Int},fI ds=some l->ds=LK l
 |[],l,h=>by simp[fI]at h;subst h;rfl
 |.int i::r,l,h=>by
  simp only[fI]at h;split at h
  .rename_i a e;injection h with h;subst h;rw[nK e];rfl
  .cases h
 |.tup _::_,_,h=>by simp[fI]at h
 |.lst _::_,_,h=>by simp[fI]at h
 |.bl _::_,_,h=>by simp[fI]at h
def rM (l:List Int):G.Sl:=⟨l.getD 0 0,l.getD 1 0,l.getD 2 0,⟨l.getD 3 0,l.getD 4 0,l.getD 5 0⟩,decide (l.getD 6 0=1)⟩
def bQ (l:List Int):Prop:=l.length=7/\∀i∈l,bits i<=100
open Classical in
def N6:List D->R D
 |[p,.lst Y]=>match rA p,fI Y with
  |some P,some l=>if bQ l/\Sz 500 P then .ok (vd ((rM l).put P))else .bad
  |_,_=>.bad
 |_=>.bad
def wV {l:List Int}{P:G.V}(h:bQ l)(a:Sz 500 P):N6 [vd P,.lst (LK l)]=.ok (vd ((rM l).put P)):=by simp only[N6,mR,rV];exact h9 ⟨h,a⟩
def zF (c:Int):Int:=(c.fdiv 1029*271828182845904523536).fmod 200000000000000000001-100000000000000000000
def s7 (c k:Int):Int:=(c.fdiv k).fmod 7-3
def QZ (c:Int):List Int:=(if c.fmod 3=2 then[s7 c 3*7654321,s7 c 21*7654321,s7 c 147*7654321]else[s7 c 3,s7 c 21,s7 c 147])++[zF c,0-(zF c).fdiv 7,(c.fdiv 1029).fmod 50,(c.fdiv 9).fmod 2]
def PY (c:Int):bQ (QZ c):=by
 have s:∀k,bits (s7 c k)<=4:=λk=>bits_sub (bits_fmod (by decide) (show bits 7<=3 by decide)) (show bits 3<=3 by decide);have m:∀k,bits (s7 c k*7654321)<=100:=λk=>j7 (bits_mul (s k) (show bits 7654321<=30 by decide)) (by decide);have a:∀k,bits (s7 c k)<=100:=λk=>j7 (s k) (by decide);have f:bits (zF c)<=99:=bits_sub (n:=98) (bits_fmod (by decide) (by decide)) (by decide);have r:∀x∈[zF c,0-(zF c).fdiv 7,(c.fdiv 1029).fmod 50,(c.fdiv 9).fmod 2],bits x<=100:=by simp only[aCg];exact⟨j7 f (by decide),bits_sub (show bits 0<=99 by decide) (bits_fdiv f),bits_fmod (by decide) (by decide),bits_fmod (by decide) (by decide),λ_ h=>by cases h⟩
 unfold QZ;split
 .exact⟨rfl,aCg.mpr ⟨m _,aCg.mpr ⟨m _,aCg.mpr ⟨m _,r⟩⟩⟩⟩
 .exact⟨rfl,aCg.mpr ⟨a _,aCg.mpr ⟨a _,aCg.mpr ⟨a _,r⟩⟩⟩⟩
open Classical in
def aU:List D->R D
 |[.int c]=>if bits c<=3000000 then .ok (.lst (LK (QZ c)))else .bad
 |_=>.bad
def CL {c:Int}(h:bits c<=3000000):aU [.int c]=.ok (.lst (LK (QZ c))):=h9 h
def JA {J:List G.V}{fs:List (G.V×Int)}(j:∀f,f∈fs↔G.IsFace J f.1 f.2)(l:fs≠[])(P:G.V):(if kC (fs.map λf=>G.b9 f.1 P-f.2)<0 then 1 else 0)-(if 0<kC (fs.map λf=>G.b9 f.1 P-f.2)then 1 else 0)=G.W2 J P:=by
 have m:=iP (ns:=fs.map λf=>G.b9 f.1 P-f.2) (by simpa using l);have e:∀f∈fs,G.b9 f.1 P-f.2<=kC (fs.map λf=>G.b9 f.1 P-f.2):=λf h=>mZ (aAi.mpr ⟨f,h,rfl⟩);generalize kC (fs.map λf=>G.b9 f.1 P-f.2)=M at*
 obtain⟨g,o,rfl⟩:=aAi.mp m;have i:=(j g).mp o;unfold G.W2;by_cases a:∀n d,G.IsFace J n d->G.b9 n P-d<=0
 .rw[h9 a];have r:=a _ _ i;by_cases b:∀n d,G.IsFace J n d->G.b9 n P-d<0
  .have p:=b _ _ i;rw[h9 b,h9 p,ib (by lia)];rfl
  .rw[ib b];have:∃n d,G.IsFace J n d/\¬G.b9 n P-d<0:=by simpa using b
   obtain⟨n,d,h,q⟩:=this;have k:=e (n,d) ((j (n,d)).mpr h);dsimp only at k;rw[ib (by lia),ib (by lia)];rfl
 .rw[ib a];have:∃n d,G.IsFace J n d/\¬G.b9 n P-d<=0:=by simpa using a
  obtain⟨n,d,h,q⟩:=this;have k:=e (n,d) ((j (n,d)).mpr h);dsimp only at k;rw[ib (by lia),h9 (by lia)];rfl
def WD {ns:List Int}(h:ns≠[]):kC (ns.map sgn)=sgn (kC ns):=by
 have mono:∀{x y:Int},x<=y->sgn x<=sgn y:=λ{x y} h=>by
  unfold sgn
  repeat' split
  all_goals lia
 have b:=mZ (aBq (f:=sgn)<|iP h);obtain⟨x,a,e⟩:=aAi.mp (iP (ns:=ns.map sgn) (by simpa using h));have:=mono (mZ a)
 lia
def JC {J:List G.V}{fs:List (G.V×Int)}(b:∀f,f∈fs↔G.IsFace J f.1 f.2)(a:fs≠[])(P:G.V):-(kC (fs.map λf=>sgn (G.b9 f.1 P-f.2)))=G.W2 J P:=by
 have:=WD (ns:=fs.map λf=>G.b9 f.1 P-f.2) (by simpa using a);rw[aBL]at this;rw[<-JA b a P];refine(i5 Neg.neg this).trans ?_;unfold sgn
 repeat' split
 all_goals lia
open Classical in
def T2:List D->R D
 |[.lst a,p]=>match B9 a,rA p with
  |some J,some P=>if S5 900 J/\G.j2 J/\(c7 J).length<=23/\Sz 900 P then .ok (.int (G.W2 (c7 J) P))else .bad
  |_,_=>.bad
 |_=>.bad
def NH {L:List G.V}{P:G.V}(a:S5 900 L)(b:G.j2 L)(d:(c7 L).length<=23)(e:Sz 900 P):T2 [.lst (L.map vd),vd P]=.ok (.int (G.W2 (c7 L) P)):=by simp only[T2,q9,mR];exact h9 ⟨a,b,d,e⟩
def VP {J:List G.V}{n:G.V}{d:Int}(h:S5 900 J)(a:G.IsFace (c7 J) n d):Sz 2003 n:=by obtain⟨A,b,B,f,C,g,_,e⟩:=G.eN a;have z:∀X∈c7 J,Sz 1000 X:=λX i=>(h.1 X (u6.mp i)).mono;have:=nM (z A b) (z B f) (z C g);rw[e]at this;exact this
def tQ {J:List G.V}{f:G.V×Int}{P:G.V}(h:S5 900 J)(a:Sz 900 P)(b:G.IsFace (c7 J) f.1 f.2):G2 [fX f.1 f.2,vd P]=.ok (.int (sgn (G.b9 f.1 P-f.2))):=by have z:=VP h b;exact DS ⟨o8 z.1,o8 z.2.1,o8 z.2.2⟩ ⟨o8 a.1,o8 a.2.1,o8 a.2.2⟩
def O9 {J:List G.V}(h:S5 900 J)(i:G.j2 J)(b:(c7 J).length<=23):(∀f,f∈i9 (c7 J)↔G.IsFace (c7 J) f.1 f.2)/\i9 (c7 J)≠[]/\(i9 (c7 J)).length<=12167:=by obtain⟨m,r,e,L⟩:=Y0 h i (by lia);have g:=b;rw[e]at g;have a:=E8 L g;rw[<-e]at a L;have j:=G9 (K6 a.2);have d:=G.GV j λf k=>(a.1 f).mp k;have l:(c7 J).length*((c7 J).length*(c7 J).length)<=23*(23*23):=aFi b (aFi b b);refine⟨a.1,λz=>?_,aAs d l⟩;have q:=G.W6 L.good.solid L.good.ord L.good.mem L.good.least;have:=(a.1 (_,_)).mpr q;rw[z]at this;cases this
def intD:D->Int
 |.int i=>i
 |_=>0
def oP:Nat->List D->List D
 |_,[]=>[]
 |k,d::a=>.tup [.int (k:Int),d]::oP (k+1) a
theorem tY:∀(Y:List D) (k i:Nat),(oP k Y)[i]?=Y[i]?.map λd=>D.tup [.int ((k+i:Nat):Int),d]
 |[],_,_=>rfl
 |d::a,k,0=>rfl
 |d::a,k,i+1=>by rw[oP,aCz,aCz,tY a (k+1) i,Nat.add_right_comm];rfl
def UX (Y:List D):GR Y=oP 0 Y:=aEf λi=>by rw[jX,tY,aEX]
def xA (m:Nat):Nat->List D->List Int->List Int
 |_,[],a=>a
 |k,d::b,a=>xA m (k+1) b (a.set (k%m) (a.getD (k%m) 0+intD d))
theorem GJ (m:Nat)(e:0<m):∀(ds:List D) (k:Nat) (ts:List Int),M2 1048576 ds->ts.length=m->(∀t∈ts,bits t<=1100000+k)->(xA m k ds ts).length=m/\∀t∈xA m k ds ts,bits t<=1100000+k+ds.length
 |[],k,ts,_,h,b=>⟨h,b⟩
 |d::ds,k,ts,f,h,b=>by
  have:=GJ m e ds (k+1) (ts.set (k%m)<|ts.getD (k%m) 0+intD d) (λx j=>f x (.tail _ j)) (by simpa using h) (λt a=>by
   rcases List.mem_or_eq_of_mem_set a with a|rfl
   .exact j7 (b t a) (by lia)
   .have g:k%m<ts.length:=by rw[h];exact aEe _ e
    have l:bits (ts.getD (k%m) 0)<=1100000+k:=by rw[aAl,aAg g];exact b _ (aBU g)
    obtain⟨i,rfl,n⟩:=f d (.head _);exact bits_add l (j7 n (by lia)))
  refine⟨this.1,λt a=>j7 (this.2 t a) ?_⟩;simp only[aAt];lia
def ax (Y:List D):MN (.lst Y) (some 2) (some 63)=.ok (.lst ((Y.take 63).drop 2)):=by
 show R.ok (D.lst<|cutD Y (some 2)<|some 63)=_;rw[List.drop_take];show R.ok (D.lst<|List.take (min 63 Y.length-min 2 Y.length)<|List.drop (min 2 Y.length) Y)=_;by_cases h:Y.length<=2
 .rw[aFO (by lia),aFO (by lia)];simp
 .rw[aFT (by lia:2<=Y.length)];by_cases a:Y.length<=63
  .rw[aDn (by simp;lia),aDn (by simp;lia)]
  .rw[aFT (by lia)]
open Classical in
def jP (J:List G.V):List G.V:=if G.j2 J then J else match J with
 |[]=>[]
 |P::r=>(P::r)++[⟨P.x+1,P.y,P.z⟩,⟨P.x,P.y+1,P.z⟩,⟨P.x,P.y,P.z+1⟩]
open Classical in
def cO:List D->R D
 |[.lst a]=>match B9 a with
  |some J=>if J≠[]/\(∀p∈J,Sz 300 p)/\J.length<=1000 then .ok (.lst ((jP J).map vd))else .bad
  |_=>.bad
 |_=>.bad
def OK {α β:Type}{G:D->Ev->R Ev}{fe:Ev->R D}{ρ:Ev}(rep:α->D)(b:β->D)(g:α->β)(l:List α)(h:∀a∈l,∃ρ1,G (rep a) ρ=.ok ρ1/\fe ρ1=.ok (b (g a))):u9 G (λ_=>.ok true) fe ρ (l.map rep)=.ok ((l.map g).map b):=by rw[aBL];exact V0 rep _ l h
theorem qJ {α:Type}{G:D->Ev->R Ev}{F:Ev->R Out}{x:D}{Iv:Ev->Prop}(rep:α->D)(p:α->Prop)(i:Ev->Prop)(n:∀ρ,i ρ->Iv ρ):∀(l:List α) (ρ:Ev),i ρ->(∀a∈l,∀ρ,i ρ->(p a/\T0 G F (rep a) ρ=.ok (.rt x))\/(¬p a/\∃ρ2,T0 G F (rep a) ρ=.ok (.nx ρ2)/\i ρ2))->((∃a∈l,p a)/\R8 G F (l.map rep) ρ=.ok (.rt x))\/(¬(∃a∈l,p a)/\∃ρ2,R8 G F (l.map rep) ρ=.ok (.nx ρ2)/\Iv ρ2)
 |[],ρ,h,_=>.inr ⟨by rintro⟨a,q,_⟩;exact(by cases q),ρ,rfl,n ρ h⟩
 |a::l,ρ,h,r=>by
  have s:∀{o},T0 G F (rep a) ρ=.ok o->∃d,G (rep a) ρ=.ok d/\F d=.ok o:=λ{o} e=>by
   unfold T0 at e;cases f:G (rep a) ρ with
   |ok d=>rw[f]at e;exact⟨d,rfl,e⟩
   |ex z=>rw[f]at e;cases e
   |bad=>rw[f]at e;cases e
  rcases r a (.head _) ρ h with⟨j,e⟩|⟨j,ρ2,e,u⟩
  .obtain⟨d,f,k⟩:=s e;exact .inl ⟨⟨a,.head _,j⟩,iH f k⟩
  .obtain⟨d,f,k⟩:=s e;rw[aAr,T6 f k];rcases qJ rep p i n l ρ2 u (λb g=>r b (.tail _ g))with⟨⟨b,g,q⟩,m⟩|⟨q,m⟩
   .exact .inl ⟨⟨b,.tail _ g,q⟩,m⟩
   .exact .inr ⟨by
     rintro⟨b,g,t⟩;cases g with
     |head=>exact j t
     |tail _ g=>exact q ⟨b,g,t⟩,m⟩
def WE {α:Type}{G:D->Ev->R Ev}{F g:Ev->R Out}{x d:D}{l:List α}{ρ:Ev}(rep:α->D)(p:α->Prop)(b:Ev->Prop)(h:b ρ)(j:∀a∈l,∀ρ,b ρ->(p a/\T0 G F (rep a) ρ=.ok (.rt x))\/(¬p a/\∃ρ2,T0 G F (rep a) ρ=.ok (.nx ρ2)/\b ρ2))(f:(∃a∈l,p a)->x=d)(no:¬(∃a∈l,p a)->∀i,b i->M6 (g i)=.ok d):M6 (C4 (R8 G F (l.map rep) ρ) g)=.ok d:=by
 rcases qJ (Iv:=b) rep p b (λ_ h=>h) l ρ h j with⟨q,e⟩|⟨q,ρ2,e,k⟩
 .rw[e,<-f q];rfl
 .rw[e];exact no q ρ2 k
def OR (J:List G.V):C3 (J.map vd)<=5:=by
 induction J with
 |nil=>simp[C3]
 |cons v l a=>rw[aAr,C3];simp[A9,C3]at a⊢;lia
def SW (J:List G.V):BC (.lst (J.map vd)) (.lst [])=.ok (.bl (!J.isEmpty)):=by have:=OR J;unfold BC;rw[h9 ⟨by rw[A9];lia,by simp[A9,C3]⟩];cases J<;>simp[u8,X4]
def ZT (W:List G.V)(u v:G.V):Prop:=G.cr u v≠0/\∃w∈W,G.b9 (G.cr u v) w≠0
def ZK (W:List G.V)(u:G.V):Prop:=∃v∈W,ZT W u v
def VH {P:G.V}{ps:List G.V}(h:∃u∈(P::ps).map (· -P),ZK ((P::ps).map (· -P)) u):jP (P::ps)=P::ps:=by unfold jP;rw[h9];obtain⟨u,d,v,e,c,w,f,q⟩:=h;obtain⟨u,g,rfl⟩:=aAi.mp d;obtain⟨v,a,rfl⟩:=aAi.mp e;obtain⟨w,b,rfl⟩:=aAi.mp f;exact(G.qL<|.head _).mpr ⟨u,g,v,a,c,w,b,q⟩
def ZX {P:G.V}{ps:List G.V}(h:¬∃u∈(P::ps).map (· -P),ZK ((P::ps).map (· -P)) u):jP (P::ps)=(P::ps)++[⟨P.x+1,P.y,P.z⟩,⟨P.x,P.y+1,P.z⟩,⟨P.x,P.y,P.z+1⟩]:=by unfold jP;rw[ib];intro s;obtain⟨u,b,v,d,c,w,e,q⟩:=(G.qL<|aAN (a:=P)).mp s;exact h ⟨_,aBq b,_,aBq d,c,_,aBq e,q⟩
def KB {J:List G.V}(h:J≠[]):G.j2 (jP J):=by
 match J,h with
 |P::r,_=>
  unfold jP;split
  .assumption
  .exact G.yJ P (.head _)
def GZ {J:List G.V}(h:J≠[])(a:∀p∈J,Sz 300 p)(b:J.length<=1000):cO [.lst (J.map vd)]=.ok (.lst ((jP J).map vd)):=by simp only[cO,q9];exact h9 ⟨h,a,b⟩
def PV {J:List G.V}(d:∀p∈J,Sz 40 p):(∀p∈jP J,Sz 41 p)/\(jP J).length<=J.length+3:=by
 unfold jP;split
 .exact⟨λp a=>(d p a).mono,by lia⟩
 .match J,d with
  |[],d=>exact⟨λp a=>(nomatch a),aAX _⟩
  |P::r,d=>
   refine⟨λp a=>?_,by simp⟩;have b:=d P (.head _);have m:∀{i:Int},bits i<=40->bits i<=41:=λh=>j7 h (by lia);have e:∀{i:Int},bits i<=40->bits (i+1)<=41:=λh=>bits_add h (show bits 1<=40 by decide);rcases aAU.mp a with a|a
   .exact(d p a).mono
   .simp only[aAd,aAD,or_false]at a;rcases a with rfl|rfl|rfl
    .exact⟨e b.1,m b.2.1,m b.2.2⟩
    .exact⟨m b.1,e b.2.1,m b.2.2⟩
    .exact⟨m b.1,m b.2.1,e b.2.2⟩
end M
namespace DL
open PySem PySem.Spec L2
open PyProof.Rows hiding St st
variable [Tabs]
section
end
end DL
namespace SD
open PySem
section
variable{prog:be} {w:cp} {A:cf} {E:A4} {s:a9} {d it:bb} {es:Array DictEntry} {ep i:Nat}
end
section
variable{prog:be} {w:cp} {A:cf} {E:A4} {s:a9} {d:bb} {es:Array DictEntry} {ep:Nat}
end
end SD
namespace DL
open PySem PySem.Spec L2
open PyProof.Rows hiding St
section
def UG (d:D):Bool:=S7 d&&(flat d).length==3
def qX:D->Bool
 |.tup [p,q]=>UG p&&UG q
 |_=>false
def X3:D->List Int
 |.tup [p,q]=>flat p++flat q
 |_=>[]
def mQ (h:UG d=true):S7 d=true/\(flat d).length=3:=by unfold UG at h;rw[aAJ,beq_iff_eq]at h;exact h
def kB (h:qX d=true):∃p q,d=.tup [p,q]/\S7 p=true/\S7 q=true/\(flat p).length=3/\(flat q).length=3:=by
 unfold qX at h;split at h
 .rw[aAJ]at h;exact⟨_,_,rfl,(mQ h.1).1,(mQ h.2).1,(mQ h.1).2,(mQ h.2).2⟩
 .cases h
def uR (h:qX d=true):mN d=true:=by obtain⟨p,q,rfl,a,b,_⟩:=kB h;simp[mN,eZ,A8 a,A8 b]
def xL (h:S7 d=true):A9 d<=3:=by
 rw[(cG h).2,A9];have:∀l:List Int,C3 (l.map D.int)<=2:=λl=>by
  induction l with
  |nil=>simp[C3]
  |cons i l a=>rw[aAr,C3];simp[A9];lia
 have:=this (flat d)
 lia
def TL (h:qX d=true):A9 d<8:=by
 obtain⟨p,q,rfl,a,b,_⟩:=kB h;have:=xL a;have:=xL b;simp only[A9,C3]
 lia
theorem GE {b e:List Int}:∀{a c:List Int},a.length=c.length->HT.lexLt (a++b) (c++e)=if a=c then HT.lexLt b e else HT.lexLt a c
 |[],[],_=>by simp
 |x::a,y::c,h=>by
  have g:=GE (b:=b) (e:=e) (a:=a) (c:=c) (by simpa using h);rw[aBh,aBh,HT.lexLt_cons,HT.lexLt_cons,g];by_cases d:x=y
  .subst d;by_cases f:a=c
   .simp[f]
   .simp[f]
  .simp[d]
variable [Tabs]
def SR (h:cq) (v:ae):List Int:=open Classical in if p:∃d,qX d=true/\HV h v d then X3 p.choose else[]
def wI (b:qX d=true)(a:HV h v d):SR h v=X3 d:=by unfold SR;have q:∃d,qX d=true/\HV h v d:=⟨d,b,a⟩;rw[dif_pos q,HV.inj q.choose_spec.2 a]
def vG (e:qX d=true)(f:HV h v d):∃b u w p q,v=.ref b/\IsTup h b #[u,w]/\d=.tup [p,q]/\HV h u p/\HV h w q/\S7 p=true/\S7 q=true/\(flat p).length=3:=by
 obtain⟨p,q,rfl,g,i,j,_⟩:=kB e;cases f with
 |@tup b a _ t r=>
  obtain⟨l⟩:=a;have r:HVs h l [p,q]:=r;cases r with
  |cons k r=>
   cases r with
   |cons m r=>cases r;exact⟨_,_,_,_,_,rfl,t,rfl,k,m,g,i,j⟩
def YW {prog:be}{w:cp}{A:cf}{E:A4}{s:a9}{x y:ae}{d e:D}{Q:wO}(hA:A.units+8<dg)(H:qX d=true)(I:qX e=true)(J:HV s.heap x d)(L:HV s.heap y e)(q:Q (HT.lexLt (X3 d) (X3 e)) s):ag (bc prog w) A (keyLt' (TS.tupK false) x y) Q E s:=by
 obtain⟨b,u,w1,p,a,rfl,N,rfl,v1,B,i,j,O⟩:=vG H J;obtain⟨b',u',T,r,f,rfl,k,rfl,g,h,l,C,U⟩:=vG I L;obtain⟨c1,i1,rfl,Y,m⟩:=G6 i v1;obtain⟨c2,i2,rfl,s2,n⟩:=G6 l g;obtain⟨c3,i3,rfl,s3,o⟩:=G6 j B;obtain⟨c4,i4,rfl,s4,t⟩:=G6 C h;have d1:=mK i;have d2:=mK j;refine TS.lt_two (e1:=u8 p r) (e2:=u8 a f) (b1:=HT.lexLt (flat p) (flat r)) (b2:=HT.lexLt (flat a) (flat f)) N k rfl (sD v1 g (by lia)) (λ_=>TS.oneLt_tup Y s2 m n (by lia)) (λ_=>sD B h (by lia)) (λ_ _=>TS.oneLt_tup s3 s4 o t (by lia)) ?_;have v:(bif u8 p r then(bif u8 a f then false else HT.lexLt (flat a) (flat f))else HT.lexLt (flat p) (flat r))=HT.lexLt (flat p++flat a) (flat r++flat f):=by
  rw[GE (by rw[O,U])];cases z:u8 p r with
  |true=>
   have ep:=bM (A8 i) (A8 l) z;subst ep;rw[h9 rfl];cases z2:u8 a f with
   |true=>have eq:=bM (A8 j) (A8 C) z2;subst eq;exact(TS.lex_irrefl _).symm
   |false=>rfl
  |false=>
   rw[ib λc=>?_]
   .rfl
   .have:=cT i l c;subst this;rw[M3]at z;cases z
 rw[v];exact q
def OX {prog:be}{w:cp}{A:cf}{E:A4}{s:a9}{vs:List ae}{Q:SortKind->a9->Prop}(h:∀x∈vs,∃d,qX d=true/\HV s.heap x d)(j:2<=vs.length)(q:Q (TS.tupK false) s):ag (bc prog w) A (keyKind' vs.toArray) Q E s:=by
 have k:∀x∈vs,∃p,∃b a,x=.ref b/\IsTup s.heap b a/\a[0]?=some p/\s.TypeIs p "tuple":=λx e=>by obtain⟨d,l,m⟩:=h x e;obtain⟨b,u,y,p,B,rfl,n,rfl,v1,C,o,_⟩:=vG l m;obtain⟨H,I,rfl,⟨r,t,g,_⟩,v⟩:=G6 o v1;exact⟨_,b,_,rfl,n,rfl,⟨r,t,g⟩⟩
 obtain⟨f,i⟩:∃f:ae->ae,∀x∈vs,∃b a,x=.ref b/\IsTup s.heap b a/\a[0]?=some (f x)/\s.TypeIs (f x) "tuple":=by refine⟨λx=>open Classical in if z:x∈vs then(k x z).choose else .none,λx e=>?_⟩;dsimp only;rw[dif_pos e];exact(k x e).choose_spec
 exact TS.kind_tuples (T:= "tuple") f i (λz=>by rw[z]at j;simp at j) (by decide) q
def SK (h:qX d=true)(h':qX e=true)(k:X3 d=X3 e):d=e:=by obtain⟨p,q,rfl,f,g,i,s⟩:=kB h;obtain⟨j,l,rfl,m,n,o,r⟩:=kB h';have k:flat p++flat q=flat j++flat l:=k;obtain⟨a,b⟩:=List.append_inj k (by rw[i,o]);rw[cT f m a,cT g n b]
open Classical in
def vJ (ds:List D):List D:=ds.foldr (λd l=>if d∈l then l else d::l) []
def iO {ds:List D}{d:D}:d∈vJ ds↔d∈ds:=by
 unfold vJ;induction ds with
 |nil=>exact Iff.rfl
 |cons e ds a=>
  rw[List.foldr_cons,aAd,<-a];split
  .rename_i h;exact⟨.inr,λz=>z.elim (λq=>q▸h) id⟩
  .exact aAd
def jM (ds:List D):(vJ ds).Nodup:=by
 unfold vJ;induction ds with
 |nil=>exact .nil
 |cons e ds a=>
  rw[List.foldr_cons];split
  .exact a
  .rename_i h;exact aAE.mpr ⟨h,a⟩
def nS {ds:List D}(h:∀d∈ds,qX d=true)(b:ds.Nodup):(ds.map X3).Nodup:=by
 induction ds with
 |nil=>exact .nil
 |cons e ds f=>obtain⟨g,i⟩:=aAE.mp b;rw[aAr];refine aAE.mpr ⟨λz=>?_,f (λd a=>h d (.tail _ a)) i⟩;obtain⟨d,a,k⟩:=aAi.mp z;exact g (SK (h d<|.tail _ a) (h e<|.head _) k▸a)
def QL:D->R (List D)
 |.lst a=>if a.all qX=true/\(vJ a).length<=63 then .ok (bY X3 (vJ a))else .bad
 |_=>.bad
def rH {p N cb:Pos}{f:Ev->R D}(ha:PB X e f)(hh:X.calm=true)(hu:X.A.units+300<dg)(hg:Gl X "set":=by rfl)(hm:X.mg "set"=none:=by assumption)(zi:Gl X "sorted":=by rfl)(ki:X.mg "sorted"=none:=by assumption)
  (hv:cv "set"=some (.type "set"):=by decide+kernel) (hv2:cv "sorted"=some (.builtin "sorted"):=by decide+kernel)
  (he:ar [e] X.env=(false,dm e X.env)::ar [] X.env:=by rfl) (bo:(cz cb (ar [] X.env)).any (·.1)=false:=by rfl)
  (kn:ar [.Call (.Name "set" N) [e] [] cb] X.env=(false,dm (.Call (.Name "set" N) [e] [] cb) X.env)::ar [] X.env:=by rfl) (uo:(cz pos (ar [] X.env)).any (·.1)=false:=by rfl):
  PF X (.Call (.Name "sorted" p) [.Call (.Name "set" N) [e] [] cb] [] pos) (λρ=>(f ρ).bind QL):=by
 refine wN λpins s σ H Q I H9 O0 O ρ E q=>?_;dsimp only at q;refine aAW (M1 I zi ki hv2 ?_ (by decide) (by decide));have qc:PA X [.Call (.Name "set" N) [e] [] cb] _:=K3 (EG (p:=N) (B:=qX) (U:=vJ) (λh=>⟨uR h,TL h,by obtain⟨p,q,rfl,_⟩:=kB h;exact⟨_,rfl⟩⟩) (λ_ d=>iO) ha hh hu hg hm hv he bo) bJ kn;refine aBQ (F7 (qc pos pins s σ H (λvs H2=>∃S o es i g m,vs=[.ref S]/\H2=upd m S (.frz o (.own S))/\f ρ=.ok (.lst g)/\(g.all qX=true/\(vJ g).length<=63)/\Same H m/\m S=none/\cj X.w o es/\v9 X.K m O es i/\i.Nodup/\(∀d,d∈i↔d∈g)) I ⟨H9,O0,O,ρ,E,?_⟩)
  λus s1 z=>?_) kn uo
 .cases e1:f ρ with
  |ex z=>rw[e1]at q;exact q
  |bad=>rw[e1]at q;exact q.elim
  |ok d=>
   rw[e1,R.aa0]at q;cases d with
   |lst g=>
    simp only[QL]at q;by_cases hc:g.all qX=true/\(vJ g).length<=63
    .exact⟨hc,λS o es i m sm hS so st nd T=>⟨S,o,es,i,g,m,rfl,rfl,rfl,hc,sm,hS,so,st,nd,T⟩⟩
    .rw[ib hc]at q;exact q.elim
   |_=>exact q.elim
 .obtain⟨vs,H2,I2,r1,S,o,es,i,g,m,ev,eH,ef,⟨hp,wc⟩,sm,hS1,so,st,nd,T⟩:=z;subst ev eH;obtain⟨u,rfl,ru⟩:=vals1 r1;cases ru;rw[ef,R.aa0]at q;simp only[QL]at q;rw[h9 ⟨hp,wc⟩]at q;have pr:∀d∈g,qX d=true:=aBE.mp hp;have r:∀d∈i,qX d=true:=λd j=>pr d ((T d).mp j);have s12:Same m (upd m S<|.frz o (.own S)):=j8 hS1 _;have ku:=st.same s12;obtain⟨hc,ea,ep,t,j,hf,hpln,led,asc,ees⟩:=so;have goS:=(I2.hok S _ j3).1;have hS2:SI.IsSet s1.heap S ea ep t:=⟨o,goS,hc.1,j⟩;have ze:(vJ g).Perm i:=by
   letI:DecidableEq D:=λa b=>aDf _
   exact(aCM (jM g) nd).mpr λd=>by rw[iO,T]
  have hsz:ea.size=i.length:=by have:=st.length;rw[<-ees]at this;simpa using this
  have h63':i.length<=63:=by rw[<-ze.length_eq];exact wc
  have wp:=SI.walkL_perm X.w S ea ep;have wpv:((SI.walkL X.w S ea ep).map (·.2)).Perm es:=by rw[<-ees];exact wp.map _
  have J:∀u∈(SI.walkL X.w S ea ep).map (·.2),∃d,d∈i/\qX d=true/\HV s1.heap u d:=λu hu=>by obtain⟨d,j,v,rv,rp⟩:=ku.get (wpv.mem_iff.mp hu);exact⟨d,j,r d j,V6 I2 rp (uR<|r d j) rv⟩
  refine TS.sorted_keys (vs:=(SI.walkL X.w S ea ep).map (·.2)) (f:=false) (key:=SR s1.heap) (C:=λs'=>∃h' Y,s'={s1 with heap:=h',toks:=Y}/\∀b o,s1.heap.get? b=some o->h'.get? b=some o)
   (λ{Q'} hq=>SI.collect_set (by simp[I2.ok.hd hh]) hS2 hf hpln (λnb=>by rw[led];simpa using nb) asc (by rw[hsz];exact aAs h63' (by decide)) λh' Y k=>hq _ ⟨h',Y,rfl,k⟩)
   (λs' ⟨h',Y,L,k⟩ s6 k6 x hx y hy prog w A E hA {Q} qq=>?_) (λh2 s' ⟨h',Y,L,k⟩ s6 k6 A {Q} qq=>?_) (by rw[aAj,wp.length_eq,aBd,hsz];lia) λs' ie h' l ⟨h1,Y,L,k⟩ pm srt k2 hl ⟨n,gl⟩=>?_
  .subst L;obtain⟨d,_,pd,vv⟩:=J x hx;obtain⟨d',_,pd',yb⟩:=J y hy;rw[wI pd vv,wI pd' yb]at qq;exact YW (by lia) pd pd' (vv.keeps λb o e _=>k6 b o (k b o e)) (yb.keeps λb o e _=>k6 b o (k b o e)) qq
  .subst L;refine OX (λx hx=>?_) h2 qq;obtain⟨d,_,pd,vv⟩:=J x hx;exact⟨d,pd,vv.keeps λb o e _=>k6 b o (k b o e)⟩
  .subst L;obtain⟨qe,N,st3⟩:=Y4 (pm.trans wpv) ku;have hk:∀u d,(∃v,RelV v u/\Rep X.K (upd m S<|.frz o (.own S)) O v d)->d∈i->SR s1.heap u=X3 d:=by rintro u d ⟨v,rv,rp⟩ j;exact wI (r d j) (V6 I2 rp (uR<|r d j) rv)
   have nd1:=nS r nd;have qf:(qe.map X3).Nodup:=(N.map X3).nodup_iff.mpr nd1;have yc:pI X3 qe:=DW (R:=λu d=>∃v,RelV v u/\Rep X.K (upd m S<|.frz o (.own S)) O v d) st3 srt qf λu d h j=>hk u d h (N.mem_iff.mp j);have nd3:((vJ g).map X3).Nodup:=(ze.map X3).nodup_iff.mpr nd1;have e2:qe=bY X3 (vJ g):=dS yc (aO nd3) (N.trans<|ze.symm.trans (G0 X3<|vJ g).symm);subst e2;obtain⟨wv,mo,ou⟩:=v9.ac3 st3;have I2':=I2.kept (h':=h1) (t':=Y) k;have I3:=I2'.laid (a:=l) (o:=.lst wv) (h':=h') (t':=Y) k2 hl ⟨by rw[ou.length,(G0 X3<|vJ g).length_eq];exact aAs wc (by decide),ie,n,mo,gl⟩;exact⟨.ref l,_,I3,rfl,q wv _ l (sm.trans s12) (I2'.hok.fresh hl) ou⟩
end
section
variable [Tabs]
end
end DL
namespace DL
open PySem L2
section
variable [Tabs]
end
end DL
namespace M
open PySem L2 DL
variable [Tabs]
def ZU {l:List Int}{P:G.V}(h:bQ l)(a:Sz 50 P):Sz 300 ((rM l).put P):=by
 have g:∀k,bits (l.getD k 0)<=100:=λk=>by
  rw[aAl];cases e:l[k]? with
  |none=>exact(show bits 0<=100 by decide)
  |some i=>exact h.2 i (aAu e)
 have f:bits (P.x+l.getD 0 0*P.y)<=151:=bits_add (j7 a.1 (by decide)) (bits_mul (g 0) a.2.1);have m:bits (P.y+l.getD 1 0*P.z)<=151:=bits_add (j7 a.2.1 (by decide)) (bits_mul (g 1) a.2.2);have j:bits (P.z+l.getD 2 0*(P.x+l.getD 0 0*P.y))<=252:=bits_add (j7 a.2.2 (by decide)) (bits_mul (g 2) f);have ad:∀{x:Int} (k:Nat),bits x<=252->bits (x+l.getD k 0)<=300:=λk h=>j7 (bits_add h (j7 (g k) (by decide))) (by decide);have b:=j7 f (show 151<=252 by decide);have d:=j7 m (show 151<=252 by decide);unfold rM G.Sl.put;dsimp only;split
 .exact⟨ad 3 d,ad 4 b,ad 5 j⟩
 .exact⟨ad 3 b,ad 4 d,ad 5 j⟩
def HS (s:G.Sl){J:List G.V}(h:G.j2 J):G.j2 (J.map s.put):=G.NC s.unit (λX a=>by rw[<-s.ae4];exact aBq a) h
def fd4 (f:G.V×Int):D:=fX f.1 f.2
def WN (N:List (D×D)):List D:=N.map (·.1)
def Cov (S:List G.V)(N:List (D×D))(i j k:Nat):Prop:=∀A B C,S[i]?=some A->S[j]?=some B->S[k]?=some C->(G.Up S A B C->fd4 (G.j6 A B C)∈WN N)/\(G.Dn S A B C->fd4 (G.j6 A C B)∈WN N)
def TJ (S:List G.V)(N:List (D×D))(i j k:Nat):Prop:=∀b a d,b<a->a<d->(b<i\/(b=i/\(a<j\/(a=j/\d<k))))->Cov S N b a d
def XM {r:R Out}{ρ:Ev}{F:Ev->R Out}{x:R Out}(a:r=.ok (.nx ρ))(b:F ρ=x):C4 r F=x:=by rw[a];exact b
def fR {S:List G.V}{i:Nat}{A:G.V}(h:S[i]?=some A):J1 (.lst (S.map vd)) (.int (i:Int))=.ok (vd A):=N1 (by rw[V2 (by lia),aBZ,aAI,h];rfl)
def JZ {α:Type}{l:List α}(d:l.Nodup):2<l.length↔∃a b c,a∈l/\b∈l/\c∈l/\a≠b/\a≠c/\b≠c:=by
 constructor
 .intro h;match l,h,d with
  |a::b::c::l,_,d=>
   refine⟨a,b,c,by simp,by simp,by simp,?_,?_,?_⟩
   .rintro rfl;simp at d
   .rintro rfl;simp at d
   .rintro rfl;simp at d
 .rintro⟨a,b,c,k,n,o,f,g,i⟩
  classical
  have j:[a,b,c].Nodup:=by simp[f,g,i]
  have:=G.q8 j (m:=l) λv e=>by simp only[aAd,aAD,or_false]at e;rcases e with rfl|rfl|rfl<;>assumption
  exact this
def AS (a b c d:Int):Int:=(a+(b+(c+d))).fdiv 4
def bx (A B C E:G.V):G.V:=⟨AS A.x B.x C.x E.x,AS A.y B.y C.y E.y,AS A.z B.z C.z E.z⟩
def AO {cs:List G.V}(h:G.j2 cs):4<=cs.length:=by
 obtain⟨A,d,B,f,C,g,E,i,e⟩:=h;have b:[A,B,C,E].Nodup:=by simp only[aAE,aAd,aAD,or_false,not_or,aCP,not_false_eq_true,and_true];refine⟨⟨?_,?_,?_⟩,⟨?_,?_⟩,?_⟩<;>rintro rfl<;>apply e<;>simp[G.f8,G.b9,G.cr]<;>grind
 exact G.q8 b (m:=cs) λv a=>by simp only[aAd,aAD,or_false]at a;rcases a with rfl|rfl|rfl|rfl<;>assumption
def NB {L:List G.V}{A c:G.V}(g:c≠0)(h:∀X∈L,G.b9 c (X-A)=0):¬G.j2 L:=by
 rintro⟨P,f,Q,i,R,j,S,k,e⟩;have d:∀{X Y:G.V},X∈L->Y∈L->G.b9 (X-Y) c=0:=λ{X Y} l m=>by
  have a:=h X l;have b:=h Y m;have:G.b9 (X-Y) c=G.b9 c (X-A)-G.b9 c (Y-A):=by simp[G.b9];grind
  lia
 exact g (G.P8 e (d i f) (d j f)<|d k f)
end M
namespace HT
open PySem PyProof.Rows
section
open PySem.SeqAt
open PySem.AutoSeq1 (wpAny_loadPart')
open PySem.MeetsSeq PySem.MeetsSeq2 PySem.MeetsSeq3
def QA (A:cf)(s:a9)(a:Int)(t:Tok)(c:Int)(u:Tok)(prog:be)(w:cp)(E:A4)(Q:A4)(h:Q (.bool (decide (c<a))) s):
  ag (bc prog w) A (gy .Gt (.int a t) (.int c u)) Q E s:=
 (PyProof.Rows.gt_int h:ag (bc prog w) A (dA .Gt (.int a t) (.int c u)) Q E s)
def rO (l b:bb)(items m:Array ae)(n n2:Nat)(dd ua:Option bb)(sl qu:Array (Option ae))(ns z:List Int)(Q:IntsAre items.toList ns)(T:IntsAre m.toList z):
  Meets (Builtin.«tuple.__gt__» ⟨[.ref l,.ref b],[]⟩)
   (λ_ R s=>s.heap.get? l=some {cls:=.type "tuple",dict:=dd,data:=.seq items n,slots:=sl}/\s.heap.get? b=some {cls:=.type "tuple",dict:=ua,data:=.seq m n2,slots:=qu}/\
    R (.ok (.ret (.bool (lexLt z ns)))) s):=
 .of_wp λj w A R s h=>by
  obtain⟨B,g,d,C,os⟩:=s;obtain⟨hl,hb,h⟩:=h;have f2:=aFq;have z1:items.size=ns.length:=by rw[<-Q.length];simp
  have z2:m.size=z.length:=by rw[<-T.length];simp
  wp_walk using aDy hl,aDy hb,aCh _ (λrest b J=>b.1=none/\J=⟨B,g,d,C,os⟩/\∃(E H:List ae) (o p:List Int),rest=E.zip H/\
   IntsAre E o/\IntsAre H p/\o.length+m.size=p.length+items.size/\R (.ok (.ret (.bool (lexLt p o)))) ⟨B,g,d,C,os⟩) _
  case turn=>
   rintro⟨y,x⟩ rest b J ⟨L,rfl,E,H,o,p,i,N,I,f,k⟩;cases N with
   |nil=>rw[aFr]at i;cases i
   |cons a t r=>
    cases I with
    |nil=>rw[aFc]at i;cases i
    |cons c u v=>
     rw[aBK]at i;injection i with yg ah;injection yg with hy hx;subst hy hx;rw[lexLt_cons]at k;simp only[aAt]at f;obtain⟨e,he,U⟩:=oI A.in1 ⟨B,g,d,C,os⟩ a t c u;refine aAa (he j w _ _ ?_);cases e with
     |true=>
      rw[h9 (U.mp rfl).symm]at k
      wp_walk
      exact⟨rfl,rfl,_,_,_,_,ah,r,v,by lia,k⟩
     |false=>
      rw[ib (λq=>absurd (U.mpr q.symm) aBb)]at k;have O:=QA A.in1 ⟨B,g,d,C,os⟩ a t c u j w
      wp_walk using O
      exact⟨_,rfl,by simpa using k⟩
  case fin=>
   rintro⟨b1,b2⟩ J ⟨L,rfl,E,H,o,p,i,N,I,f,k⟩;simp only at L;subst L;have Y:lexLt p o=decide (m.size<items.size):=by
    cases N with
    |nil=>
     cases I with
     |nil=>simp only[aBo]at f;rw[lexLt_nil_nil];exact(decide_eq_false (by lia)).symm
     |cons c u hw=>simp only[aBo,aAt]at f;rw[z8];exact(decide_eq_false (by lia)).symm
    |cons a t Y=>
     cases I with
     |nil=>simp only[aBo,aAt]at f;rw[E9];exact(decide_eq_true (by lia)).symm
     |cons c u hw=>rw[aBK]at i;cases i
   rw[Y]at k
   wp_walk
   exact⟨_,rfl,by simpa[aEg]using k⟩
  case h=>exact⟨rfl,rfl,items.toList,m.toList,ns,z,rfl,Q,T,by lia,h⟩
end
section
variable{prog:be} {w:cp} {A:cf} {E:A4} {s:a9}
def gt_tupInts {Q:A4}(o:IsTup s.heap l items)(p:IsTup s.heap b e)(q:IntsAre items.toList ns)(r:IntsAre e.toList d)(t:A.units<dg)(h:Q (.bool (lexLt d ns)) s):ag (bc prog w) A (dA .Gt (.ref l) (.ref b)) Q E s:=by
 obtain⟨⟨u,v,f,y⟩,g,i,n,j⟩:=id o;obtain⟨⟨H,z,data2,B⟩,k,m,C,a⟩:=id p;simp only at i j m a;subst i j m a;exact richCompare_meets_room (op:=.Gt) ⟨_,g,rfl⟩ ⟨_,k,rfl⟩ PySem.F.slot_tuple_gt PySem.F.entry_tuple_gt (PySem.F.args_tuple_gt_2 _ _) (rO l b items e n C v z y B ns d q r)
  ⟨g,k,show aDk (lexLt d ns)≠aGb/\Q (.bool (lexLt d ns)) s from⟨(λx=>nomatch x),h⟩⟩ t
end
end HT
namespace DL
open PySem PySem.Spec L2
open PyProof.Rows hiding St
variable [Tabs]
def gtI (ds:List D)(i j:Nat):Bool:=HT.lexLt (flat<|ds.getD j .non) (flat<|ds.getD i .non)
def nB:List D->R D
 |[.tup a]=>if a≠[]/\a.all S7=true then .ok (a.getD (cy (NJ a) (a.length-1)) .non)else .bad
 |_=>.bad
def oV:List D->R D
 |[.tup a]=>if a≠[]/\a.all S7=true then .ok (a.getD (cy (gtI a) (a.length-1)) .non)else .bad
 |_=>.bad
def tU {op:CmpOp}{bt:Nat->Nat->Bool}{p:bb}{ws:List V}{Y:List D}{E:A4}{Q:VK}(hc:X.calm=true)(hu:X.A.units+300<dg)(I:Inv X t σ H s)(h1:U4 X.K H p ws)(h2:Reps X.K H O ws Y)(af:Y≠[])(hp:Y.all S7=true)
  (L:∀{i j:Nat} {s:a9} {l b:bb} {it u:Array ae} {E:A4} {N:A4},IsTup s.heap l it->IsTup s.heap b u->IntsAre it.toList (flat (Y.getD i .non))->IntsAre u.toList (flat (Y.getD j .non))->N (.bool (bt i j)) s->ag (bc X.prog X.w) X.A.in1 (gy op (.ref l) (.ref b)) N E s)
  (q:∀v,Rep X.K H O v (Y.getD (cy bt (Y.length-1)) .non)->Q v H):
  ag (bc X.prog X.w) X.A.in1 (pyIter (.ref p)) (λit T=>∃I fp wr G n P St Hs bt,it=.ref I/\WalksS X.prog X.w X.A.in1 I fp wr G n P St/\St 0 T/\(∀b∈fp,b<T.heap.objs.size)/\0<n/\(∀i s,St i s->Hs s.heap)/\MM.CmpOn X.prog X.w X.A.in1 op Hs P bt/\∀v s',P (cy bt (n-1)) v->Moved wr G T s'->EP X t σ Q v s') E s:=by
 have pt:∀d∈Y,S7 d=true:=aBE.mp hp;obtain⟨f,x,U,zL⟩:=I.tuple h1;obtain⟨oL,gL,cL,nL,dL⟩:=id U;have st:v9 X.K H O f Y:=v9.of x h2;have m:f.toArray.size=Y.length:=by rw[aAn,<-x.length,h2.length]
 have sv:0<Y.length:=aDR.mpr af;have W:=MM.walks_more (Walks.tuple (prog:=X.prog) (w:=X.w) (A:=X.A.in1) (by simp[I.ok.hd hc]) s.heap.objs.size p (aAm<|aAf gL) f.toArray) (jF s.heap f)
  (λq r=>by simp only[aAV];exact aAm (aAf<|O8 r))
 refine wpAny_pyIter_tuple U ⟨s.heap.objs.size,_,_,_,f.toArray.size,_,_,λh=>∀q∈jF s.heap f,h.get? q.1=some q.2,bt,rfl,W.toS,⟨⟨⟨_,aAp _ rfl,rfl,rfl⟩,U.push _⟩,λq r=>aAc _ (O8 r)⟩,λb k=>?_,by rw[m];exact sv,λi s h=>h.2,λi j vi vj s' N E2 hh y hj r=>?_,λv s' B C=>?_⟩
 .rw[aBw];rcases aAU.mp k with k|k
  .rcases aAd.mp k with rfl|k
   .exact aDi _
   .rcases aAd.mp k with rfl|k
    .exact aBg (aAf gL)
    .cases k
  .obtain⟨q,r,rfl⟩:=aAi.mp k;exact aBg (aAf<|O8 r)
 .have one:∀i v,f.toArray[i]?=some v->∃b a,v=.ref b/\IsTup s'.heap b a/\IntsAre a.toList (flat<|Y.getD i .non):=λi v y=>by
   rw[aBY]at y;obtain⟨d,J,w,mo,rp⟩:=A7 st y;have oh:Y.getD i .non=d:=by rw[aAl,J];rfl
   rw[oh];have z:=pt d (aAu J);obtain⟨b,a,rfl,⟨o,g,c,n,dd⟩,hia⟩:=G6 z (V6 I rp (A8 z) mo);exact⟨b,a,rfl,⟨o,hh _ (pB (aAu y) g),c,n,dd⟩,hia⟩
  obtain⟨b,a,rfl,t1,i1⟩:=one i vi y;obtain⟨b',um,rfl,t2,i2⟩:=one j vj hj;exact L t1 t2 i1 i2 r
 .have B:f.toArray[cy bt (f.toArray.size-1)]?=some v:=B;rw[aBY,m]at B;obtain⟨d,J,w,mo,rp⟩:=A7 st B;have oh:Y.getD (cy bt<|Y.length-1) .non=d:=by rw[aAl,J];rfl
  rw[oh]at q;have I2:=I.kept (h':=s'.heap) (t':=s'.toks) λb o e=>C.heap b o (by simp only[aAV];exact aAm (aAf e)) (aAc _ e);have es:s'={s with heap:=s'.heap,toks:=s'.toks}:=by have g1:=C.gens;have g2:=C.drawn;have g3:=C.os;cases s';simp only at g1 g2 g3;subst g1 g2 g3;rfl
  rw[es];exact⟨w,_,I2,mo,q _ rp⟩
def UL (g:X.calm=true)(h:X.A.units+300<dg):Y3 X (.builtin "min") nB:=by
 intro H O b i Q J r q;match i,q with
 |[.tup Y],q=>
  obtain⟨v,rfl,z⟩:=AY r;obtain⟨p,L,rfl,j,k⟩:=z.tupI;simp only[nB]at q;by_cases a:Y≠[]/\Y.all S7=true
  .rw[h9 a]at q;refine⟨λb d e=>b=[.ref p]/\d=H/\e=Q,λf s σ d l N e I m ⟨n,o,t⟩=>?_,rfl,rfl,rfl⟩;subst n o t;obtain⟨u,rfl,w⟩:=vals1 m;cases w;exact MM.call_minH (tU (op:=.Lt) (bt:=NJ Y) g h I j k a.1 a.2 (λx y B C E=>HT.lt_tupInts x y B C (by rw[t7];lia) E) λv r=>q _ _ (Same.refl _) r)
  .rw[ib a]at q;exact q.elim
def TZ (g:X.calm=true)(h:X.A.units+300<dg):Y3 X (.builtin "max") oV:=by
 intro H O b i Q J r q;match i,q with
 |[.tup Y],q=>
  obtain⟨v,rfl,z⟩:=AY r;obtain⟨p,L,rfl,j,k⟩:=z.tupI;simp only[oV]at q;by_cases a:Y≠[]/\Y.all S7=true
  .rw[h9 a]at q;refine⟨λb d e=>b=[.ref p]/\d=H/\e=Q,λf s σ d l N e I m ⟨n,o,t⟩=>?_,rfl,rfl,rfl⟩;subst n o t;obtain⟨u,rfl,w⟩:=vals1 m;cases w;exact MM.call_maxH (tU (op:=.Gt) (bt:=gtI Y) g h I j k a.1 a.2 (λx y B C E=>HT.gt_tupInts x y B C (by rw[t7];lia) E) λv r=>q _ _ (Same.refl _) r)
  .rw[ib a]at q;exact q.elim
end DL
namespace M
open PySem L2 DL
section
variable [Tabs]
def nQ (P Q:G.V):Bool:=HT.lexLt [P.x,P.y,P.z] [Q.x,Q.y,Q.z]
def lY (P Q:G.V):G.V:=if nQ Q P then Q else P
def lU (P Q:G.V):G.V:=if nQ P Q then Q else P
def wP (e:G.V×G.V):D:=.tup [vd (lY e.1 e.2),vd (lU e.1 e.2)]
def SO (P Q:G.V):nB [.tup [vd P,vd Q]]=.ok (vd (lY P Q)):=by
 have a:nB [.tup [vd P,vd Q]]=R.ok (([vd P,vd Q]:List D).getD (cy (NJ [vd P,vd Q]) 1) .non):=by simp only[nB,oV];exact h9 ⟨by simp,rfl⟩
 rw[a];unfold lY;have e:NJ [vd P,vd Q] 1 0=nQ Q P:=rfl;cases h:nQ Q P with
 |true=>rw[h]at e;simp[cy,e]
 |false=>rw[h]at e;simp[cy,e]
def RL (P Q:G.V):oV [.tup [vd P,vd Q]]=.ok (vd (lU P Q)):=by
 have a:oV [.tup [vd P,vd Q]]=R.ok (([vd P,vd Q]:List D).getD (cy (gtI [vd P,vd Q]) 1) .non):=by simp only[nB,oV];exact h9 ⟨by simp,rfl⟩
 rw[a];unfold lU;have e:gtI [vd P,vd Q] 1 0=nQ P Q:=rfl;cases h:nQ P Q with
 |true=>rw[h]at e;simp[cy,e]
 |false=>rw[h]at e;simp[cy,e]
def Y8 (S:List G.V) (fs:List (G.V×Int)):List (G.V×G.V):=fs.flatMap λf=>G.J3 (G.d7 S f)
open Classical in
def eG:List D->R D
 |[.lst a]=>match B9 a with
  |some J=>if S5 900 J/\G.j2 J/\(c7 J).length<=23 then .ok (.lst (bY X3 (vJ ((Y8 (c7 J) (i9 (c7 J))).map wP))))else .bad
  |_=>.bad
 |_=>.bad
theorem xO {S:List G.V}(k:Nat):∀{gs:List (G.V×Int)},(∀f∈gs,(G.J3 (G.d7 S f)).length<=k)->(Y8 S gs).length<=gs.length*k
 |[],_=>by simp[Y8]
 |f::gs,h=>by
  have b:=xO k (gs:=gs) λg a=>h g (.tail _ a);have d:=h f (.head _);have e:Y8 S (f::gs)=G.J3 (G.d7 S f)++Y8 S gs:=by simp[Y8]
  rw[e,aAB,aAt,aGG]
  lia
def GD {P Q:G.V}(a:nQ P Q=false)(b:nQ Q P=false):P=Q:=by have:=TS.lex_total _ _ a b;simp only[aEM,and_true]at this;exact G.ext this.1 this.2.1 this.2.2
def pA {P Q:G.V}(h:nQ P Q=true):nQ Q P=false:=by
 cases z:nQ Q P with
 |false=>rfl
 |true=>have:=TS.lex_trans _ _ _ h z;rw[TS.lex_irrefl]at this;cases this
def MJ {P Q:G.V}(h:P≠Q):wP (P,Q)=wP (Q,P):=by
 unfold wP lY lU;cases a:nQ P Q with
 |true=>rw[pA a];rfl
 |false=>
  cases b:nQ Q P with
  |true=>rfl
  |false=>exact absurd (GD a b) h
def TH {J:List G.V}(l:S5 900 J)(g:G.j2 J)(s:(c7 J).length<=23):(vJ ((Y8 (c7 J) (i9 (c7 J))).map wP)).length<=63:=by
 classical
 obtain⟨a,t,u⟩:=O9 l g (by lia);have b:G.j2 (c7 J):=U6 g λv w=>u6.mpr w;have n:(i9<|c7 J).Nodup:=by obtain⟨m,r,e,L⟩:=Y0 l g (by lia);have o:=E8 L (by rw[<-e];exact s);rw[<-e]at o;exact G9 (K6 o.2)
 have x:(Y8 (c7 J)<|i9<|c7 J).Nodup:=G.V9 b (m5 J) n λf h=>(a f).mp h;have i:∀P Q,(P,Q)∈(Y8 (c7 J)<|i9<|c7 J).filter (λe=>decide (G.d8<|e.2-e.1))↔(P,Q)∈G.Z4 (c7 J) (i9<|c7 J)/\G.d8 (Q-P):=λP Q=>by rw[aAK,decide_eq_true_eq];rfl
 have k:=(G.JU b (m5 J) a n t (x.sublist aBj) i).1;have sub:(vJ<|(Y8 (c7 J)<|i9<|c7 J).map wP).length<=(((Y8 (c7 J)<|i9<|c7 J).filter (λe=>decide (G.d8<|e.2-e.1))).map wP).length:=by
  refine G.q8 (jM _) λd p=>?_;rw[iO]at p;obtain⟨⟨P,Q⟩,j,rfl⟩:=aAi.mp p;have ne:=G.uH b (m5 J) a j;rcases G.C7 P Q with q|q|q
  .exact absurd q ne
  .exact aAi.mpr ⟨(Q,P),(i _ _).mpr ⟨G.U7 b (m5 J) a j,q⟩,MJ ne.symm⟩
  .exact aAi.mpr ⟨(P,Q),(i _ _).mpr ⟨j,q⟩,rfl⟩
 rw[aAj]at sub
 lia
def HH {J:List G.V}(a:S5 900 J)(b:G.j2 J)(f:(c7 J).length<=23):QL (.lst ((Y8 (c7 J) (i9 (c7 J))).map wP))=.ok (bY X3 (vJ ((Y8 (c7 J) (i9 (c7 J))).map wP))):=by have:=TH a b f;simp only[QL];exact h9 ⟨aBE.mpr λd g=>by obtain⟨e,_,rfl⟩:=aAi.mp g;rfl,this⟩
def HL {J:List G.V}(g:S5 900 J)(d:G.j2 J)(n:(c7 J).length<=23){gs h:List (G.V×Int)}(e:gs++h=i9 (c7 J)):(Y8 (c7 J) gs).length<=sizeLine:=by
 obtain⟨i,o,a⟩:=O9 g d (by lia);have:=xO (S:=c7 J) (gs:=gs) 23 λf j=>by have S:=((i f).mp (by rw[<-e];exact aBs _ j)).aa2 (m5 J);have k:G.j2 (c7 J):=U6 d λv b=>u6.mpr b;rw[G.UN k (m5 J)];exact aAs (G.q8 S.aa4 (m:=c7 J) λv b=>(G.c5.mp<|S.aa3 b).1) (by lia)
 have l:gs.length<=12167:=by rw[<-e,aAB]at a;lia
 exact aAs (aAs this<|Nat.mul_le_mul_right 23 l) (by decide)
def ZO (J:List G.V):List D:=bY X3 (vJ<|(Y8 (c7 J)<|i9<|c7 J).map wP)
def MP {J:List G.V}(a:S5 900 J)(b:G.j2 J)(d:(c7 J).length<=23):eG [.lst (J.map vd)]=.ok (.lst (ZO J)):=by simp only[eG,q9];exact h9 ⟨a,b,d⟩
def DI {J:List G.V}(g:S5 900 J)(h:G.j2 J)(m:(c7 J).length<=23){d:D}:d∈ZO J↔∃n k P Q,G.IsFace (c7 J) n k/\G.EdgeOf n (λX=>X∈G.o6 n k (c7 J)) P Q/\d=wP (P,Q):=by
 obtain⟨b,o,i⟩:=O9 g h (by lia);unfold ZO;rw[(G0 X3 _).mem_iff,iO,aAi];constructor
 .rintro⟨e,j,rfl⟩;obtain⟨f,a,l⟩:=aBc.mp j;have a:=(b f).mp a;exact⟨f.1,f.2,e.1,e.2,a,(a.aa2<|m5 J).aa1.mp l,rfl⟩
 .rintro⟨n,k,P,Q,a,E,rfl⟩;exact⟨(P,Q),aBc.mpr ⟨(n,k),(b (n,k)).mpr a,(a.aa2<|m5 J).aa1.mpr E⟩,rfl⟩
def gz {J:List G.V}:pI X3 (ZO J):=aO (nS (λd a=>by rw[iO]at a;obtain⟨e,_,rfl⟩:=aAi.mp a;rfl)<|jM _)
def MQ {P Q:G.V}(h:P≠Q):nQ (lY P Q) (lU P Q)=true/\((lY P Q=P/\lU P Q=Q)\/(lY P Q=Q/\lU P Q=P)):=by
 unfold lY lU;cases a:nQ P Q with
 |true=>rw[pA a];exact⟨a,.inl ⟨rfl,rfl⟩⟩
 |false=>
  cases b:nQ Q P with
  |true=>exact⟨b,.inr ⟨rfl,rfl⟩⟩
  |false=>exact absurd (GD a b) h
def pj {P Q:G.V}(h:nQ P Q=true):lY P Q=P/\lU P Q=Q:=by unfold lY lU;rw[pA h,h];exact⟨rfl,rfl⟩
def NR {a b c d:D}(h:D.tup [a,b]=D.tup [c,d]):a=c/\b=d:=by simpa using h
def LM {J:List G.V}(m:S5 900 J)(o:G.j2 J)(r:(c7 J).length<=23):∃es:List (G.V×G.V),ZO J=es.map B4/\∀e∈es,nQ e.1 e.2=true/\e.1∈c7 J/\e.2∈c7 J:=by
 have all:∀l:List D,(∀d∈l,∃e:G.V×G.V,d=B4 e/\nQ e.1 e.2=true/\e.1∈c7 J/\e.2∈c7 J)->∃es:List (G.V×G.V),l=es.map B4/\∀e∈es,nQ e.1 e.2=true/\e.1∈c7 J/\e.2∈c7 J:=λl=>by
  induction l with
  |nil=>exactλ_=>⟨[],rfl,λe f=>by cases f⟩
  |cons d l s=>
   intro h;obtain⟨es,q,t⟩:=s λd g=>h d (.tail _ g);obtain⟨e,u,v⟩:=h d (.head _);refine⟨e::es,by rw[u,q];rfl,λw f=>?_⟩;rcases aAd.mp f with rfl|f
   .exact v
   .exact t w f
 refine all _ λd g=>?_;obtain⟨n,k,P,Q,x,E,rfl⟩:=(DI m o r).mp g;have i:=(G.c5.mp E.p).1;have j:=(G.c5.mp E.q).1;refine⟨(lY P Q,lU P Q),rfl,(MQ E.ne).1,?_⟩;rcases(MQ E.ne).2 with⟨a,b⟩|⟨a,b⟩
 .rw[a,b];exact⟨i,j⟩
 .rw[a,b];exact⟨j,i⟩
def EC {α:Type}{r:R α}{x:α}{F:α->R Out}{a:Ev->R Out}{d:D}(b:r=.ok x)(e:M6 (C4 (F x) a)=.ok d):M6 (C4 (r.bind F) a)=.ok d:=by rw[b];exact e
open Classical in
def iU:List D->R D
 |[.lst Y]=>if Y.length<=63/\M2 1048576 Y then .ok (.bl true)else .bad
 |_=>.bad
end
def LR (l:List G.V)(k:Nat):G.V×G.V:=(l.getD (if k=0 then l.length-1 else k-1) 0,l.getD k 0)
def DN (l:List G.V):List (G.V×G.V):=(aBy l.length).map (LR l)
def JI (l:List G.V):(DN l).Perm (G.J3 l):=by
 match l with
 |[]=>exact aGj _
 |a::r=>
  have b:(G.J3 (a::r)).length=r.length+1:=by unfold G.J3;simp
  have ne:G.J3 (a::r)≠[]:=λz=>by rw[z]at b;simp at b
  have e:DN (a::r)=(G.J3 (a::r)).getLast ne::(G.J3 (a::r)).dropLast:=by
   refine List.ext_getElem (by simp[DN,b]) λk f g=>?_;have h:k<r.length+1:=by simpa[DN]using f
   cases k with
   |zero=>simp only[DN,aDj,List.getElem_range,List.getElem_cons_zero,List.getLast_eq_getElem,b,LR,if_true];simp[G.J3,List.getElem_append,aAl]
   |succ k=>
    simp only[DN,aDj,List.getElem_range,aFM,List.getElem_dropLast,LR];have d:k<r.length:=by lia
    simp[G.J3,List.getElem_append,aAl,d,aBg d]
  rw[e];refine(List.perm_append_singleton _ _).symm.trans ?_;rw[aEB]
def JJ (S:List G.V) (fs:List (G.V×Int)):List (G.V×G.V):=fs.flatMap λf=>DN (G.d7 S f)
def GW (S:List G.V)(fs:List (G.V×Int)):(JJ S fs).Perm (G.Z4 S fs):=by
 unfold JJ G.Z4;induction fs with
 |nil=>exact aGj _
 |cons f fs a=>rw[aEd,aEd];exact(JI _).append a
def GN {P Q:G.V}:nQ P Q=true↔G.d8 (Q-P):=by unfold nQ G.d8;rw[HT.lexLt_cons,HT.lexLt_cons,HT.lexLt_cons,HT.lexLt_nil_nil];simp only[G.FW,G.EZ,G.EF];split<;>(try split)<;>(try split)<;>simp<;>lia
def VF [Tabs]{J:List G.V}(t:S5 900 J)(s:G.j2 J)(u:(c7 J).length<=23):∃es:List (G.V×G.V),ZO (t4 J)=es.map B4/\(∀e∈es,nQ e.1 e.2=true/\e∈JJ (c7 J) (i9 (c7 J))/\(e.2,e.1)∈JJ (c7 J) (i9 (c7 J)))/\
  (t4 J).length+(i9 (c7 J)).length=es.length+2/\(JJ (c7 J) (i9 (c7 J))).Nodup/\(JJ (c7 J) (i9 (c7 J))).length=2*es.length/\
  ∀v∈t4 J,2<G.cnt (λf=>v∈G.d7 (c7 J) f) (i9 (c7 J))/\G.cnt (λe=>v=e.1\/v=e.2) es=G.cnt (λf=>v∈G.d7 (c7 J) f) (i9 (c7 J)):=by
 classical
 obtain⟨j,af,_⟩:=O9 t s u;have i:G.j2 (c7 J):=U6 s λv C=>u6.mpr C;have d:=m5 J;have nd:(i9<|c7 J).Nodup:=by obtain⟨m,r,e,L⟩:=Y0 t s (by lia);have FL:=E8 L (by rw[<-e];exact u);rw[<-e]at FL;exact G9 (K6 FL.2)
 have w:=iB t s u;have bu:(t4 J).Pairwise λa b=>G.d8 (b-a):=m5 _;obtain⟨H,I,z,b4,b5,b6⟩:=jN t s u;have N:(c7<|t4 J).length<=23:=by rw[z];exact b4
 obtain⟨es,O,el⟩:=LM I H N;have T:es.Nodup:=by
  have:(es.map B4).Nodup:=by rw[<-O];exact K6 gz
  exact(aBN.mp this).imp λ{a b} n e=>n (i5 B4 e)
 have A:=GW (c7 J) (i9<|c7 J);have B:∀P Q,(P,Q)∈es↔(P,Q)∈G.Z4 (c7 J) (i9<|c7 J)/\G.d8 (Q-P):=λP Q=>by
  have m:(P,Q)∈es↔B4 (P,Q)∈ZO (t4 J):=by rw[O,aAi];exact⟨λh=>⟨_,h,rfl⟩,λ⟨e,h,q⟩=>FB q▸h⟩
  constructor
  .intro h;have lt:=(el _ h).1;obtain⟨n,k,P',Q',g,E,q⟩:=(DI I H N).mp (m.mp h);rw[z]at g E;have g:=(b6 n k).mp g;have E:=G.lO i d bu w g E;have i1:=(G.Q9 i d j).mpr ⟨(n,k),g,E⟩;have o:P=lY P' Q'/\Q=lU P' Q':=by have q:=NR q;exact⟨qP q.1,qP q.2⟩
   refine⟨?_,GN.mp lt⟩;rcases(MQ E.ne).2 with⟨a,b⟩|⟨a,b⟩
   .rw[o.1,o.2,a,b];exact i1
   .rw[o.1,o.2,a,b];exact G.U7 i d j i1
  .rintro⟨h,lt⟩;obtain⟨f,g,E⟩:=(G.Q9 i d j).mp h;refine m.mpr ((DI I H N).mpr ⟨f.1,f.2,P,Q,by rw[z];exact(b6 _ _).mpr g,by rw[z];exact G.pN i d bu w g E,?_⟩);have o:=pj (GN.mpr lt);unfold wP;dsimp only;rw[o.1,o.2]
 refine⟨es,O,λe he=>?_,G.yz i d j nd af (T8 _) w T B,A.nodup_iff.mpr (G.V9 i d nd λf h=>(j f).mp h),A.length_eq.trans (G.jH i d j nd T B),λv C=>⟨?_,G.zG i d j nd T B v⟩⟩
 .obtain⟨P,Q⟩:=e;have:=(B P Q).mp he;exact⟨(el _ he).1,A.mem_iff.mpr this.1,A.mem_iff.mpr (G.U7 i d j this.1)⟩
 .obtain⟨f,g,U⟩:=(w v).mp C;obtain⟨g1,g2,Y,f2,n1,n2,zr,x0,x1,x2⟩:=G.T5 i d g U;have vm:=(G.c5.mp<|(g.aa2 d).aa3 U).1;have mc:∀{α:Type} {l:List α} {p:α->Prop} {x:α},x∈l->p x->x∈l.filter (λy=>decide (p y)):=λh q=>aAK.mpr ⟨h,decide_eq_true q⟩;unfold G.cnt;refine(JZ<|nd.sublist aBj).mpr ⟨f,g1,g2,?_,?_,?_,n1,n2,zr⟩
  .exact mc ((j f).mpr g) U
  .exact mc ((j g1).mpr Y) (G.pT i d vm Y g f2 x1 x0 x2 n1.symm zr n2)
  .exact mc ((j g2).mpr f2) (G.pT i d vm f2 g Y x2 x0 x1 n2.symm zr.symm n1)
section
variable [Tabs]
def NO (i j:Nat)(F:Ev->R Out)(a b:D)(ρ:Ev):T0 (bW 2 (F8 (λd ρ=>.ok (ρ.set i (.v d))) (F8 (λd ρ=>.ok (ρ.set j (.v d))) fO))) F (.tup [a,b]) ρ=F ((ρ.set i (.v a)).set j (.v b)):=rfl
end
section
variable [Tabs]
def mU {α β γ:Type}{d:D->Ev->R Ev}{fe:Ev->R D}{ρ:Ev}{K:List D->R γ}(rep:α->D)(b:β->D)(g:α->β)(l:List α)(e:l.length<=30000)(h:∀a∈l,∃ρ1,d (rep a) ρ=.ok ρ1/\fe ρ1=.ok (b (g a))):(if(l.map rep).length<=sizeLine then(u9 d (λ_=>.ok true) fe ρ (l.map rep)).bind K else .bad)=K ((l.map g).map b):=by rw[h9 (aAs (by rw[aAj];exact e) (by decide)),OK rep b g l h];rfl
def WJ {α γ:Type}{b:D->Ev->R Ev}{ft:Ev->R Bool}{fe:Ev->R D}{ρ:Ev}{K:List D->R γ}(rep:α->D)(p:α->Bool)(g:α->D)(l:List α)(d:l.length<=30000)(h:∀a∈l,∃ρ1,b (rep a) ρ=.ok ρ1/\ft ρ1=.ok (p a)/\fe ρ1=.ok (g a)):(if(l.map rep).length<=sizeLine then(u9 b ft fe ρ (l.map rep)).bind K else .bad)=K ((l.filter p).map g):=by rw[h9 (aAs (by rw[aAj];exact d) (by decide)),L0 rep p g l λa e=>let⟨ρ1,f,i,j⟩:=h a e;⟨ρ1,f,i,λ_=>j⟩];rfl
def qO (t:Int):G.V:=⟨t.fmod 13-6,(t.fdiv 13).fmod 13-6,(t.fmod 13-6)*(t.fmod 13-6)+((t.fdiv 13).fmod 13-6)*((t.fdiv 13).fmod 13-6)⟩
def mJ:List D->R D:=sK λt=>mL (kw (bits t<=1200000)<|vd<|qO t)
def KT {t:Int}(h:bits t<=1200000):mJ [.int t]=.ok (vd (qO t)):=vZ h
def VB (t:Int):Sz 40 (qO t):=by have g:∀a:Int,bits (a.fmod 13-6)<=5:=λa=>bits_sub (bits_fmod (by decide) (show bits 13<=4 by decide)) (show bits 6<=4 by decide);exact⟨o8 (g _),o8 (g _),o8 (bits_add (bits_mul (g t)<|g t)<|bits_mul (g<|t.fdiv 13)<|g<|t.fdiv 13)⟩
def w4 (Y:List D):Nat:=(11+(cJ Y 0).fmod 4).toNat
def BX (m:Nat):List Int:=(aBy m).map λ(k:Nat)=>37*(k:Int)+3*k*k
def vU (Y:List D):List Int:=xA (w4 Y) 0 ((Y.take 63).drop 2) (BX<|w4 Y)
def yK (Y:List D):List G.V:=(vU Y).map qO
def cR (Y:List D):11<=w4 Y/\w4 Y<=14/\(w4 Y:Int)=11+(cJ Y 0).fmod 4:=by have:=fT (a:=cJ Y 0) (b:=4) (by decide);unfold w4;lia
def DT (m:Nat)(h:m<=20):(BX m).length=m/\∀t∈BX m,bits t<=1100000:=by
 unfold BX;refine⟨by simp,λt d=>?_⟩;obtain⟨k,b,rfl⟩:=aAi.mp d;have b:k<m:=by simpa using b
 have a:bits (k:Int)<=80:=L4 (by lia) (by lia);exact j7 (bits_add (n:=170) (o8 (bits_mul (show bits 37<=80 by decide) a)) (o8 (bits_mul (bits_mul (show bits 3<=2 by decide) a) a))) (by decide)
def FZ {Y:List D}(b:M2 1048576 Y):(vU Y).length=w4 Y/\∀t∈vU Y,bits t<=1100061:=by
 have f:=cR Y;have a:=DT (w4 Y) (by lia);have:=GJ (w4 Y) (by lia) ((Y.take 63).drop 2) 0 (BX<|w4 Y) (λx d=>b x (aEx<|aDH d)) a.1 a.2;refine⟨this.1,λt e=>aAs (this.2 t e) ?_⟩;have:((Y.take 63).drop 2).length<=61:=by simp;lia
 lia
def DU {Y:List D}(a:M2 1048576 Y):(∀p∈yK Y,Sz 40 p)/\yK Y≠[]/\(yK Y).length<=14:=by
 have d:=cR Y;have e:=(FZ a).1;refine⟨λp b=>by obtain⟨t,_,rfl⟩:=aAi.mp b;exact VB t,λz=>?_,by unfold yK;rw[aAj];lia⟩;have:=i5 aGk z;unfold yK at this;rw[aAj,aBo]at this
 lia
def SB (W:G.V)(l:List G.V):Prop:=∀X∈l,∃v:G.V,X=W+G.qT 12 v
def QY (Y:List D):List G.V:=(jP<|yK Y).map (G.qT 12)
def dI (Y:List D):List G.V:=if(cJ Y 1).fmod 3=0 then QY Y else(QY Y).map (rM<|QZ<|cJ Y 1).put
def gP:List D->R D:=JB λY=>mL (kw (M2 1048576 Y/\Y.length<=63)<|.lst ((t4<|dI Y).map vd))
def JX {Y:List D}(a:M2 1048576 Y)(b:Y.length<=63):gP [.lst Y]=.ok (.lst ((t4 (dI Y)).map vd)):=vZ ⟨a,b⟩
def NM {Y:List D}(a:M2 1048576 Y):G.j2 (QY Y)/\(∀p∈QY Y,Sz 50 p)/\(QY Y).length<=17:=by obtain⟨b,d,k⟩:=DU a;obtain⟨e,l⟩:=PV b;refine⟨G.JQ (t:=12) (by decide) (λX f=>aBq f) (KB d),λp g=>?_,by unfold QY;rw[aAj];lia⟩;obtain⟨q,j,rfl⟩:=aAi.mp g;have h:=e q j;have m:∀{i:Int},bits i<=41->bits (12*i)<=50:=λh=>o8 (bits_mul (show bits 12<=4 by decide) h);exact⟨m h.1,m h.2.1,m h.2.2⟩
def LH (s:G.Sl)(v:G.V):s.put (G.qT 12 v)=s.put 0+G.qT 12 (s.put v-s.put 0):=by unfold G.Sl.put G.qT;dsimp only;split<;>(apply G.ext<;>simp<;>grind)
def FA {Y:List D}(g:M2 1048576 Y):G.j2 (dI Y)/\(∀p∈dI Y,Sz 300 p)/\(dI Y).length<=17/\∃W,SB W (dI Y):=by
 obtain⟨a,b,c⟩:=NM g;unfold dI;split
 .refine⟨a,λp d=>(b p d).mono,c,0,λX e=>?_⟩;obtain⟨v,_,rfl⟩:=aAi.mp e;exact⟨v,by apply G.ext<;>simp⟩
 .refine⟨HS _ a,λp d=>?_,by rw[aAj];exact c,(rM<|QZ<|cJ Y 1).put 0,λX e=>?_⟩
  .obtain⟨q,f,rfl⟩:=aAi.mp d;exact ZU (PY _) (b q f)
  .obtain⟨q,f,rfl⟩:=aAi.mp e;obtain⟨v,_,rfl⟩:=aAi.mp f;exact⟨_,LH _ v⟩
def AQ (a b c:Int):Int:=(a+b+c).fdiv 3
def W8 (A B C:G.V):G.V:=⟨AQ A.x B.x C.x,AQ A.y B.y C.y,AQ A.z B.z C.z⟩
def YJ {A B C:G.V}(d:Sz 300 A)(e:Sz 300 B)(f:Sz 300 C):Sz 302 (W8 A B C):=by have g:∀{a b c:Int},bits a<=300->bits b<=300->bits c<=300->bits (AQ a b c)<=302:=λh i j=>bits_fdiv (bits_add (n:=301) (bits_add h i)<|o8 j);exact⟨g d.1 e.1 f.1,g d.2.1 e.2.1 f.2.1,g d.2.2 e.2.2 f.2.2⟩
def RI {W A B C a b c:G.V}(d:A=W+G.qT 12 a)(e:B=W+G.qT 12 b)(f:C=W+G.qT 12 c):(3:Int)*W8 A B C=A+B+C:=by
 have g:∀w x y z:Int,3*AQ (w+12*x) (w+12*y) (w+12*z)=w+12*x+(w+12*y)+(w+12*z):=λw x y z=>by unfold AQ;rw[show w+12*x+(w+12*y)+(w+12*z)=3*(w+4*(x+y+z))by lia,aDG _ (by decide),aFu _ (by decide)]
 subst d e f;exact G.ext (g W.x a.x b.x c.x) (g W.y a.y b.y c.y) (g W.z a.z b.z c.z)
def RT {W A B C E a b c e:G.V}(d:A=W+G.qT 12 a)(f:B=W+G.qT 12 b)(h:C=W+G.qT 12 c)(i:E=W+G.qT 12 e):(4:Int)*bx A B C E=A+B+C+E:=by
 have g:∀w x y z u:Int,4*AS (w+12*x) (w+12*y) (w+12*z) (w+12*u)=w+12*x+(w+12*y)+(w+12*z)+(w+12*u):=λw x y z u=>by
  unfold AS;rw[show w+12*x+(w+12*y+(w+12*z+(w+12*u)))=4*(w+3*(x+y+z+u))by lia,aDG _ (by decide),aFu _ (by decide)]
  lia
 subst d f h i;exact G.ext (g W.x a.x b.x c.x e.x) (g W.y a.y b.y c.y e.y) (g W.z a.z b.z c.z e.z)
def HG {S:List G.V}{n M A B C:G.V}{d:Int}(f:G.IsFace S n d)(g:A∈G.o6 n d S)(i:B∈G.o6 n d S)(j:C∈G.o6 n d S)(e:(3:Int)*M=A+B+C):G.W2 S M=0/\G.W2 S (M+n)=-1:=by
 obtain⟨a,l⟩:=G.c5.mp g;obtain⟨b,o⟩:=G.c5.mp i;obtain⟨c,p⟩:=G.c5.mp j;have q:∀m,3*G.b9 m M=G.b9 m A+G.b9 m B+G.b9 m C:=λm=>by have q:=i5 (G.b9 m) e;rw[G.f9,show G.b9 m (A+B+C)=G.b9 m A+G.b9 m B+G.b9 m C by simp[G.b9];grind]at q;exact q
 have r:G.b9 n M=d:=by have:=q n;lia
 unfold G.W2;constructor
 .rw[h9 λm k h=>by have:=q m;have:=h.sup A a;have:=h.sup B b;have:=h.sup C c;lia,ib λz=>by
   have:=z n d f
   lia]
 .rw[ib λz=>?_];have:=z n d f;rw[show G.b9 n (M+n)=G.b9 n M+G.b9 n n by simp[G.b9];grind]at this;have:0<G.b9 n n:=G.u5 f.prim.ne
  lia
def xK (A B C:G.V)(E:G.V):Bool:=decide (G.b9 (G.cr (B-A)<|C-A) (E-A)≠0)
def wM (l:List G.V):G.V:=bx (l.getD 0 0) (l.getD 1 0) (l.getD 2 0) ((l.filter<|xK (l.getD 0 0) (l.getD 1 0)<|l.getD 2 0).headD 0)
def EY (l:List G.V):Prop:=3<=l.length/\l.filter (xK (l.getD 0 0) (l.getD 1 0)<|l.getD 2 0)≠[]/\(∀p∈l,Sz 550 p)/\l.length<=1000
def eI:List D->R D:=lvD λl=>mL (kw (EY l)<|vd<|wM l)
def AD {l:List G.V}(h:EY l):eI [.lst (l.map vd)]=.ok (vd (wM l)):=(RM _ l []).trans (vZ h)
def bw {J:List G.V}{W:G.V}(u:S5 900 J)(l:G.j2 J)(B:(c7 J).length<=23)(hz:∀p∈J,Sz 300 p)(h:SB W J):EY (t4 J)/\G.W2 (t4 J) (wM (t4 J))=1/\Sz 900 (wM (t4 J)):=by
 obtain⟨E,O,Q,b4,T,U⟩:=jN u l B;have C:=iB u l B;have k:(t4 J).Nodup:=T8 _;have d:=AO E;have Y:G.j2 (c7 J):=U6 l λv hv=>u6.mpr hv;have hz:∀p∈t4 J,Sz 300 p:=λp m=>hz p (cM u l B m);have h:SB W (t4 J):=λp m=>h p (cM u l B m);generalize t4 J=f at*
 obtain⟨a,b,c,r,g⟩:∃a b c r,f=a::b::c::r:=by
  clear hz k E O Q T U C h;match f with
  |a::b::c::r=>exact⟨a,b,c,r,rfl⟩
  |[]=>exact absurd d (by decide)
  |[_]=>exact absurd d (by simp)
  |[_,_]=>exact absurd d (by simp)
 have i:a≠b/\a≠c/\b≠c:=by rw[g]at k;simp only[aAE,aAd,not_or]at k;exact⟨k.1.1,k.1.2.1,k.2.1.1⟩
 have nl:=G.UK Y (m5 J) ((C a).mp (by simp[g])) ((C b).mp (by simp[g])) ((C c).mp (by simp[g])) i.1 i.2.1 i.2.2;have e0:f.getD 0 0=a:=by rw[g];rfl
 have e1:f.getD 1 0=b:=by rw[g];rfl
 have e2:f.getD 2 0=c:=by rw[g];rfl
 have ne:f.filter (xK a b c)≠[]:=λz=>by refine NB (A:=a) nl (λX hX=>?_) E;have:=aEc.mp z X hX;simpa[xK]using this
 unfold EY wM;rw[e0,e1,e2];obtain⟨e,es,H⟩:=aCL ne;have em:e∈f/\xK a b c e=true:=aAK.mp (by rw[H];exact .head _);have I:a∈f:=by rw[g];simp
 have L:b∈f:=by rw[g];simp
 have j:c∈f:=by rw[g];simp
 refine⟨⟨by lia,ne,λp m=>(hz p m).mono,by lia⟩,?_,?_⟩
 .rw[H];obtain⟨va,o⟩:=h a I;obtain⟨vb,q⟩:=h b L;obtain⟨vc,s⟩:=h c j;obtain⟨ve,t⟩:=h e em.1;exact G.XV I L j em.1 (of_decide_eq_true em.2) (RT o q s t)
 .rw[H];have N:∀{w x y z:Int},bits w<=300->bits x<=300->bits y<=300->bits z<=300->bits (AS w x y z)<=900:=λh hx hy hz=>j7 (bits_fdiv (bits_add (n:=312) (j7 h (by decide)) (bits_add (n:=311) (j7 hx (by decide)) (bits_add (n:=310) (j7 hy (by decide)) (j7 hz (by decide)))))) (by decide);have o:=hz a I;have q:=hz b L;have s:=hz c j;have t:=hz e em.1;exact⟨N o.1 q.1 s.1 t.1,N o.2.1 q.2.1 s.2.1 t.2.1,N o.2.2 q.2.2 s.2.2 t.2.2⟩
def US {Y:List D}(x:M2 1048576 Y)(hl:Y.length<=63):∃(L:List G.V) (fs:List (G.V×Int)) (es:List (G.V×G.V)),gP [.lst Y]=.ok (.lst (L.map vd))/\D2 [.lst (L.map vd)]=.ok (.lst (fs.map (k8 L)))/\eG [.lst (L.map vd)]=.ok (.lst (es.map B4))/\L.length+fs.length=es.length+2/\fs≠[]/\
  (∀f∈fs,∃A B C r,G.d7 L f=A::B::C::r/\T2 [.lst (L.map vd),vd (W8 A B C)]=.ok (.int 0)/\T2 [.lst (L.map vd),vd (W8 A B C+f.1)]=.ok (.int (-1)))/\eI [.lst (L.map vd)]=.ok (vd (wM L))/\T2 [.lst (L.map vd),vd (wM L)]=.ok (.int 1):=by
 obtain⟨v1,t,v3,W,y⟩:=FA x;have m:S5 900 (dI Y):=⟨λp i=>(t p i).mono,by lia⟩;have o:(c7<|dI Y).length<=23:=aAs (qH _) (by lia);have LL:=JX x hl;obtain⟨j,k,z,b4,b5,b6⟩:=jN m v1 o;obtain⟨n1,n2,n3⟩:=bw m v1 o t y;have d:∀p∈t4 (dI Y),Sz 300 p:=λp i=>t p (cM m v1 o i);have u:SB W (t4<|dI Y):=λp i=>y p (cM m v1 o i);have E:(t4<|dI Y).Pairwise λa b=>G.d8 (b-a):=m5 _;generalize t4 (dI Y)=L at*
 have l:(c7 L).length<=23:=by rw[z];exact b4
 have H:=iS k j l;have I:=MP k j l;obtain⟨es,J,_,v,_⟩:=VF k j l;obtain⟨N,O,_⟩:=O9 k j l;have s:=λ{P:G.V} (h:Sz 900 P)=>NH k j l h;rw[b5]at J v;rw[J]at I;rw[z]at H v N O s;refine⟨L,i9 L,es,LL,H,I,v,O,λf g=>?_,AD n1,by rw[s n3,n2]⟩;have g:=(N f).mp g;obtain⟨A,B,C,r,e⟩:=G.K8 E g;have w:∀X∈G.d7 L f,X∈G.o6 f.1 f.2 L:=λX hX=>(g.aa2 E).aa3 hX;have e:G.d7 L f=A::B::C::r:=e;have T:=w A (by rw[e];simp);have U:=w B (by rw[e];simp);have hC:=w C (by rw[e];simp);have mA:=(G.c5.mp T).1;have mB:=(G.c5.mp U).1;have mC:=(G.c5.mp hC).1;obtain⟨a,ea⟩:=u A mA;obtain⟨b,eb⟩:=u B mB;obtain⟨c,ec⟩:=u C mC;obtain⟨w1,w2⟩:=HG g T U hC (RI ea eb ec);have rs:=YJ (d A mA) (d B mB) (d C mC);have ns:Sz 603 f.1:=by obtain⟨P,hP,Q,hQ,R,hR,_,q⟩:=G.eN g;have:=sE (d P hP) (d Q hQ) (d R hR);rw[q]at this;exact this
 exact⟨A,B,C,r,e,by rw[s rs.mono,w1],by rw[s ((rs.mono (n:=603)).add ns).mono,w2]⟩
def iq {α:Type}(rep:α->D){fs:List α}(ne:fs≠[])(c:Int):dJ (.int c) (.int (fs.length:Int))=.ok (.int (c.fmod fs.length))/\∃f∈fs,J1 (.lst (fs.map rep)) (.int (c.fmod fs.length))=.ok (rep f):=by
 have d:(0:Int)<fs.length:=by
  have:fs.length≠0:=λz=>ne (aEv z)
  lia
 have r:=fT (a:=c) (b:=(fs.length:Int)) d;refine⟨aL d,?_⟩;have e:(c.fmod fs.length).toNat<fs.length:=by lia
 refine⟨fs[(c.fmod fs.length).toNat],aBU e,N1 ?_⟩;rw[V2 r.1,aAI,aAg e];rfl
end
end M
namespace K26
open PySem L2 DL M
def top (i:Nat):df:=PySem.Challenge.pw_stakebodies_k26_whole_where_in_great_bod.main.body.getD i (.Pass ⟨0,0,0,0⟩)
abbrev Y5:df:=top 5
abbrev qR:List Str:=["P", "Q"]
def qK:FnScope qR ["P", "Q"] (c8 Y5):=J0
abbrev gE:df:=top 6
abbrev BS:List Str:=["u", "v"]
def xW:FnScope BS ["u", "v"] (c8 gE):=J0
abbrev aY:df:=top 7
abbrev uS:List Str:=["u", "v"]
def rK:FnScope uS ["u", "v"] (c8 aY):=J0
abbrev N7:df:=top 8
abbrev jL:List Str:=["numbers", "divisor", "number", "rest", "further"]
def gO:FnScope jL ["numbers"] (c8 N7):=J0
abbrev R4:df:=top 9
abbrev mH:List Str:=["P", "Q", "R", "cross", "divisor", "upright"]
def kR:FnScope mH ["P", "Q", "R"] (c8 R4):=J0
abbrev jK:df:=top 10
abbrev GY:List Str:=["plane", "P", "height"]
def BJ:FnScope GY ["plane", "P"] (c8 jK):=J0
abbrev N5:df:=top 13
abbrev jU:List Str:=["ways", "way"]
def iA:FnScope jU ["ways"] (c8 N5):=J0
abbrev B6:df:=top 14
abbrev M5:List Str:=["points", "ways", "along", "upright"]
def lR:FnScope M5 ["points"] (c8 B6):=J0
abbrev Z7:df:=top 15
abbrev qW:List Str:=["points"]
def qI:FnScope qW ["points"] (c8 Z7):=J0
abbrev X7:df:=top 16
abbrev kZ:List Str:=["plane", "points"]
def wB:FnScope kZ ["plane", "points"] (c8 X7):=J0
abbrev Z1:df:=top 17
abbrev qY:List Str:=["pair", "points", "along", "upright", "outermost", "P", "way"]
def pV:FnScope qY ["pair", "points"] (c8 Z1):=J0
abbrev aX:df:=top 18
abbrev vL:List Str:=["points", "least", "upward", "touched"]
def qS:FnScope vL ["points"] (c8 aX):=J0
abbrev jJ:df:=top 19
abbrev IK:List Str:=["upright", "P", "Q", "R"]
def CH:FnScope IK ["upright", "P", "Q", "R"] (c8 jJ):=J0
abbrev aW:df:=top 20
abbrev vK:List Str:=["upright", "points", "chain", "P"]
def rG:FnScope vK ["upright", "points"] (c8 aW):=J0
abbrev kO:df:=top 21
abbrev JY:List Str:=["upright", "points", "there", "back"]
def BY:FnScope JY ["upright", "points"] (c8 kO):=J0
abbrev Y6:df:=top 22
abbrev rC:List Str:=["ring"]
def pR:FnScope rC ["ring"] (c8 Y6):=J0
abbrev bP:df:=top 23
abbrev uN:List Str:=["first", "about", "touched_by", "faces", "walked", "waiting", "pair", "plane", "ring", "step"]
def fK:FnScope uN ["first", "about", "touched_by"] (c8 bP):=J0
abbrev K5:df:=top 24
abbrev gJ:List Str:=["points", "spread", "about", "touched_by"]
def lA:FnScope gJ ["points"] (c8 K5):=J0
abbrev aZ:df:=top 25
abbrev vN:List Str:=["faces", "corners", "plane", "ring"]
def rF:FnScope vN ["faces"] (c8 aZ):=J0
abbrev kW:df:=top 26
abbrev IV:List Str:=["points"]
def CA:FnScope IV ["points"] (c8 kW):=J0
abbrev bB:df:=top 28
abbrev oR:List Str:=["land", "edges", "plane", "ring"]
def zD:FnScope oR ["land"] (c8 bB):=J0
abbrev bD:df:=top 29
abbrev pD:List Str:=["land", "P"]
def yO:FnScope pD ["land", "P"] (c8 bD):=J0
abbrev cD:df:=top 31
abbrev wQ:List Str:=["script", "k"]
def uK:FnScope wQ ["script", "k"] (c8 cD):=J0
abbrev gG:df:=top 32
abbrev BE:List Str:=["one", "other"]
def yP:FnScope BE ["one", "other"] (c8 gG):=J0
abbrev bG:df:=top 33
abbrev uW:List Str:=["u", "v"]
def qU:FnScope uW ["u", "v"] (c8 bG):=J0
abbrev V3:df:=top 34
abbrev oB:List Str:=["u", "v"]
def lZ:FnScope oB ["u", "v"] (c8 V3):=J0
abbrev cE:df:=top 35
abbrev zK:List Str:=["total", "x", "y"]
def wC:FnScope zK ["total"] (c8 cE):=J0
abbrev N0:df:=top 36
abbrev bK:List Str:=["points", "ways", "u", "v", "crossed", "x", "y", "z"]
def rD:FnScope bK ["points"] (c8 N0):=J0
abbrev P3:df:=top 37
abbrev fH:List Str:=["cell", "slants", "far"]
def oU:FnScope fH ["cell"] (c8 P3):=J0
abbrev V4:df:=top 38
abbrev nW:List Str:=["point", "slants", "x", "y", "z"]
def mF:FnScope nW ["point", "slants"] (c8 V4):=J0
abbrev F9:df:=top 39
abbrev Q3:List Str:=["script", "many", "totals", "k", "cell", "points"]
def wJ:FnScope Q3 ["script"] (c8 F9):=J0
abbrev J8:df:=top 40
abbrev Y7:List Str:=["land", "crossed", "some", "four"]
def qB:FnScope Y7 ["land"] (c8 J8):=J0
abbrev fE:df:=top 41
abbrev XS:List Str:=["script", "land", "faces", "cell", "plane", "ring", "rim", "beyond", "point", "due", "handed", "found"]
def PN:FnScope XS ["script"] (c8 fE):=J0
def dF:df:=(t9 K5).getD 2 (.Pass ⟨0,0,0,0⟩)
abbrev ER:Str:= "faces_of.<locals>.about"
def J7:df:=(t9 K5).getD 3 (.Pass ⟨0,0,0,0⟩)
abbrev iI:Str:= "faces_of.<locals>.touched_by"
def tbK:List (Pos×Str):=[(EH dF,ER),(EH J7,iI)]
section
variable [Tabs]
variable{P:be} {w:cp} {K:i6} {mg:cH} {base:cq}
def o5 (g:fC K mg "way_between" Y5):w9 P w K mg base 1 "way_between" 2 l6:=by
 refine' m8 (k:=0) (F:=_) g qK (λf i j l=>?b) λe d m h=>?_
 case b=>refine' (e9<|j4<|ET (d4 A6 (PD.pb<|f7 (b8 1) c9)<|PD.pb<|f7 (b8 0) c9) (d4 A6 (PD.pb<|f7 (b8 1) c9)<|PD.pb<|f7 (b8 0) c9)<|d4 A6 (PD.pb<|f7 (b8 1) c9)<|PD.pb<|f7 (b8 0) c9)
 replace h:=F5 h;obtain⟨a,b,c,e,rfl,h⟩:=h;replace h:=F5 h;obtain⟨n,o,p,e,rfl,h⟩:=h;replace h:=B5 h;obtain⟨rfl,h⟩:=h;exact h
def C5 (g:fC K mg "cross_of" gE):w9 P w K mg base 1 "cross_of" 2 v7:=by
 refine' m8 (k:=0) (F:=_) g xW (λp q r s=>?b) λe d t h=>?_
 case b=>refine' (e9<|j4<|ET (d4 A6 (PD.pb<|d4 m6 (PD.pb<|f7 (b8 0) c9)<|PD.pb<|f7 (b8 1) c9)<|PD.pb<|d4 m6 (PD.pb<|f7 (b8 0) c9)<|PD.pb<|f7 (b8 1) c9) (d4 A6 (PD.pb<|d4 m6 (PD.pb<|f7 (b8 0) c9)<|PD.pb<|f7 (b8 1) c9)<|PD.pb<|d4 m6 (PD.pb<|f7 (b8 0) c9)<|PD.pb<|f7 (b8 1) c9)<|d4 A6 (PD.pb<|d4 m6 (PD.pb<|f7 (b8 0) c9)<|PD.pb<|f7 (b8 1) c9)<|PD.pb<|d4 m6 (PD.pb<|f7 (b8 0) c9)<|PD.pb<|f7 (b8 1) c9)
 replace h:=F5 h;obtain⟨a,b,c,e,rfl,h⟩:=h;replace h:=F5 h;obtain⟨u,v,x,e,rfl,h⟩:=h;replace h:=B5 h;obtain⟨rfl,h⟩:=h;split at h
 .rename_i o;obtain⟨⟨f,i,j⟩,l,m,n⟩:=o;rw[<-h];simp[k5,j1 (n4.of i n),j1 (n4.of j m),j1 (n4.of j l),j1 (n4.of f n),j1 (n4.of f m),j1 (n4.of i l)]
 .cases h
def y6 (g:fC K mg "product_of" aY):w9 P w K mg base 1 "product_of" 2 l5:=by
 refine' m8 (k:=0) (F:=_) g rK (λp q r s=>?b) λe d u h=>?_
 case b=>refine' (e9<|j4<|d4 p5 (PD.pb<|d4 p5 (PD.pb<|d4 m6 (PD.pb<|f7 (b8 0) c9)<|PD.pb<|f7 (b8 1) c9)<|PD.pb<|d4 m6 (PD.pb<|f7 (b8 0) c9)<|PD.pb<|f7 (b8 1) c9)<|PD.pb<|d4 m6 (PD.pb<|f7 (b8 0) c9)<|PD.pb<|f7 (b8 1) c9)
 replace h:=XQ h;obtain⟨a,b,c,t,e,rfl,h⟩:=h;replace h:=F5 h;obtain⟨v,x,y,e,rfl,h⟩:=h;replace h:=B5 h;obtain⟨rfl,h⟩:=h;split at h
 .rename_i f;obtain⟨⟨i,j,l⟩,m,n,o⟩:=f;rw[<-h];simp[k5,XU,WW,WT,j1 (n4.of i m),j1 (n4.of j n),j1 (n4.of l o)]
 .cases h
def N9 (s:mg "abs"=none)(g:fC K mg "common_divisor" N7):w9 P w K mg base 1 "common_divisor" 1 I0:=by
 refine' m8 (k:=0) (F:=_) g gO (λJ y L i=>?b) λu d N h=>?_
 case b=>
  refine' (c6 (j5 1 c9 i)
   (c6 (M0 aBv rfl (UO<|d5 0) (l7 2 i) (c6 (j5 3 (KD aw<|b8 2) i)
   (e9 (kJ (xw 3) aBv (o9 (fJ y) (b8 3) G1) (c6 (j5 4 (d4 K7 (b8 1)<|b8 3) i)
   (c6 (j5 1 (d5 3) i)
   (e9<|j5 3 (d5 4) i)))))))
   (e9<|j4<|d5 1)))
 replace h:=F5 h;obtain⟨a,b,c,u,rfl,h⟩:=h;replace h:=B5 h;obtain⟨rfl,h⟩:=h;rw[<-h];simp only[k5,aAr,aEo,aBh,aDB];simp only[J9,R7,R.aa0,IW,B7,aAt,aBo,aFA,aFB,aDS,aDT,aAO,aAP];refine cN (λrest ρ=>∃(g:Nat) (n r f:Sl),ρ=[.v (.tup [.int a,.int b,.int c]),.v (.int g),n,r,f]/\∃e:List Int,rest=e.map D.int/\e.foldl (λg n=>Nat.gcd g n.natAbs) g=G.x8 ⟨a,b,c⟩) ?_ ⟨0,_,_,_,rfl,[a,b,c],rfl,by simp[G.x8]⟩ ?_
 .rintro d u ρ ⟨g,n,r,f,rfl,e,l,j⟩;match e,l,j with
  |x::e,l,j=>
   injection l with A B;subst A B;simp only[gF,aAO,aAP,t8,x6,S6,V8,R.aa0,ZM,B7];have C:(if x<0 then-x else x)=(x.natAbs:Int):=by split<;>lia
   rw[C];refine zJ (λm ρ=>∃(p q:Nat) (f:Sl),ρ=[.v (.tup [.int a,.int b,.int c]),.v (.int p),.v (.int x),.v (.int q),f]/\q<m/\Nat.gcd p q=Nat.gcd g x.natAbs) ?_ (by rintro ρ ⟨p,q,f,_,h,_⟩;lia) ⟨g,x.natAbs,f,rfl,by show x.natAbs<((x.natAbs:Int).natAbs)+2;lia,rfl⟩ ?_
   .rintro m ρ ⟨p,q,f,rfl,E,t⟩;by_cases o:(q:Int)=0
    .exact .inl (by simp[o])
    .have H:q≠0:=by lia
     refine .inr ⟨by simp[H],_,?_,q,p%q,Sl.v (.int ((p%q:Nat):Int)),rfl,?_,?_⟩
     .have em:dJ (.int (p:Int)) (.int (q:Int))=.ok (.int ((p%q:Nat):Int)):=by rw[xG o,aES _ (by lia)];rfl
      simp[em]
     .have:=aEe p (show 0<q by lia)
      lia
     .rw[Nat.gcd_comm,<-Nat.gcd_rec,Nat.gcd_comm];exact t
   .rintro m ρ ⟨p,q,f,rfl,E,t⟩ I;have o:q=0:=by
     by_cases z:q=0
     .exact z
     .simp[z]at I
    subst o;refine⟨p,_,_,_,rfl,e,rfl,?_⟩;rw[<-j,aEG,<-t,Nat.gcd_zero_right]
 .rintro ρ ⟨g,n,r,f,rfl,e,l,j⟩;have:e=[]:=by simpa using l.symm
  subst this;simp at j;simp[j]
def S1 (C5:w9 P w K mg base 1 "cross_of" 2 v7)(o5:w9 P w K mg base 1 "way_between" 2 l6)(N9:w9 P w K mg base 1 "common_divisor" 1 I0)(y6:w9 P w K mg base 1 "product_of" 2 l5)(g:fC K mg "plane_through" R4):w9 P w K mg base 2 "plane_through" 3 R5:=by
 refine' m8 (k:=1) (F:=_) g kR (λl Y gc s=>?b) λA d hl h=>?_
 case b=>
  refine' (c6 (j5 3 (bZ C5 l (bZ o5 l (d5 0)<|d5 1)<|bZ o5 l (d5 0)<|d5 2) s)
   (c6 (j5 4 (rE N9 l<|d5 3) s)
   (c6 (D3 (o9 (oM Y) (b8 4) G1) (e9 kM) u3)
   (c6 (j5 5 (ET (d4 G3 (PD.pb<|f7 (b8 3) c9)<|b8 4) (d4 G3 (PD.pb<|f7 (b8 3) c9)<|b8 4)<|d4 G3 (PD.pb<|f7 (b8 3) c9)<|b8 4) s)
   (e9<|j4<|BF<|i8 (f7 (b8 5) c9)<|i8 (f7 (b8 5) c9)<|i8 (f7 (b8 5) c9)<|i8 (bZ y6 l (d5 5)<|d5 0) u0)))))
 replace h:=F5 h;obtain⟨a,b,c,A,rfl,h⟩:=h;replace h:=F5 h;obtain⟨d,e,f,A,rfl,h⟩:=h;replace h:=F5 h;obtain⟨g,J,i,A,rfl,h⟩:=h;replace h:=B5 h;obtain⟨rfl,h⟩:=h
 .skip
  split at h
  .rename_i hz;obtain⟨⟨p,q,r⟩,n⟩:=hz;rw[<-h];obtain⟨P,B⟩:∃P:G.V,P=⟨a,b,c⟩:=⟨_,rfl⟩;obtain⟨Q,E⟩:∃P:G.V,P=⟨d,e,f⟩:=⟨_,rfl⟩;obtain⟨j,H⟩:∃P:G.V,P=⟨g,J,i⟩:=⟨_,rfl⟩;rw[<-B]at p n;rw[<-E]at q n;rw[<-H]at r n;have vP:(.tup [.int a,.int b,.int c]:D)=vd P:=by rw[B]
   have vQ:(.tup [.int d,.int e,.int f]:D)=vd Q:=by rw[E]
   have vR:(.tup [.int g,.int J,.int i]:D)=vd j:=by rw[H]
   rw[vP,vQ,vR,<-B,<-E,<-H];have o:=(q.sub p).cr (r.sub p);have c1:=Z9 (u:=Q-P) (v:=j-P) (q.sub p).mono (r.sub p).mono;obtain⟨L,g1,g2⟩:=G.iZ n;have m:((G.x8 (G.cr (Q-P)<|j-P):Nat):Int)≠0:=by lia
   have gb:xS ((G.x8 (G.cr (Q-P)<|j-P):Nat):Int):=⟨m,o8 (HY o)⟩;have dv:=CJ (G.cr (Q-P)<|j-P);have pl:G.j6 P Q j=(G.jB (G.cr (Q-P)<|j-P) (G.x8<|G.cr (Q-P)<|j-P),G.b9 (G.jB (G.cr (Q-P)<|j-P)<|G.x8<|G.cr (Q-P)<|j-P) P):=rfl;rw[pl];generalize hC:G.cr (Q-P) (j-P)=C at*
   have sn:Sz 2003 (G.jB C<|G.x8 C):=by have N:=bits_fdiv (b:=(G.x8 C:Int)) o.1;have O:=bits_fdiv (b:=(G.x8 C:Int)) o.2.1;have T:=bits_fdiv (b:=(G.x8 C:Int)) o.2.2;rw[nU L]at N O T;exact⟨N,O,T⟩
   have d1:∀t:Int,S9 (.int t) (.int (G.x8 C:Nat))=.ok (.int (t/(G.x8 C:Nat))):=λt=>by rw[kG gb,nU L]
   have U:=dZ (u:=G.jB C (G.x8 C)) (v:=P) sn.mono p.mono;have e0:(((G.x8 C:Nat):Int)==0)=false:=by simpa using m
   simp only[G.jB]at U;have I:l5 [.tup [.int (C.x/(G.x8 C:Nat)),.int (C.y/(G.x8 C:Nat)),.int (C.z/(G.x8 C:Nat))],vd P]=_:=U;simp[k5,c1,dv,e0,d1,I,G.jB]
  .cases h
def aS (g:fC K mg "side_of" jK):w9 P w K mg base 1 "side_of" 2 G2:=by
 refine' m8 (k:=0) (F:=_) g BJ (λv A B s=>?b) λq d C h=>?_
 case b=>
  refine' (c6 (j5 2 (d4 A6 (PD.pb<|d4 p5 (PD.pb<|d4 p5 (PD.pb<|d4 m6 (PD.pb<|f7 (b8 0) c9)<|PD.pb<|f7 (b8 1) c9)<|PD.pb<|d4 m6 (PD.pb<|f7 (b8 0) c9)<|PD.pb<|f7 (b8 1) c9)<|PD.pb<|d4 m6 (PD.pb<|f7 (b8 0) c9)<|PD.pb<|f7 (b8 1) c9)<|PD.pb<|f7 (b8 0) c9) s)
   (c6 (D3 (o9 zH (b8 2) G1) (e9<|j4 c9) u3)
   (c6 (D3 (o9 QK (b8 2) G1) (e9<|j4<|fP c9) u3)
   (e9<|j4 c9))))
 replace h:=XN h;obtain⟨a,b,c,d,q,rfl,h⟩:=h;replace h:=F5 h;obtain⟨x,y,z,q,rfl,h⟩:=h;replace h:=B5 h;obtain⟨rfl,h⟩:=h
 .skip
  split at h
  .rename_i u;obtain⟨⟨e,f,i⟩,j,l,m⟩:=u;rw[<-h];obtain⟨t,r⟩:∃t,a*x+b*y+c*z-d=t:=⟨_,rfl⟩;have o:LU (.int (a*x+b*y+c*z)) (.int d)=.ok (.int t):=by rw[<-r];rfl
   rw[r];unfold sgn;by_cases p:0<t
   .simp[-vS,k5,j1 (n4.of e j),j1 (n4.of f l),j1 (n4.of i m),p,o]
   .by_cases n:t<0
    .simp[-vS,k5,j1 (n4.of e j),j1 (n4.of f l),j1 (n4.of i m),p,n,o]
    .simp[-vS,k5,j1 (n4.of e j),j1 (n4.of f l),j1 (n4.of i m),p,n,o]
  .cases h
def G8 (j:OA K mg "NO_WAY" [0,0,0])(g:fC K mg "first_real_way" N5):w9 P w K mg base 1 "first_real_way" 1 z6:=by
 refine' m8 (k:=0) (F:=_) g iA (λp l q m=>?b) λn d r h=>?_
 case b=>
  refine' (c6 (M0 aBv rfl (n9<|d5 0) (l7 1 m)<|e9<|D3 (o9 (fJ l) (b8 1)<|PD.pb<|vX j) (e9<|j4<|d5 1) u3)
   (e9<|j4 DA))
 match n,h with
 |[.lst Y],h=>
  simp only[z6]at h;split at h
  .rename_i f i;rw[m9 i];rw[<-h];simp[k5];generalize Sl.v (D.lst<|aDt vd f)=a;generalize Sl.no=b;clear h i;induction f generalizing b with
   |nil=>rfl
   |cons v f o=>
    rw[aAr,G.A0];by_cases e:v=0
    .rw[T6 (ρ2:=[a,.v (vd v)]) rfl (by simp[-jR,ne0,e]),o];simp[e]
    .rw[iH (x:=vd v) rfl (by simp[-jR,ne0,e])];simp[e,AV]
  .cases h
def F4 (o5:w9 P w K mg base 1 "way_between" 2 l6)(G8:w9 P w K mg base 1 "first_real_way" 1 z6)(C5:w9 P w K mg base 1 "cross_of" 2 v7)(y6:w9 P w K mg base 1 "product_of" 2 l5)(ir:mg "len"=none)(L:mg "any"=none)(g:fC K mg "dimension_of" B6):w9 P w K mg base 2 "dimension_of" 1 B8:=by
 refine' m8 (k:=1) (F:=_) g lR (λy hu gc O=>?b) λn d hl h=>?_
 case b=>
  refine' (c6 (D3 (o9 (oM hu) (PD.pb<|KD bT<|b8 0) G1) (e9 kM) u3)
   (c6 (aT 1 ["P"] ["points"] [0] O rfl (F1 (sc:=c8 B6) (N:=M5)) (n9<|d5 0) (IX λ_ _ _ _ _=>(bZ o5 y (f7 (b8 1) c9)<|d5 0))<|λ_=>p8)
   (c6 (j5 2 (rE G8 y<|d5 1) O)
   (c6 (D3 (o9 MF (b8 2)<|PD.pb DA) (e9<|j4 c9) u3)
   (c6 (j5 3 (rE G8 y<|P1 ["way"] ["along"] [2] rfl (F1 (sc:=c8 B6) (N:=M5)) (n9<|d5 1) (IX λ_ _ _ _ _=>(bZ C5 y (d5 1)<|d5 0))<|λ_=>p8) O)
   (c6 (D3 (o9 MF (b8 3)<|PD.pb DA) (e9<|j4 c9) u3)
   (c6 (D3 (uM<|KD (YL rfl)<|PD.pb<|P1 ["way"] ["upright"] [3] rfl (F1 (sc:=c8 B6) (N:=M5)) (n9<|d5 1) (IX λ_ _ _ _ _=>(dz (fJ hu) (PD.pb<|bZ y6 y (d5 1)<|d5 0) G1))<|λ_=>p8) (e9<|j4 c9) u3)
   (e9<|j4 c9))))))))
 match n,h with
 |[.lst Y],h=>
  simp only[B8]at h;split at h
  .rename_i J j;rw[m9 j];split at h
   .rename_i hz;rw[<-h];obtain⟨af,C⟩:=hz;match J,af with
    |p::o,_=>
    obtain⟨a,e⟩:∃a,(p::o).map vd=a:=⟨_,rfl⟩;have i0:J1 (.lst a) (.int 0)=.ok (vd p):=N1 (by rw[V2 (by decide),<-e];rfl);have E:u9 (λd ρ=>R.ok (aDh ρ 0<|Sl.v d)) (λx=>R.ok true) (λρ=>(((uV 1 ρ).bind λx=>J1 x (D.int 0)).bind λd=>((Z8 0 ρ).bind λd=>R.ok [d]).bind λn=>R.ok (d::n)).bind l6) [.no,.v (.lst a)] a=.ok (((p::o).map (· -p)).map vd):=by rw[aBL];rw[show u9 _ _ _ _ a=u9 _ _ _ _ ((p::o).map vd)by rw[e]];refine V0 vd _ _ λq l=>⟨[.v (vd q),Sl.v (.lst a)],rfl,?_⟩;show((J1 (.lst a)<|.int 0).bind _).bind _=_;rw[i0];rfl
    have j:∀w∈(p::o).map (· -p),Sz 1001 w:=λw j=>by obtain⟨q,l,rfl⟩:=aAi.mp j;exact(C.1 q l).sub (C.1 p (.head _))
    have H:(((p::o).map (· -p)).map vd).length<=sizeLine:=by rw[aAj,aAj];exact small C.2
    have I:a.length<=sizeLine:=by rw[<-e,aAj];exact small C.2
    have f:((a.length:Int)==0)=false:=by rw[<-e];simp;lia
    have s:=AX ((p::o).map (· -p));unfold G.U0;dsimp only;rw[e];generalize(p::o).map (· -p)=W at*
    have m:=λu=>AX (W.map<|G.cr u);cases Q:G.A0 W with
    |none=>rw[Q]at s;simp[k5,i7,I,f,E,s,AV,QU]
    |some r=>
     rw[Q]at s;obtain⟨hm,_⟩:=G.u4 Q;have z:=j r hm;have A:u9 (λd ρ=>R.ok (aDh ρ 0<|Sl.v d)) (λx=>R.ok true) (λρ=>((Z8 1 ρ).bind λd=>((Z8 0 ρ).bind λd=>R.ok [d]).bind λn=>R.ok (d::n)).bind v7) [.no,.v (vd r)] (W.map vd)=.ok ((W.map<|G.cr r).map vd):=by rw[aBL];refine V0 vd _ _ λq l=>⟨[.v (vd q),Sl.v (vd r)],rfl,?_⟩;show v7 [vd r,vd q]=_;exact Z9 z.mono (j q l).mono
     have m:=AX (W.map<|G.cr r);have eW:(W.map vd).length=W.length:=aAj ..;rw[eW]at H;cases B:G.A0 (W.map<|G.cr r)with
     |none=>rw[B]at m;simp only[aBL]at A m;simp only[B];simp[k5,i7,I,f,E,s,AV,QU,H,A,m]
     |some i=>
      rw[B]at m;obtain⟨ki,_⟩:=G.u4 B;have T:Sz 2003 i:=by obtain⟨q,l,rfl⟩:=aAi.mp ki;exact(z.cr<|j q l).mono
      have U:u9 (λd ρ=>R.ok (aDh ρ 0<|Sl.v d)) (λx=>R.ok true) (λρ=>(((Z8 1 ρ).bind λd=>((Z8 0 ρ).bind λd=>R.ok [d]).bind λn=>R.ok (d::n)).bind l5).bind λx=>BC x (D.int 0)) [.no,.v (vd i)] (W.map vd)=.ok ((W.map λw=>decide (G.b9 i w≠0)).map D.bl):=by rw[aBL];refine V0 vd _ _ λq l=>⟨[.v (vd q),Sl.v (vd i)],rfl,?_⟩;show(l5 [vd i,vd q]).bind _=_;rw[dZ T.mono (j q l).mono,R.aa0,AN];congr 2;rw[aDA];simp
      have t:=cx (W.map λw=>decide (G.b9 i w≠0));have ean:(W.map λw=>decide (G.b9 i w≠0)).any id=W.any λw=>decide (G.b9 i w≠0):=by rw[List.any_map];rfl
      rw[ean]at t;simp only[aBL]at A m U t;simp only[B];generalize(λw=>decide (G.b9 i w≠0))=Bf at*
      cases hc:W.any Bf with
      |false=>rw[hc]at t;simp[k5,i7,I,f,E,s,AV,QU,H,A,m,U,t]
      |true=>rw[hc]at t;simp[k5,i7,I,f,E,s,AV,QU,H,A,m,U,t]
   .cases h
  .cases h
def Z6 (F4:w9 P w K mg base 2 "dimension_of" 1 B8)(g:fC K mg "refuse_flat" Z7):w9 P w K mg base 3 "refuse_flat" 1 D6:=by
 refine' m8 (k:=2) (F:=_) g qI (λf o p q=>?b) λi d r h=>?_
 case b=>refine' (e9<|D3 (o9 QK (PD.pb<|rE F4 f<|d5 0) G1) (e9 kM) u3)
 match i,h with
 |[.lst Y],h=>
  simp only[D6]at h;split at h
  .rename_i J j;rw[m9 j];split at h
   .rename_i l;rw[<-h];obtain⟨m,a⟩:=l;have n:J≠[]:=λe=>by subst e;cases a
    have e:=LX n m;rw[a]at e;simp[k5,e]
   .cases h
  .cases h
def F3 (aS:w9 P w K mg base 1 "side_of" 2 G2)(g:fC K mg "points_on" X7):w9 P w K mg base 2 "points_on" 2 y9:=by
 refine' m8 (k:=1) (F:=_) g wB (λj l o p=>?b) λf d q h=>?_
 case b=>refine' (e9<|j4<|P1 ["P"] ["plane"] [0] rfl (F1 (sc:=c8 X7) (N:=kZ)) (n9<|d5 1) (hxt λ_ _ _ _ _=>⟨(o9 (oM l) (PD.pb<|bZ aS j (d5 1)<|d5 0) G1),(d5 0)⟩)<|λ_=>p8)
 replace h:=XN h;obtain⟨a,b,c,d,f,rfl,h⟩:=h;replace h:=jG h;obtain⟨Y,f,rfl,h⟩:=h;replace h:=B5 h;obtain⟨rfl,h⟩:=h
 .skip
  split at h
  .rename_i J m;rw[m9 m];split at h
   .rename_i i;rw[<-h];have e:=L0 vd (G:=λd ρ=>R.ok (aDh ρ 0<|Sl.v d)) (ft:=λρ=>((((Z8 1 ρ).bind λd=>((Z8 0 ρ).bind λd=>R.ok [d]).bind λf=>R.ok (d::f)).bind G2).bind λx=>XD x (D.int 0)).bind xP) (fe:=Z8 0) (ρ:=[.no,.v (.tup [D.int a,D.int b,D.int c,D.int d])])
     (λX=>decide (G.b9 ⟨a,b,c⟩ X=d)) vd J λP n=>⟨[.v (vd P),Sl.v (D.tup [D.int a,D.int b,D.int c,D.int d])],rfl,by simp[DS i.1.mono (i.2.1 P n).mono,a0w,G.b9];exact decide_eq_decide.mpr (by lia),λ_=>rfl⟩
    simp[k5,i7,small i.2.2,e];rfl
   .cases h
  .cases h
def J6 (o5:w9 P w K mg base 1 "way_between" 2 l6)(y6:w9 P w K mg base 1 "product_of" 2 l5)(C5:w9 P w K mg base 1 "cross_of" 2 v7)(S1:w9 P w K mg base 2 "plane_through" 3 R5)(T:OA K mg "NO_WAY" [0,0,0])(g:fC K mg "plane_about" Z1):w9 P w K mg base 3 "plane_about" 2 D5:=by
 refine' m8 (k:=2) (F:=_) g pV (λr hu gc p=>?b) λI d hl h=>?_
 case b=>
  refine' (c6 (j5 2 (bZ o5 r (f7 (b8 0) c9)<|f7 (b8 0) c9) p)
   (c6 (j5 3 (vX T) p)
   (c6 (j5 4 (f7 (b8 0) c9) p)
   (c6 (M0 aBv rfl (n9<|d5 1) (l7 5 p) (c6 (j5 6 (bZ o5 r (f7 (b8 0) c9)<|d5 5) p)
   (e9 (D3 (KG.pt<|uT (o9 (oM hu) (b8 3)<|PD.pb<|vX T)<|GQ<|o9 zH (PD.pb<|bZ y6 r (d5 3)<|d5 6) G1) (c6 (j5 3 (bZ C5 r (d5 2)<|d5 6) p)
   (e9<|j5 4 (d5 5) p)) u3))))
   (e9<|j4<|pc3 S1 r (f7 (b8 0) c9) (f7 (b8 0) c9)<|d5 4)))))
 replace h:=uL h;obtain⟨U,I,rfl,h⟩:=h;replace h:=jG h;obtain⟨Y,I,rfl,h⟩:=h;replace h:=B5 h;obtain⟨rfl,h⟩:=h;replace h:=F5 h;obtain⟨a,b,c,U,rfl,h⟩:=h;replace h:=F5 h;obtain⟨d,e,f,U,rfl,h⟩:=h;replace h:=B5 h;obtain⟨rfl,h⟩:=h
 .skip
  split at h
  .rename_i J hw;rw[m9 hw];split at h
   .rename_i hz;rw[<-h];obtain⟨q,E,hs,L⟩:=hz;have vA:(.tup [.int a,.int b,.int c]:D)=vd ⟨a,b,c⟩:=rfl;have vB:(.tup [.int d,.int e,.int f]:D)=vd ⟨d,e,f⟩:=rfl;rw[vA,vB];generalize(⟨a,b,c⟩:G.V)=A at*
    generalize(⟨d,e,f⟩:G.V)=B at*
    simp[k5];have z0:(.tup [.int 0,.int 0,.int 0]:D)=vd 0:=rfl;rw[z0];refine cN (λrest ρ=>∃(j i:G.V) (l:List G.V) (x y:Sl),ρ=[.v (.tup [vd A,vd B]),.v (.lst (aDt vd J)),.v (vd<|B-A),.v (vd j),.v (vd i),x,y]/\rest=l.map vd/\Sz 2003 j/\Sz 1000 i/\(∀X∈l,Sz 1000 X)/\G.D9 (B-A) A l j i=G.D9 (B-A) A J 0 A) ?_ ⟨0,A,J,_,_,rfl,rfl,⟨by decide,by decide,by decide⟩,q,hs.1,rfl⟩ ?_
    .rintro d I ρ ⟨j,i,l,x,y,rfl,s,N,O,t,m⟩;match l,s with
     |P::l,s=>
      injection s with e3 e4;subst e3 e4;have Q:=t P (.head _);have H:=Q.sub q;have e0:=eq0 j;rw[show(.tup [.int 0,.int 0,.int 0]:D)=vd 0 from rfl]at e0;have c1:=Z9 (u:=B-A) (v:=P-A) (E.sub q).mono H.mono;have p1:=dZ (u:=j) (v:=P-A) N.mono H.mono;have w1:=wK A P;have i0:J1 (.tup [vd A,vd B]) (.int 0)=.ok (vd A):=rfl
      conv at m=>lhs;unfold G.D9
      simp only[gF,aAO,aAP,S6,V8,X5,J9,R.aa0,i0,w1,B7,e0,DX,p1,qE];by_cases n:j=0
      .rw[h9 (.inl n)]at m;refine⟨_,?_,G.cr (B-A) (P-A),P,l,.v (vd P),.v (vd<|P-A),rfl,rfl,(((E.sub q).cr H).mono),Q,λX C=>t X (.tail _ C),m⟩;rw[decide_eq_true n];simp only[if_true,R.aa0,c1,B7,aAO,aAP,X5,J9]
      .rw[decide_eq_false n];by_cases o:0<G.b9 j (P-A)
       .rw[h9 (.inr o)]at m;refine⟨_,?_,G.cr (B-A) (P-A),P,l,.v (vd P),.v (vd<|P-A),rfl,rfl,(((E.sub q).cr H).mono),Q,λX C=>t X (.tail _ C),m⟩;rw[decide_eq_true o];simp only[if_true,aAq,if_false,R.aa0,c1,B7,aAO,aAP,X5,J9]
       .rw[ib (λz=>z.elim n o)]at m;refine⟨_,?_,j,i,l,.v (vd P),.v (vd<|P-A),rfl,rfl,N,O,λX C=>t X (.tail _ C),m⟩;rw[decide_eq_false o];simp only[aAq,if_false,R.aa0]
    .rintro ρ ⟨j,i,l,x,y,rfl,s,N,O,t,m⟩;have:l=[]:=by simpa using s.symm
     subst this;have m:(j,i)=G.D9 (B-A) A J 0 A:=m;have eo:(G.D9 (B-A) A J 0 A).2=i:=by rw[<-m]
     unfold G.b7 at L⊢;rw[eo]at L⊢;have pl:=LV ⟨q,E,O⟩ (SY L);simp[pl]
   .cases h
  .cases h
def bA (F3:w9 P w K mg base 2 "points_on" 2 y9)(J6:w9 P w K mg base 3 "plane_about" 2 D5)(F4:w9 P w K mg base 2 "dimension_of" 1 B8)(vh:mg "min"=none)(g:fC K mg "first_pair" aX):w9 P w K mg base 8 "first_pair" 1 G4:=by
 refine' m8 (k:=7) (F:=_) g qS (λf v gc l=>?b) λz d hl h=>?_
 case b=>
  have A:=f.ae0 (by decide);refine' (c6 (j5 1 (aP (WL rfl A)<|w6 (b8 0) C9) l)
   (c6 (j5 2 (zZ (d5 1)<|ET (f7 (b8 1) c9) (f7 (b8 1) c9)<|d4 p5 (PD.pb<|f7 (b8 1) c9) G1) l)
   (c6 (j5 3 (bZ F3 f (bZ J6 f (d5 2)<|d5 0)<|d5 0) l)
   (c6 (D3 (o9 (oM v) (PD.pb<|rE F4 f<|d5 3) G1) (e9<|j4<|d5 2) u3)
   (e9<|j4<|zZ (f7 (b8 3) c9)<|f7 (b8 3) c9)))))
 match z,h with
 |[.lst Y],h=>
  simp only[G4]at h;split at h
  .rename_i m J B;rw[m9 B];split at h
   .rename_i a;rw[<-h];have t:=jj a.good.ord;have i:S5 1000 (m::J):=a.sz.mono;have j:Sz 900 m:=a.sz.1 m (.head _);obtain⟨C,E,H,I,N⟩:=G.yE a.good.solid a.good.mem a.good.least;have o:=X0 j.mono (PU j) i C;have p:=yL j.mono (PU j) i;rw[vk]at o;have u:=gU (d:=(G.b7 m (m+G.kk) (m::J)).2) p.mono i;obtain⟨x,y,r,e⟩:=QD E I N;have O:=MR (n:=(G.b7 m (m+G.kk) (m::J)).1) (d:=(G.b7 m (m+G.kk) (m::J)).2) i;have q:=LX (J:=G.o6 (G.b7 m (m+G.kk) (m::J)).1 (G.b7 m (m+G.kk) (m::J)).2 (m::J)) (by rw[e];simp) O;have Q:J1 (.lst ((G.o6 (G.b7 m (m+G.kk) (m::J)).1 (G.b7 m (m+G.kk) (m::J)).2 (m::J)).map vd)) (.int 0)=.ok (vd x):=N1 (by rw[e];exact oj _ _);have T:J1 (.lst ((G.o6 (G.b7 m (m+G.kk) (m::J)).1 (G.b7 m (m+G.kk) (m::J)).2 (m::J)).map vd)) (.int 1)=.ok (vd y):=N1 (by rw[e];exact mj _ _ _);unfold G.f6;dsimp only;by_cases s:G.U0 (G.o6 (G.b7 m (m+G.kk) (m::J)).1 (G.b7 m (m+G.kk) (m::J)).2 (m::J))=2
    .rw[h9 s];rw[s]at q;generalize(m::J).map vd=L at*
     generalize(G.o6 (G.b7 m (m+G.kk) (m::J)).1 (G.b7 m (m+G.kk) (m::J)).2 (m::J)).map vd=L2 at*
     generalize(G.b7 m (m+G.kk) (m::J)).1=U at*
     generalize(G.b7 m (m+G.kk) (m::J)).2=pm at*
     simp[k5,t,o,u,q,G.kk]
    .rw[ib s];have e0:(G.o6 (G.b7 m (m+G.kk) (m::J)).1 (G.b7 m (m+G.kk) (m::J)).2 (m::J)).getD 0 0=x:=by rw[e];rfl
     have e1:(G.o6 (G.b7 m (m+G.kk) (m::J)).1 (G.b7 m (m+G.kk) (m::J)).2 (m::J)).getD 1 0=y:=by rw[e];rfl
     rw[e0,e1];have hb:((G.U0 (G.o6 (G.b7 m (m+G.kk) (m::J)).1 (G.b7 m (m+G.kk) (m::J)).2 (m::J)):Int)==2)=false:=by rw[beq_eq_false_iff_ne];lia
     generalize(m::J).map vd=L at*
     generalize(G.o6 (G.b7 m (m+G.kk) (m::J)).1 (G.b7 m (m+G.kk) (m::J)).2 (m::J)).map vd=L2 at*
     generalize(G.U0 (G.o6 (G.b7 m (m+G.kk) (m::J)).1 (G.b7 m (m+G.kk) (m::J)).2 (m::J)):Int)=dd at*
     generalize(G.b7 m (m+G.kk) (m::J)).1=U at*
     generalize(G.b7 m (m+G.kk) (m::J)).2=pm at*
     simp[k5,t,o,u,q,hb,Q,T]
   .cases h
  .cases h
def jQ (y6:w9 P w K mg base 1 "product_of" 2 l5)(C5:w9 P w K mg base 1 "cross_of" 2 v7)(o5:w9 P w K mg base 1 "way_between" 2 l6)(g:fC K mg "turn_of" jJ):w9 P w K mg base 2 "turn_of" 4 eJ:=by
 refine' m8 (k:=1) (F:=_) g CH (λm A B C=>?b) λn d E h=>?_
 case b=>refine' (e9<|j4<|bZ y6 m (d5 0)<|bZ C5 m (bZ o5 m (d5 1)<|d5 2)<|bZ o5 m (d5 2)<|d5 3)
 replace h:=F5 h;obtain⟨a,b,c,n,rfl,h⟩:=h;replace h:=F5 h;obtain⟨d,e,f,n,rfl,h⟩:=h;replace h:=F5 h;obtain⟨g,o,i,n,rfl,h⟩:=h;replace h:=F5 h;obtain⟨j,k,l,n,rfl,h⟩:=h;replace h:=B5 h;obtain⟨rfl,h⟩:=h
 .skip
  split at h
  .rename_i y;obtain⟨p,q,r,s⟩:=y;rw[<-h];have t:=Z9 (u:=⟨g,o,i⟩-⟨d,e,f⟩) (v:=⟨j,k,l⟩-⟨g,o,i⟩) (r.sub q).mono (s.sub r).mono;have x:=dZ (u:=⟨a,b,c⟩) (v:=G.cr (⟨g,o,i⟩-⟨d,e,f⟩) (⟨j,k,l⟩-⟨g,o,i⟩)) p.mono ((r.sub q).cr (s.sub r)).mono;simp only[vd,G.FW,G.EZ,G.EF,G.TD,G.VJ,G.SL]at t x;have z:∀a b c d e f:Int,l6 [.tup [.int a,.int b,.int c],.tup [.int d,.int e,.int f]]=.ok (.tup [.int (d-a),.int (e-b),.int (f-c)]):=λ_ _ _ _ _ _=>rfl;simp[k5,z,t,x,G.turn,G.f8]
  .cases h
def U3 (jQ:w9 P w K mg base 2 "turn_of" 4 eJ)(ir:mg "len"=none)(g:fC K mg "left_chain" aW):w9 P w K mg base 3 "left_chain" 2 T9:=by
 refine' m8 (k:=2) (F:=_) g rG (λhr hu gc T=>?b) λj d I h=>?_
 case b=>
  refine' (c6 (gQ 2 (oJ u0) T)
   (c6 (M0 aBv rfl (n9<|d5 1) (l7 3 T) (c6 (kJ (λ_=>1001) aBv (KG.pt<|FN (o9 zH (PD.pb<|KD bT<|b8 2) G1)<|yW<|o9 lz (PD.pb<|pc4 jQ hr (d5 0) (f7 (b8 2)<|fP c9) (f7 (b8 2)<|fP c9)<|d5 3) G1)<|e9<|SM 2)
   (e9<|gI 2<|d5 3)))
   (e9<|GM 2<|j4<|d5 2)))
 replace h:=F5 h;obtain⟨a,b,c,j,rfl,h⟩:=h;replace h:=jG h;obtain⟨Y,j,rfl,h⟩:=h;replace h:=B5 h;obtain⟨rfl,h⟩:=h
 .skip
  split at h
  .rename_i J hw;rw[m9 hw];split at h
   .rename_i L;rw[<-h];obtain⟨U,hs⟩:=L;have vn:(.tup [.int a,.int b,.int c]:D)=vd ⟨a,b,c⟩:=rfl;rw[vn];generalize(⟨a,b,c⟩:G.V)=n at*
    simp[k5];refine cN (λrest ρ=>∃(c i:List G.V) (x:Sl),ρ=[.v (vd n),.v (.lst (aDt vd J)),.o (c.reverse.map vd),x]/\rest=i.map vd/\(∀X∈c,Sz 1000 X)/\(∀X∈i,Sz 1000 X)/\c.length+i.length<=1000/\i.foldl (λc P=>P::G.X1 n P c) c=G.w8 n J) ?_ ⟨[],J,_,rfl,rfl,λX l=>by(cases l),hs.1,by simpa using hs.2,rfl⟩ ?_
    .rintro d j ρ ⟨c,i,x,rfl,t,sc,N,I,u⟩;match i,t with
     |P::i,t=>
      injection t with e3 e4;subst e3 e4;have O:=N P (.head _);simp only[aAt]at I;simp only[gF,aAO,aAP];refine Exists.elim (zJ (n:=1001) (ρ:=[.v (vd n),.v (.lst (aDt vd J)),.o (c.reverse.map vd),.v (vd P)]) (Post:=λρ=>∃e,ρ=[.v (vd n),.v (.lst (aDt vd J)),.o (e.reverse.map vd),.v (vd P)]/\(∀X∈e,Sz 1000 X)/\e.length<=c.length/\e=G.X1 n P c)
       (c:=fw (λρ=>((((uV 2 ρ).bind λd=>R.ok [d]).bind oN).bind λx=>kq x (D.int 1)).bind xP) λρ=>((((Z8 0 ρ).bind λd=>(((uV 2 ρ).bind λx=>J1 x (D.int (-2))).bind λd=>(((uV 2 ρ).bind λx=>J1 x (D.int (-1))).bind λd=>((Z8 3 ρ).bind λd=>R.ok [d]).bind λj=>R.ok (d::j)).bind λj=>R.ok (d::j)).bind λj=>R.ok (d::j)).bind eJ).bind λx=>xy x (D.int 0)).bind xP) (F:=λρ=>(AR 2 ρ).bind λz=>R.ok (Out.nx z.snd))
       (λm ρ=>∃e,ρ=[.v (vd n),.v (.lst (aDt vd J)),.o (e.reverse.map vd),.v (vd P)]/\(∀X∈e,Sz 1000 X)/\e.length<=c.length/\e.length<m/\G.X1 n P e=G.X1 n P c) ?_ (by rintro ρ ⟨e,_,_,_,h,_⟩;lia) ⟨c,rfl,sc,aAh _,by lia,rfl⟩ ?_) ?_
      .rintro m ρ ⟨e,rfl,sub,p,q,f⟩;match e,sub,p,q,f with
       |[],_,_,_,_=>exact .inl (by simp)
       |[a],_,_,_,_=>exact .inl (by simp)
       |b::a::r,sub,p,q,f=>
        have s:(b::a::r).reverse.map vd=r.reverse.map vd++[vd a,vd b]:=by simp
        have A:J1 (.lst ((b::a::r).reverse.map vd)) (.int (-1))=.ok (vd b):=N1 (by rw[s];exact XF _ _ _);have B:J1 (.lst ((b::a::r).reverse.map vd)) (.int (-2))=.ok (vd a):=N1 (by rw[s];exact WX _ _ _);have C:=EA U (sub a<|.tail _ (.head _)) (sub b<|.head _) O;have E:(1:Int)<(aDt vd (b::a::r).reverse).length:=by rw[aAj,aCH];simp;lia
        by_cases Q:G.turn n a b P<=0
        .refine .inr ⟨?_,[.v (vd n),.v (.lst (aDt vd J)),.o ((a::r).reverse.map vd),.v (vd P)],?_,a::r,rfl,λX l=>sub X (.tail _ l),?_,?_,?_⟩
         .simp only[vI,S6,CD,R.aa0,AK,qE,decide_eq_true E,DX,if_true,J9,X5,A,B,C,DM,decide_eq_true Q]
         .show(match(aDt vd (b::a::r).reverse)[(aDt vd (b::a::r).reverse).length-1]? with|some d=>_|none=>_:R (D×Ev)).bind _=_;rw[s];simp
         .simp only[aAt]at p⊢;lia
         .simp only[aAt]at q⊢;lia
         .rw[<-f]
          conv=>rhs;unfold G.X1
          rw[h9 Q]
        .refine .inl ?_;simp only[vI,S6,CD,R.aa0,AK,qE,decide_eq_true E,DX,if_true,J9,X5,A,B,C,DM,decide_eq_false Q]
      .rintro m ρ ⟨e,rfl,sub,p,q,f⟩ H;refine⟨e,rfl,sub,p,?_⟩;match e,sub,p,q,f,H with
       |[],_,_,_,f,_=>exact f
       |[a],_,_,_,f,_=>exact f
       |b::a::r,sub,p,q,f,H=>
        have s:(b::a::r).reverse.map vd=r.reverse.map vd++[vd a,vd b]:=by simp
        have A:J1 (.lst ((b::a::r).reverse.map vd)) (.int (-1))=.ok (vd b):=N1 (by rw[s];exact XF _ _ _);have B:J1 (.lst ((b::a::r).reverse.map vd)) (.int (-2))=.ok (vd a):=N1 (by rw[s];exact WX _ _ _);have C:=EA U (sub a<|.tail _ (.head _)) (sub b<|.head _) O;have E:(1:Int)<(aDt vd (b::a::r).reverse).length:=by rw[aAj,aCH];simp;lia
        simp only[vI,S6,CD,R.aa0,AK,qE,decide_eq_true E,DX,if_true,J9,X5,A,B,C,DM,OZ,decide_eq_false_iff_not]at H;rw[<-f]
        conv=>rhs;unfold G.X1
        rw[ib H]
      .rintro ρ2 ⟨ew,e,rfl,sub,p,y⟩;refine⟨[.v (vd n),.v (.lst (aDt vd J)),.o ((P::e).reverse.map vd),.v (vd P)],?_,P::e,i,_,rfl,rfl,?_,λX l=>N X (.tail _ l),?_,?_⟩
       .rw[ew];have L:(aDt vd e.reverse).length<sizeLine:=by rw[aAj,aCH];exact aDs (show e.length<=1000 by lia) (by decide)
        simp only[B7,X5,J9,R.aa0];show(if(aDt vd e.reverse).length<sizeLine then _ else _)=_;rw[h9 L];simp
       .intro X l;rcases aAd.mp l with rfl|l
        .exact O
        .exact sub X l
       .simp;lia
       .rw[<-u,aEG,y]
    .rintro ρ ⟨c,i,x,rfl,t,sc,N,I,u⟩;have:i=[]:=by simpa using t.symm
     subst this;have u:c=G.w8 n J:=u;subst u;simp[RZ]
   .cases h
  .cases h
def kL (U3:w9 P w K mg base 3 "left_chain" 2 T9)(y:mg "list"=none)(z:mg "reversed"=none)(g:fC K mg "ring_of" kO):w9 P w K mg base 4 "ring_of" 2 N8:=by
 refine' m8 (k:=3) (F:=_) g BY (λi A B j=>?b) λm d C h=>?_
 case b=>
  refine' (c6 (j5 2 (bZ U3 i (d5 0)<|d5 1) j)
   (c6 (j5 3 (bZ U3 i (d5 0)<|PF.pd<|AF (b8 1) rfl) j)
   (e9<|j4<|d4 p5 (PD.pb<|uD (b8 2) cZ<|V7<|fP c9)<|PD.pb<|uD (b8 3) cZ<|V7<|fP c9)))
 replace h:=F5 h;obtain⟨a,b,c,m,rfl,h⟩:=h;replace h:=jG h;obtain⟨Y,m,rfl,h⟩:=h;replace h:=B5 h;obtain⟨rfl,h⟩:=h
 .skip
  split at h
  .rename_i J q;rw[m9 q];split at h
   .rename_i r;rw[<-h];obtain⟨o,e⟩:=r;have s:(.tup [.int a,.int b,.int c]:D)=vd ⟨a,b,c⟩:=rfl;rw[s];generalize(⟨a,b,c⟩:G.V)=n at*
    have t:=WM o e;have f:S5 1000 J.reverse:=e.sub (λP u=>by simpa using u) (by simp);have p:=WM o f;rw[aFE (l:=J)]at p;have E:=rP n J;have v:=rP n J.reverse;rw[aCH]at v;have x:pF (.lst ((G.w8 n J).reverse.map vd).dropLast) (.lst ((G.w8 n J.reverse).reverse.map vd).dropLast)=.ok (.lst ((G.j9 n J).map vd)):=by rw[FJ (by simp only[aGc,aAj,aCH];exact aAs (show _<=2000 by have:=e.2;lia) (by decide))];unfold G.j9;rw[aCr,List.map_dropLast,List.map_dropLast]
    simp[-aFE,k5,t,p,TX,x,uw]
   .cases h
  .cases h
def J2 (m:mg "list"=none)(a:mg "zip"=none)(g:fC K mg "pairs_round" Y6):w9 P w K mg base 1 "pairs_round" 1 w5:=by
 refine' m8 (k:=0) (F:=_) g pR (λn o p q=>?b) λi d r h=>?_
 case b=>refine' (e9<|j4<|PF.pd<|DJ (b8 0) (PD.pb<|d4 p5 (PD.pb<|uD (b8 0) (V7 c9) cZ)<|PD.pb<|uD (b8 0) cZ<|V7 c9) rfl)
 match i,h with
 |[.lst Y],h=>
  simp only[w5]at h;split at h
  .rename_i J j;rw[m9 j];split at h
   .rename_i s;rw[<-h];have l:pF (.lst (J.map vd).tail) (.lst ((J.map vd).take 1))=.ok (.lst ((J.tail++J.take 1).map vd)):=by rw[FJ (by simp only[List.length_tail,aBT,aAj];exact MV (by lia))];rw[aCr,List.map_tail,List.map_take]
    have e:(J.map vd).length=((J.tail++J.take 1).map vd).length:=by
     simp only[aAj,aAB,List.length_tail,aBT]
     lia
    have f:VI [.lst (J.map vd),.lst ((J.tail++J.take 1).map vd)]=.ok ((G.J3 J).map B4):=by show(if _ then _ else _)=_;rw[h9 e,tK (β:=Unit)];rfl
    simp[-aCr,-List.map_tail,-List.map_take,k5,WF,ZL,l,f]
   .cases h
  .cases h
def bL (J6:w9 P w K mg base 3 "plane_about" 2 D5)(kL:w9 P w K mg base 4 "ring_of" 2 N8)(J2:w9 P w K mg base 1 "pairs_round" 1 w5)(B:mg "len"=none)(C:mg "sorted"=none)(g:fC K mg "faces_from" bP):SE P w K mg base 8 3 "faces_from" I9:=by
 obtain⟨f,I,p,j⟩:=g;refine' SU (k:=7) (F:=_) j fK rfl (j.binds λ_ _ _ _ _ _ q r=>match q,r with|[_,_,_],_=>rfl) p (λT A e s H E a=>?hb) ?hm
 case hb=>
  have L:=a.units;have l:=a.ae8;have t:=a.ae0 (by decide);have b:=fK.nd;refine' (c6 (gQ 3 (oJ u0) b)
   (c6 (NY 4 b)
   (c6 (gQ 5 (oJ<|i8 (d5 0) u0) b)
   (c6 (kJ (λ_=>5000) aBv (o9 zH (PD.pb<|KD bT<|b8 5) G1) (c6 (BL 6 5 b)
   (e9 (D3 (IF 4 (d5 6) l) (c6 (j5 7 (bZ J6 a (d5 6) (zP 1 (k:=3) (Φ:=KH P w K mg base 3 1) rfl (i8 (f7 (b8 6) c9) u0) (A1 aG) (a.mono (by decide)))) b)
   (c6 (j5 8 (bZ kL a (uD (b8 7) cZ<|V7 c9) (zP 2 (k:=3) (Φ:=KH P w K mg base 3 1) rfl (i8 (d5 7) u0) (A1 aG) (a.mono (by decide)))) b)
   (c6 (gI 3<|zZ (d5 7)<|d5 8)
   (e9 (M0 aBv rfl (n9<|rE J2 a<|d5 8) (l7 9 b) (c6 (BI 4 GA (d5 9) l)
   (e9<|gI 5<|zZ (f7 (b8 9) c9)<|f7 (b8 9) c9))))))) u3))))
   (e9<|j4<|PF.pd<|DE (b8 3) rfl t)))))
 case hm=>
  intro d N O Q h;simp only[I9]at h;split at h
  .rename_i Y u;split at h
   .rename_i m J v;split at h
    .rename_i i;rw[<-h];obtain⟨i,x,y,n,o⟩:=i;rw[m9 v]at n o;subst y n o;have z:(1:Nat)<=sizeLine:=by decide
     simp only[kQ,J9,t8,x6,R.aa0,aAt,aBo,aEX,z,if_true,B7];exact lq (Φ:=KH P w K mg base 3 1) i x
    .cases h
   .cases h
  .cases h
def rT:Nst:=⟨"about",ER,E6 dF,t9 dF,c8 dF,EH dF,["corner"],[],["spread"],[1],(λρ=>(Z8 1 ρ).bind λd=>.ok (.rt d)),J4,2⟩
def cS:Nst:=⟨"touched_by",iI,E6 J7,t9 J7,c8 J7,EH J7,["plane"],[],["spread"],[1],(λρ=>((p6 (Z8 0) (p6 (Z8 1) P9) ρ).bind y9).bind λd=>.ok (.rt d)),C6,3⟩
def KA {f:bb}{T:ae}{A:cf}{a:List Env}{s:a9}{H:Hp}{E:XK}:NstOk (UW P w K mg base gJ "faces_of" (c8 K5) f T A a s H E) 2 rT where
 sc:=⟨rfl,rfl,rfl,by decide+kernel,by decide+kernel,by decide+kernel,λx h=>GC h,by decide+kernel⟩
 one:=rfl
 body:=λt k e A a s H l=>by have u:=l.units;exact(e9<|j4<|d5 1)
 mm:=by
  intro m n d b g h;match m,n,b,g,h with
  |[_],[_],_,_,h=>cases h;rfl
 bind:=λe o v k p q r=>match q,r with|[_],_=>rfl
 len:=rfl
 at_:=λi j x b g=>match i,b,g with
  |0,b,g=>by obtain rfl:1=j:=Option.some.inj b;obtain rfl:("spread":Str)=x:=Option.some.inj g;exact⟨rfl,rfl⟩
  |i+1,b,_=>nomatch(show(none:Option Nat)=some j from b)
 d0:=rfl
 k0:=rfl
 nm:=rfl
 lc:=.inl rfl
 st:=.inl rfl
 dbg:=by decide
 cdt:=by decide
def nN (F3:w9 P w K mg base 2 "points_on" 2 y9){f:bb}{T:ae}{A:cf}{a:List Env}{s:a9}{H:Hp}{E:XK}:NstOk (UW P w K mg base gJ "faces_of" (c8 K5) f T A a s H E) 2 cS where
 sc:=⟨rfl,rfl,rfl,by decide+kernel,by decide+kernel,by decide+kernel,λx h=>GC h,by decide+kernel⟩
 one:=rfl
 body:=λy m g A a s H l=>by have z:=l.units;exact(e9<|j4<|bZ F3 l (d5 0)<|d5 1)
 mm:=by
  intro n o d b k h;match n,o,b,k,h with
  |[w],[p],_,_,h=>have h:y9 [p,w]=.ok d:=h;show M6 (((p6 (Z8 0) (p6 (Z8 1) P9) [.v p,.v w]).bind y9).bind λd=>.ok (.rt d))=.ok d;have e:p6 (Z8 0) (p6 (Z8 1) P9) [.v p,.v w]=.ok [p,w]:=rfl;rw[e,R.aa0,h];rfl
 bind:=λg q B m r t u=>match t,u with|[_],_=>rfl
 len:=rfl
 at_:=λi j x b k=>match i,b,k with
  |0,b,k=>by obtain rfl:1=j:=Option.some.inj b;obtain rfl:("spread":Str)=x:=Option.some.inj k;exact⟨rfl,rfl⟩
  |i+1,b,_=>nomatch(show(none:Option Nat)=some j from b)
 d0:=rfl
 k0:=rfl
 nm:=rfl
 lc:=.inl rfl
 st:=.inl rfl
 dbg:=by decide
 cdt:=by decide
def D1 {q:bb}(F3:w9 P w K mg base 2 "points_on" 2 y9)(Z6:w9 P w K mg base 3 "refuse_flat" 1 D6)(bA:w9 P w K mg base 8 "first_pair" 1 G4)(bL:SE P w K mg base 8 3 "faces_from" I9)(br:mg "sorted"=none)(nh:mg "set"=none)(O:iM mg base)(i:(q,tbK)∈Tabs.tbs)(g:nj K mg "faces_of" K5 q):w9 P w K mg base 9 "faces_of" 1 D2:=by
 obtain⟨f,fd,cd,Q,T,t⟩:=g;refine' VV (k:=8) (F:=_) t lA (t.fn.binds λ_ _ _ _ _ _ U u=>match U,u with|[_],_=>rfl) Q (λA j s H E a=>?hb) ?hm
 case hb=>
  have hu:=a.units;have gc:=a.ae8;have ye:=a.ae0 (by decide);have y:=lA.nd;refine' (c6 (KO<|rE Z6 a<|d5 0)
   (c6 (j5 1 (PF.pd<|iT (b8 0) rfl ye) y)
   (AU (n1:=rT) (n2:=cS) (clos1:=[("spread",s.heap.objs.size+1)]) (clos2:=[("spread",s.heap.objs.size+1)]) (tb:=tbK) KA (nN F3) ?co1 ?co2 ?hA O rfl T i (by decide+kernel) (by decide+kernel) (by decide+kernel) (by decide+kernel) (by decide) y bL (a.mono (by decide)) (rE bA a<|d5 1) (λ_=>rfl))))
  case co1=>exact⟨rfl,rfl,rfl,λx c h=>h,λx l=>⟨_,by obtain rfl:x= "spread":=aAV.mp l;rfl⟩⟩
  case co2=>exact⟨rfl,rfl,rfl,λx c h=>h,λx l=>⟨_,by obtain rfl:x= "spread":=aAV.mp l;rfl⟩⟩
  case hA=>exact JE
 case hm=>
  intro o d u h;match o,h with
  |[.lst Y],h=>
   simp only[D2]at h;split at h
   .rename_i J hw;rw[m9 hw];split at h
    .rename_i hz;rw[<-h];obtain⟨z,B,C⟩:=hz;obtain⟨m,r,e,L⟩:=Y0 z B (by lia);have p:=WZ (J:=J) (by lia);have fl:=RJ (z.mono (n:=1000)) B;rw[e]at C p⊢;have I:=qx L;have N:=XZ L C;obtain⟨b,eL⟩:∃b,(m::r).map vd=b:=⟨_,rfl⟩;rw[eL]at p I N;show M6 (C4 ((D6 [D.lst (J.map vd)]).bind λ_=>R.ok (Out.nx [.v (.lst (J.map vd)),.no,.no,.no])) _)=_;rw[fl,R.aa0,B7];show M6 (C4 (((rz<|.lst (J.map vd)).bind λo=>R.ok (D.lst o)).bind λd=>R.ok (Out.nx [.v (.lst (J.map vd)),.v d,.no,.no])) _)=_;rw[p,R.aa0,R.aa0,B7];show M6 (((G4 [D.lst b]).bind λd1=>(R.ok [D.lst b]).bind λw1=>(R.ok [D.lst b]).bind λw2=>I9 d1 (J4 w1) (C6 w2)).bind λd=>R.ok (Out.rt d))=_;rw[I,R.aa0,R.aa0,R.aa0,N];rfl
    .cases h
   .cases h
def bR (r:mg "sorted"=none)(s:mg "set"=none)(g:fC K mg "corners_in" aZ):w9 P w K mg base 8 "corners_in" 1 G5:=by
 refine' m8 (k:=7) (F:=_) g rF (λj t u f=>?b) λl d x h=>?_
 case b=>
  have m:=j.ae0 (by decide);refine' (c6 (gQ 1 (oJ u0) f)
   (c6 (M0 aBv rfl (n9<|d5 0) (X8 (n:=2) rfl<|o7 (l7 2 f)<|o7 (l7 3 f) Q5)<|e9<|oT 1<|d5 3)
   (e9<|j4<|PF.pd<|iT (b8 1) rfl m)))
 match l,h with
 |[.lst Y],h=>
  simp only[G5]at h;split at h
  .rename_i o p;split at h
   .rename_i i;rw[<-h];obtain⟨y,z,e⟩:=lI (a:=Sl.v (D.lst Y)) Y o [] Sl.no Sl.no p (by simpa using i.1);rw[aEo,aDB]at e;have q:=WZ i.2;simp[k5,-List.map_flatten,e,q]
   .cases h
  .cases h
def iX (bR:w9 P w K mg base 8 "corners_in" 1 G5)(D1:w9 P w K mg base 9 "faces_of" 1 D2)(g:fC K mg "body_of" kW):w9 P w K mg base 10 "body_of" 1 aF:=by
 refine' m8 (k:=9) (F:=_) g CA (λf s t u=>?b) λl d v h=>?_
 case b=>refine' (e9<|j4<|rE bR f<|rE D1 f<|d5 0)
 match l,h with
 |[.lst Y],h=>
  simp only[aF]at h;split at h
  .rename_i J n;rw[m9 n];split at h
   .rename_i o;rw[<-h];obtain⟨i,j,a⟩:=o;obtain⟨m,r,e,L⟩:=Y0 i j (by lia);have p:=iS i j a;have x:((i9<|c7 J).flatMap (G.d7<|c7 J)).length<=200/\(c7<|(i9<|c7 J).flatMap (G.d7<|c7 J)).length<=23:=by rw[e]at a⊢;exact tZ L a
    have q:=DP (J:=c7 J) (fs:=i9 (c7 J)) (by lia) (by lia);simp[k5,p,q,t4]
   .cases h
  .cases h
end
section
variable [Tabs]
variable{P:be} {w:cp} {K:i6} {mg:cH} {base:cq}
def gD (D1:w9 P w K mg base 9 "faces_of" 1 D2)(J2:w9 P w K mg base 1 "pairs_round" 1 w5)(vh:mg "min"=none)(ni:mg "max"=none)(br:mg "sorted"=none)(nh:mg "set"=none)(g:fC K mg "edges_of" bB):w9 P w K mg base 10 "edges_of" 1 eG:=by
 refine' m8 (k:=9) (F:=_) g zD (λr hu gc nd=>?b) λA d hl h=>?_
 case b=>
  have s:=r.ae0 (by decide);refine' (c6 (gQ 1 (oJ u0) nd)
   (c6 (M0 aBv rfl (n9<|rE D1 r<|d5 0) (X8 (n:=2) rfl<|o7 (l7 2 nd)<|o7 (l7 3 nd) Q5)<|e9<|oT 1<|P1 ["pair"] [] [] rfl (F1 (sc:=c8 bB) (N:=oR)) (n9<|rE J2 r<|d5 3) (IX λ_ _ _ _ _=>(zZ (aP (UL rfl s)<|w6 (b8 0) C9)<|aP (TZ rfl s)<|w6 (b8 0) C9))<|λ_=>p8)
   (e9<|j4<|PF.pd<|rH (b8 1) rfl s)))
 match A,h with
 |[.lst Y],h=>
  simp only[eG]at h;split at h
  .rename_i J j;rw[m9 j];split at h
   .rename_i L;rw[<-h];obtain⟨p,q,B⟩:=L;have O:=iS p q (by lia);obtain⟨Q,af,T⟩:=O9 p q (by lia);have U:∀f∈i9 (c7 J),(G.d7 (c7 J) f).length<=3000:=λf t=>by have nd:=((Q f).mp t).aa2 (m5 J);exact aAs (G.q8 nd.aa4 (m:=c7 J) λv hv=>(G.c5.mp<|nd.aa3 hv).1) (by lia)
    have u:∀i C,i++C=i9 (c7 J)->(Y8 (c7 J) i).length<=sizeLine:=λi C e=>HL p q B e;have x:=HH p q B;simp-implicitDefEqProofs [k5,O];generalize i9 (c7 J)=fs at*
    generalize c7 J=S at*
    refine cN (λrest ρ=>∃done i a b,rest=i.map (k8 S)/\ρ=[.v (.lst (J.map vd)),.o ((Y8 S done).map wP),a,b]/\done++i=fs) ?_ ⟨[],fs,_,_,rfl,rfl,rfl⟩ ?_
    .rintro d A ρ ⟨done,i,a,b,j,rfl,l⟩;match i,j,l with
     |f::i,j,l=>
      injection j with e3 e4;subst e3 e4;have t:f∈fs:=by rw[<-l];simp
      have po:=xZ (U f t);have E:(done++[f])++i=fs:=by rw[<-l];simp
      have H:Y8 S (done++[f])=Y8 S done++G.J3 (G.d7 S f):=by simp[Y8]
      have I:=u (done++[f]) i E;rw[H,aAB]at I;refine⟨[.v (.lst (J.map vd)),.o ((Y8 S<|done++[f]).map wP),.v (fX f.1 f.2),.v (.lst ((G.d7 S f).map vd))],?_,done++[f],i,_,_,rfl,rfl,E⟩;have cl:(G.J3<|G.d7 S f).length<=sizeLine:=by lia
      have cm:∀y:Ev->R D,(∀e:G.V×G.V,y [.v (B4 e)]=.ok (wP e))->u9 (λd ρ=>R.ok (aDh ρ 0<|Sl.v d)) (λ_=>R.ok true) y [.no] ((G.J3<|G.d7 S f).map B4)=.ok ((G.J3<|G.d7 S f).map wP):=λy z=>V0 B4 wP _ λe _=>⟨_,rfl,z e⟩;simp[T0,k8,bW,F8,fO,po,cl,i7];rw[cm _ λe=>?_]
      .simp[RY,H,I]
      .have m1:nB [B4 e]=_:=SO e.1 e.2;have m2:oV [B4 e]=_:=RL e.1 e.2;simp[m1,m2,fA,wP];decide
    .rintro ρ ⟨done,i,a,b,j,rfl,l⟩;have:i=[]:=by simpa using j.symm
     subst this;rw[aCo]at l;subst l;simp[x]
   .exact absurd h (by simp)
  .exact absurd h (by simp)
def gA (D1:w9 P w K mg base 9 "faces_of" 1 D2)(aS:w9 P w K mg base 1 "side_of" 2 G2)(ni:mg "max"=none)(g:fC K mg "where_in" bD):w9 P w K mg base 10 "where_in" 2 T2:=by
 refine' m8 (k:=9) (F:=_) g yO (λs hu gc nd=>?b) λj d t h=>?_
 case b=>refine' (e9<|j4<|fP<|aP (UQ rfl)<|w6 (PD.pb<|P1 ["face"] ["P"] [1] rfl (F1 (sc:=c8 bD) (N:=pD)) (n9<|rE D1 s<|d5 0) (IX λ_ _ _ _ _=>(bZ aS s (f7 (b8 0) c9)<|d5 1))<|λ_=>p8) C9)
 match j,h with
 |[.lst Y,p],h=>
  simp only[T2]at h;split at h
  .rename_i J e l B;rw[m9 l,kP B];split at h
   .rename_i C;rw[<-h];obtain⟨i,u,y,z⟩:=C;have E:=iS i u y;obtain⟨m,A,t⟩:=O9 i u y;have H:(i9<|c7 J).length<=sizeLine:=aAs t (by decide);have I:∀(ρ:Ev),ρ.length=2->Z8 1 ρ=.ok (vd e)->u9 (λd ρ=>R.ok (aDh ρ 0<|Sl.v d)) (λx=>R.ok true) (λρ=>(((uV 0 ρ).bind λx=>J1 x (D.int 0)).bind λd=>((Z8 1 ρ).bind λd=>R.ok [d]).bind λj=>R.ok (d::j)).bind G2) ρ ((i9<|c7 J).map (k8<|c7 J))=.ok (((i9<|c7 J).map λf=>sgn (G.b9 f.1 e-f.2)).map D.int):=λρ n l=>by
     rw[L0 (r:=λd=>match d with|.tup [p,_]=>(match G2 [p,vd e]with|.ok x=>x|_=>.non)|_=>.non)]
     .congr 1;rw[aBL,aBL];refine aED λf o=>?_;simp only[aGw,tQ i z ((m f).mp o)]
     .intro d L;obtain⟨f,o,rfl⟩:=aAi.mp L;match ρ,n with
      |[a,b],_=>refine⟨_,rfl,?_⟩;have q:Z8 1 [.v (k8 (c7 J) f),b]=.ok (vd e):=l;have O:J1 (k8 (c7 J) f) (.int 0)=.ok (fX f.1 f.2):=EM rfl;have Q:=tQ i z ((m f).mp o);simp[q,O,Q]
    simp[k5,E,H];rw[I _ (by rfl) (by rfl)];have T:FY [.lst (((i9<|c7 J).map λf=>sgn (G.b9 f.1 e-f.2)).map D.int)]=.ok (.int (kC<|(i9<|c7 J).map λf=>sgn (G.b9 f.1 e-f.2))):=by simp only[FY,wS];exact h9 (by simpa using A)
    have U:=JC m A e;generalize(i9<|c7 J).map (λf=>sgn (G.b9 f.1 e-f.2))=ns at*
    simp[T,RP,U]
   .exact absurd h (by simp)
  .exact absurd h (by simp)
end
section
variable [Tabs]
variable{P:be} {w:cp} {K:i6} {mg:cH} {base:cq}
def L3 (o:mg "len"=none)(g:fC K mg "_law_cell" cD):w9 P w K mg base 1 "_law_cell" 2 eM:=by
 refine' m8 (k:=0) (F:=_) g uK (λp q r s=>?b) λi d t h=>?_
 case b=>
  refine' (c6 (D3 (o9 QK (b8 1)<|PD.pb<|KD bT<|b8 0) (e9<|j4<|f7 (b8 0)<|d5 1) u3)
   (e9<|j4<|d4 p5 (PD.pb<|d4 p5 (PD.pb<|d4 m6 (PD.pb<|d4 m6 G1<|b8 1)<|b8 1)<|PD.pb<|d4 m6 G1<|b8 1) G1))
 match i,h with
 |[.lst Y,.int k],h=>
  simp only[eM]at h;split at h
  .rename_i j;obtain⟨l,u⟩:=j;rw[<-h];have a:bits k<=20:=L4 (by lia) (by lia);have m:bits (6*k)<=30:=L4 (by lia) (by lia);by_cases f:k<Y.length
   .have e:Y[k.toNat]?=some Y[k.toNat]:=aAg (by lia);have n:qQ Y k=some Y[k.toNat]:=by rw[V2 l,e]
    simp[k5,f,N1 n,sQ,e]
   .have e:Y[k.toNat]?=none:=aBR.mpr (by lia);simp[k5,f,sQ,e,j1 (n4.of (show bits 6<=10 by decide) a),j1 (n4.of m a),j1 (n4.of (show bits 5<=10 by decide) a),M.xH]
  .cases h
def K4 (g:fC K mg "_law_way" gG):w9 P w K mg base 1 "_law_way" 2 l6:=by
 refine' m8 (k:=0) (F:=_) g yP (λf i j l=>?b) λe d m h=>?_
 case b=>refine' (e9<|j4<|ET (d4 A6 (PD.pb<|f7 (b8 1) c9)<|PD.pb<|f7 (b8 0) c9) (d4 A6 (PD.pb<|f7 (b8 1) c9)<|PD.pb<|f7 (b8 0) c9)<|d4 A6 (PD.pb<|f7 (b8 1) c9)<|PD.pb<|f7 (b8 0) c9)
 replace h:=F5 h;obtain⟨a,b,c,e,rfl,h⟩:=h;replace h:=F5 h;obtain⟨n,o,p,e,rfl,h⟩:=h;replace h:=B5 h;obtain⟨rfl,h⟩:=h;exact h
def M9 (g:fC K mg "_law_cross" bG):w9 P w K mg base 1 "_law_cross" 2 v7:=by
 refine' m8 (k:=0) (F:=_) g qU (λp q r s=>?b) λe d t h=>?_
 case b=>refine' (e9<|j4<|ET (d4 A6 (PD.pb<|d4 m6 (PD.pb<|f7 (b8 0) c9)<|PD.pb<|f7 (b8 1) c9)<|PD.pb<|d4 m6 (PD.pb<|f7 (b8 0) c9)<|PD.pb<|f7 (b8 1) c9) (d4 A6 (PD.pb<|d4 m6 (PD.pb<|f7 (b8 0) c9)<|PD.pb<|f7 (b8 1) c9)<|PD.pb<|d4 m6 (PD.pb<|f7 (b8 0) c9)<|PD.pb<|f7 (b8 1) c9)<|d4 A6 (PD.pb<|d4 m6 (PD.pb<|f7 (b8 0) c9)<|PD.pb<|f7 (b8 1) c9)<|PD.pb<|d4 m6 (PD.pb<|f7 (b8 0) c9)<|PD.pb<|f7 (b8 1) c9)
 replace h:=F5 h;obtain⟨a,b,c,e,rfl,h⟩:=h;replace h:=F5 h;obtain⟨u,v,x,e,rfl,h⟩:=h;replace h:=B5 h;obtain⟨rfl,h⟩:=h;split at h
 .rename_i o;obtain⟨⟨f,i,j⟩,l,m,n⟩:=o;rw[<-h];simp[k5,j1 (n4.of i n),j1 (n4.of j m),j1 (n4.of j l),j1 (n4.of f n),j1 (n4.of f m),j1 (n4.of i l)]
 .cases h
def F6 (g:fC K mg "_law_product" V3):w9 P w K mg base 1 "_law_product" 2 l5:=by
 refine' m8 (k:=0) (F:=_) g lZ (λp q r s=>?b) λe d u h=>?_
 case b=>refine' (e9<|j4<|d4 p5 (PD.pb<|d4 p5 (PD.pb<|d4 m6 (PD.pb<|f7 (b8 0) c9)<|PD.pb<|f7 (b8 1) c9)<|PD.pb<|d4 m6 (PD.pb<|f7 (b8 0) c9)<|PD.pb<|f7 (b8 1) c9)<|PD.pb<|d4 m6 (PD.pb<|f7 (b8 0) c9)<|PD.pb<|f7 (b8 1) c9)
 replace h:=XQ h;obtain⟨a,b,c,t,e,rfl,h⟩:=h;replace h:=F5 h;obtain⟨v,x,y,e,rfl,h⟩:=h;replace h:=B5 h;obtain⟨rfl,h⟩:=h;split at h
 .rename_i f;obtain⟨⟨i,j,l⟩,m,n,o⟩:=f;rw[<-h];simp[k5,XU,WW,WT,j1 (n4.of i m),j1 (n4.of j n),j1 (n4.of l o)]
 .cases h
def dM (g:fC K mg "_law_spot" cE):w9 P w K mg base 1 "_law_spot" 1 mJ:=by
 refine' m8 (k:=0) (F:=_) g wC (λm n o i=>?b) λj d p h=>?_
 case b=>
  refine' (c6 (j5 1 (d4 A6 (PD.pb<|d4 K7 (b8 0) G1) G1) i)
   (c6 (j5 2 (d4 A6 (PD.pb<|d4 K7 (PD.pb<|d4 G3 (b8 0) G1) G1) G1) i)
   (e9<|j4<|ET (d5 1) (d5 2)<|d4 p5 (PD.pb<|d4 m6 (b8 1)<|b8 1)<|PD.pb<|d4 m6 (b8 2)<|b8 2)))
 replace h:=W5 h;obtain⟨t,j,rfl,h⟩:=h;replace h:=B5 h;obtain⟨rfl,h⟩:=h;replace h:=CZ h;obtain⟨q,rfl⟩:=h;have e:∀x:Int,dJ (.int x) (.int 13)=.ok (.int (x.fmod 13)):=λx=>aL (by decide);have f:S9 (.int t) (.int 13)=.ok (.int (t.fdiv 13)):=kN (by decide) (by decide);have g:∀a:Int,bits (a.fmod 13-6)<=5:=λa=>bits_sub (bits_fmod (by decide) (show bits 13<=4 by decide)) (show bits 6<=4 by decide);have l:∀a:Int,gK (.int (a.fmod 13-6)) (.int (a.fmod 13-6))=.ok (.int ((a.fmod 13-6)*(a.fmod 13-6))):=λa=>j1 (n4.of (g a)<|g a);simp[k5,e,f,l,fA,qO,sizeLine]
def bU (K4:w9 P w K mg base 1 "_law_way" 2 l6)(M9:w9 P w K mg base 1 "_law_cross" 2 v7)(F6:w9 P w K mg base 1 "_law_product" 2 l5)(g:fC K mg "_law_solid" N0):w9 P w K mg base 2 "_law_solid" 1 cO:=by
 refine' m8 (k:=1) (F:=_) g rD (λt e gc f=>?b) λj d p h=>?_
 case b=>
  refine' (c6 (aT 1 ["one"] ["points"] [0] f rfl (F1 (sc:=c8 N0) (N:=bK)) (n9<|d5 0) (IX λ_ _ _ _ _=>(bZ K4 t (f7 (b8 1) c9)<|d5 0))<|λ_=>p8)
   (c6 (M0 aBv rfl (n9<|d5 1) (l7 2 f) (e9 (M0 aBv rfl (n9<|d5 1) (l7 3 f) (c6 (j5 4 (bZ M9 t (d5 2)<|d5 3) f)
   (e9<|D3 (KG.pt<|FN (o9 (fJ e) (b8 4)<|PD.pb<|ET c9 c9 c9)<|yW<|o9 (fJ e) (PD.pb<|P1 ["w"] ["crossed"] [4] rfl (F1 (sc:=c8 N0) (N:=bK)) (n9<|d5 1) (hxt λ_ _ _ _ _=>⟨(o9 (fJ e) (PD.pb<|bZ F6 t (d5 1)<|d5 0) G1),(d5 0)⟩)<|λ_=>p8)<|PD.pb<|kI u0) (e9<|j4<|d5 0) u3)))))
   (c6 (vE (f7 (b8 0) c9)<|X8 (n:=3) rfl<|o7 (l7 5 f)<|o7 (l7 6 f)<|o7 (l7 7 f) Q5)
   (e9<|j4<|d4 p5 (b8 0)<|PD.pb<|kI<|i8 (ET (d4 p5 (b8 5) G1) (d5 6)<|d5 7)<|i8 (ET (d5 5) (d4 p5 (b8 6) G1)<|d5 7)<|i8 (ET (d5 5) (d5 6)<|d4 p5 (b8 7) G1) u0))))
 match j,h with
 |[.lst Y],h=>
  simp only[cO]at h;split at h
  .rename_i J e1;rw[m9 e1];split at h
   .rename_i hz;rw[<-h];obtain⟨af,y,p⟩:=hz;match J,af with
    |P::ps,_=>
    have l:=VH (P:=P) (ps:=ps);have B:=ZX (P:=P) (ps:=ps);obtain⟨J,hpts⟩:∃q,P::ps=q:=⟨_,rfl⟩;have C:J1 (.lst (J.map vd)) (.int 0)=.ok (vd P):=N1 (by rw[V2 (by decide),<-hpts];rfl);rw[hpts]at l B y p⊢;have c1:u9 (λd ρ=>R.ok (aDh ρ 0<|Sl.v d)) (λx=>R.ok true) (λρ=>(((uV 1 ρ).bind λx=>J1 x (D.int 0)).bind λd=>((Z8 0 ρ).bind λd=>R.ok [d]).bind λj=>R.ok (d::j)).bind l6) [.no,.v (.lst (J.map vd))] (J.map vd)=.ok ((J.map (· -P)).map vd):=by rw[aBL];refine V0 vd _ _ λq E=>⟨[.v (vd q),Sl.v (.lst (J.map vd))],rfl,?_⟩;show((J1 (.lst (J.map vd))<|.int 0).bind _).bind _=_;rw[C];rfl
    have i:∀w∈J.map (· -P),Sz 301 w:=λw i=>by obtain⟨q,E,rfl⟩:=aAi.mp i;exact(y q E).sub (y P (by rw[<-hpts];exact .head _))
    have H:J.length<=sizeLine:=aAs p (by decide);have I:(J.map (· -P)).length<=sizeLine:=by rw[aAj];exact H
    generalize J.map (· -P)=W at*
    have c2:∀u∈W,∀v∈W,u9 (λd ρ=>R.ok (aDh ρ 0<|Sl.v d)) (λρ=>((((Z8 1 ρ).bind λd=>((Z8 0 ρ).bind λd=>R.ok [d]).bind λj=>R.ok (d::j)).bind l5).bind λx=>BC x (D.int 0)).bind xP) (Z8 0) [.no,.v (vd<|G.cr u v)] (W.map vd)=.ok ((W.filter λw=>decide (G.b9 (G.cr u v) w≠0)).map vd):=λu e v r=>by refine L0 vd _ _ _ λw hW=>⟨[.v (vd w),Sl.v (vd<|G.cr u v)],rfl,?_,λ_=>rfl⟩;show((l5 [vd (G.cr u v),vd w]).bind _).bind _=_;rw[dZ ((i u e).cr (i v r)).mono (i w hW).mono,R.aa0,AN];show R.ok _=_;congr 1;rw[aDA];simp
    simp[k5,i7,H,c1,X9];refine WE (x:=.lst (J.map vd)) vd (ZK W) (λρ=>∃a b c,ρ=[.v (.lst (J.map vd)),.v (.lst (W.map vd)),a,b,c,.no,.no,.no]) ⟨_,_,_,rfl⟩ ?_ ?_ ?_
    .rintro u e ρ ⟨a,b,c,rfl⟩;simp[X9];refine qJ vd (ZT W u) (λρ=>∃b c,ρ=[.v (.lst (J.map vd)),.v (.lst (W.map vd)),.v (vd u),b,c,.no,.no,.no]) ?_ W _ ⟨_,_,rfl⟩ ?_
     .rintro ρ ⟨b,c,rfl⟩;exact⟨_,_,_,rfl⟩
     .rintro v r ρ ⟨b,c,rfl⟩;have A:=Z9 (i u e).mono (i v r).mono;have O:=c2 u e v r;have c4:((W.filter λw=>decide (G.b9 (G.cr u v) w≠0)).map vd)=((W.filter λw=>decide (G.b9 (G.cr u v) w≠0)).map vd):=rfl;have Q:(!(W.filter λw=>decide (G.b9 (G.cr u v) w≠0)).isEmpty)=true↔∃w∈W,G.b9 (G.cr u v) w≠0:=by rw[Bool.not_eq_true',<-Bool.not_eq_true,List.isEmpty_iff,aEc];simp
      have s:=SW (W.filter λw=>decide (G.b9 (G.cr u v) w≠0));unfold ZT;rw[<-Q];clear Q c4;generalize(W.filter λw=>decide (G.b9 (G.cr u v) w≠0))=L at*
      generalize G.cr u v=X at*
      have m:=ne0 X;by_cases o:X=0
      .refine .inr ⟨λz=>z.1 o,[.v (.lst (J.map vd)),.v (.lst (W.map vd)),.v (vd u),.v (vd v),.v (vd X),.no,.no,.no],?_,_,_,rfl⟩;simp only[o,decide_true,aDe]at m;simp[-jR,A,o,m,xP]
      .simp only[o,decide_false,Bool.not_false]at m;cases T:L.isEmpty with
       |true=>rw[T]at s;refine .inr ⟨λz=>by simp at z,[.v (.lst (J.map vd)),.v (.lst (W.map vd)),.v (vd u),.v (vd v),.v (vd X),.no,.no,.no],?_,_,_,rfl⟩;simp[-jR,A,m,xP,X9,I,O,s,seen]
       |false=>rw[T]at s;refine .inl ⟨⟨o,rfl⟩,?_⟩;simp[-jR,A,m,xP,X9,I,O,s,seen]
    .intro q;rw[l q]
    .rintro q ρ ⟨a,b,c,rfl⟩;rw[B q];have U:(J.map vd).length+3<=sizeLine:=by rw[aAj];exact aAs (Nat.add_le_add_right p 3) (by decide)
     rw[aAj]at U;have s3:3<=sizeLine:=by decide
     simp[C,IL,bW,F8,fO,fA,yV,pF,s3,U]
   .exact absurd h (by simp)
  .exact absurd h (by simp)
def Z2 (g:fC K mg "_law_slants" P3):w9 P w K mg base 1 "_law_slants" 1 aU:=by
 refine' m8 (k:=0) (F:=_) g oU (λU I Y o=>?b) λJ d hl h=>?_
 case b=>
  refine' (c6 (j5 1 (kI<|i8 (d4 A6 (PD.pb<|d4 K7 (PD.pb<|d4 G3 (b8 0) G1) G1) G1)<|i8 (d4 A6 (PD.pb<|d4 K7 (PD.pb<|d4 G3 (b8 0) G1) G1) G1)<|i8 (d4 A6 (PD.pb<|d4 K7 (PD.pb<|d4 G3 (b8 0) G1) G1) G1) u0) o)
   (c6 (D3 (o9 (oM I) (PD.pb<|d4 K7 (b8 0) G1) G1) (e9<|aT 1 ["number"] [] [] o rfl (F1 (sc:=c8 P3) (N:=fH)) (n9<|d5 1) (IX λ_ _ _ _ _=>(d4 m6 (b8 0) G1))<|λ_=>p8) u3)
   (c6 (j5 2 (d4 A6 (PD.pb<|d4 K7 (PD.pb<|d4 m6 (PD.pb<|d4 G3 (b8 0) G1) G1)<|PD.pb<|d4 p5 (PD.pb<|d4 m6 G1<|PD.pb<|d4 NU G1 G1) G1)<|PD.pb<|d4 NU G1 G1) o)
   (e9<|j4<|d4 p5 (b8 1)<|PD.pb<|kI<|i8 (d5 2)<|i8 (d4 A6 G1<|PD.pb<|d4 G3 (b8 2) G1)<|i8 (d4 K7 (PD.pb<|d4 G3 (b8 0) G1) G1)<|i8 (d4 K7 (PD.pb<|d4 G3 (b8 0) G1) G1) u0))))
 match J,h with
 |[.int t],h=>
  simp only[aU]at h;split at h
  .rename_i L;rw[<-h];have f:OE (.int 10) (.int 20)=.ok (.int 100000000000000000000):=(KY ⟨by decide,by decide,by decide⟩).trans (by rfl);have i:gK (.int 2) (.int 100000000000000000000)=.ok (.int 200000000000000000000):=(j1 (n4.of (show bits 2<=80 by decide) (show bits 100000000000000000000<=80 by decide))).trans (by rfl);have j:∀{x w:Int},0<w->dJ (.int x) (.int w)=.ok (.int (x.fmod w)):=λO=>aL O;have e:∀{x w:Int},0<w->bits w<=80->S9 (.int x) (.int w)=.ok (.int (x.fdiv w)):=λw0 Q=>kG ⟨by lia,o8 Q⟩;have p:S9 (.int t) (.int 3)=.ok (.int (t.fdiv 3)):=e (by decide) (by decide);have l:S9 (.int t) (.int 21)=.ok (.int (t.fdiv 21)):=e (by decide) (by decide);have a:S9 (.int t) (.int 147)=.ok (.int (t.fdiv 147)):=e (by decide) (by decide);have q:S9 (.int t) (.int 9)=.ok (.int (t.fdiv 9)):=e (by decide) (by decide);have r:S9 (.int t) (.int 1029)=.ok (.int (t.fdiv 1029)):=e (by decide) (by decide);have s:S9 (.int (zF t)) (.int 7)=.ok (.int ((zF t).fdiv 7)):=e (by decide) (by decide);have T:bits (t.fdiv 1029)<=3000000:=bits_fdiv L;have u:gK (.int (t.fdiv 1029)) (.int 271828182845904523536)=.ok (.int (t.fdiv 1029*271828182845904523536)):=j1 (n4.of T (show bits 271828182845904523536<=80 by decide));have v:∀x:Int,dJ (.int x) (.int 7)=.ok (.int (x.fmod 7)):=λx=>j (by decide);have y:∀x:Int,dJ (.int x) (.int 3)=.ok (.int (x.fmod 3)):=λx=>j (by decide);have m:∀x:Int,dJ (.int x) (.int 50)=.ok (.int (x.fmod 50)):=λx=>j (by decide);have z:∀x:Int,dJ (.int x) (.int 2)=.ok (.int (x.fmod 2)):=λx=>j (by decide);have A:∀x:Int,dJ (.int x) (.int 200000000000000000001)=.ok (.int (x.fmod 200000000000000000001)):=λx=>j (by decide);have B:(t.fdiv 1029*271828182845904523536).fmod 200000000000000000001-100000000000000000000=zF t:=rfl;have C:∀k:Int,(t.fdiv k).fmod 7-3=s7 t k:=λk=>rfl;have E:∀k:Int,gK (.int (s7 t k)) (.int 7654321)=.ok (.int (s7 t k*7654321)):=λk=>by exact j1 (n4.of (bits_sub (n:=80) (bits_fmod (by decide) (by decide)) (by decide)) (show bits 7654321<=80 by decide))
   by_cases H:t.fmod 3=2
   .simp[k5,f,i,p,l,a,q,r,s,u,v,y,m,z,A,B,C,E,H,QZ,LK,sizeLine,yV,pF,i7]
   .simp[k5,f,i,p,l,a,q,r,s,u,v,y,m,z,A,B,C,E,H,QZ,LK,sizeLine,yV,pF,i7]
  .exact absurd h (by simp)
def W4 (g:fC K mg "_law_slanted" V4):w9 P w K mg base 1 "_law_slanted" 2 N6:=by
 refine' m8 (k:=0) (F:=_) g mF (λhr O gc j=>?b) λQ d hl h=>?_
 case b=>
  refine' (c6 (vE (d5 0)<|X8 (n:=3) rfl<|o7 (l7 2 j)<|o7 (l7 3 j)<|o7 (l7 4 j) Q5)
   (c6 (j5 2 (d4 p5 (b8 2)<|PD.pb<|d4 m6 (PD.pb<|f7 (b8 1) c9)<|b8 3) j)
   (c6 (j5 3 (d4 p5 (b8 3)<|PD.pb<|d4 m6 (PD.pb<|f7 (b8 1) c9)<|b8 4) j)
   (c6 (j5 4 (d4 p5 (b8 4)<|PD.pb<|d4 m6 (PD.pb<|f7 (b8 1) c9)<|b8 2) j)
   (c6 (D3 (o9 (oM O) (PD.pb<|f7 (b8 1) c9) G1) (e9<|OF 2 3 rfl j<|i8 (d5 3)<|i8 (d5 2) u0) u3)
   (e9<|j4<|ET (d4 p5 (b8 2)<|PD.pb<|f7 (b8 1) c9) (d4 p5 (b8 3)<|PD.pb<|f7 (b8 1) c9)<|d4 p5 (b8 4)<|PD.pb<|f7 (b8 1) c9))))))
 match Q,h with
 |[p,.lst Y],h=>
  simp only[N6]at h;split at h
  .rename_i P l T U;rw[kP T,nK U];split at h
   .rename_i o;rw[<-h];obtain⟨⟨q,m⟩,hP⟩:=o;match l,q,m with
    |[a,b,c,f,i,e,s],_,m=>
     obtain⟨x,y,z⟩:=P;obtain⟨hx,r,o⟩:=hP;have t:bits a<=100:=m a (by simp);have jb:bits b<=100:=m b (by simp);have hc:bits c<=100:=m c (by simp);have u:gK (.int a) (.int y)=.ok (.int (a*y)):=j1 (n4.of t r);have v:gK (.int b) (.int z)=.ok (.int (b*z)):=j1 (n4.of jb o);have A:gK (.int c) (.int (x+a*y))=.ok (.int (c*(x+a*y))):=j1 (n4.of hc<|bits_add (o8 (n:=600) hx)<|bits_mul t r);have B:J1 (.lst [.int a,.int b,.int c,.int f,.int i,.int e,.int s]) (.int 0)=.ok (.int a):=N1 rfl;have C:J1 (.lst [.int a,.int b,.int c,.int f,.int i,.int e,.int s]) (.int 1)=.ok (.int b):=N1 rfl;have E:J1 (.lst [.int a,.int b,.int c,.int f,.int i,.int e,.int s]) (.int 2)=.ok (.int c):=N1 rfl;have H:J1 (.lst [.int a,.int b,.int c,.int f,.int i,.int e,.int s]) (.int 3)=.ok (.int f):=N1 rfl;have I:J1 (.lst [.int a,.int b,.int c,.int f,.int i,.int e,.int s]) (.int 4)=.ok (.int i):=N1 rfl;have J:J1 (.lst [.int a,.int b,.int c,.int f,.int i,.int e,.int s]) (.int 5)=.ok (.int e):=N1 rfl;have L:J1 (.lst [.int a,.int b,.int c,.int f,.int i,.int e,.int s]) (.int 6)=.ok (.int s):=N1 rfl;by_cases N:s=1
     .subst N;simp[k5,vd,LK,u,v,A,B,C,E,H,I,J,L,rM,G.Sl.put,fA,sizeLine,IL,bW,F8,fO]
     .simp[k5,vd,LK,u,v,A,B,C,E,H,I,J,L,rM,G.Sl.put,fA,sizeLine,IL,bW,F8,fO,N]
   .exact absurd h (by simp)
  .exact absurd h (by simp)
def cK (L3:w9 P w K mg base 1 "_law_cell" 2 eM)(bU:w9 P w K mg base 2 "_law_solid" 1 cO)(dM:w9 P w K mg base 1 "_law_spot" 1 mJ)(W4:w9 P w K mg base 1 "_law_slanted" 2 N6)(Z2:w9 P w K mg base 1 "_law_slants" 1 aU)(iX:w9 P w K mg base 10 "body_of" 1 aF)(ic:mg "range"=none)(jr:mg "enumerate"=none)(g:fC K mg "_law_land" F9):w9 P w K mg base 11 "_law_land" 1 gP:=by
 refine' m8 (k:=10) (F:=_) g wJ (λm hu gc r=>?b) λI d hl h=>?_
 case b=>
  refine' (c6 (j5 1 (d4 p5 G1<|PD.pb<|d4 K7 (PD.pb<|bZ L3 m (d5 0) c9) G1) r)
   (c6 (sN 2 ["k"] [] [] r rfl (F1 (sc:=c8 F9) (N:=Q3)) (jV<|w6 (b8 1) C9) (IX λ_ _ _ _ _=>(d4 p5 (PD.pb<|d4 m6 G1<|b8 0)<|PD.pb<|d4 m6 (PD.pb<|d4 m6 G1<|b8 0)<|b8 0))<|λ_=>p8)
   (c6 (M0 aBv rfl (NN<|uD (b8 0) (V7 c9)<|V7 c9) (X8 (n:=2) rfl<|o7 (l7 3 r)<|o7 (l7 4 r) Q5)<|e9<|IM 2 (d4 p5 (PD.pb<|f7 (b8 2)<|d4 K7 (b8 3)<|b8 1)<|b8 4)<|d4 K7 (b8 3)<|b8 1)
   (c6 (GM 2 (aT 5 ["x", "y", "z"] [] [] r rfl (F1 (sc:=c8 F9) (N:=Q3)) (n9<|rE bU m<|P1 ["total"] [] [] rfl (F1 (sc:=c8 F9) (N:=Q3)) (n9<|d5 2) (IX λ_ _ _ _ _=>(rE dM m<|d5 0))<|λ_=>p8) (by rintro pins fp X2 ⟨s0,H1,C,rfl⟩;exact⟨(X8 (n:=3) rfl (o7 (l7 0 (show(["x", "y", "z"]:List Str).Nodup by decide+kernel)) (o7 (l7 1 (show(["x", "y", "z"]:List Str).Nodup by decide+kernel)) (o7 (l7 2 (show(["x", "y", "z"]:List Str).Nodup by decide+kernel)) Q5)))),DV,(ET (d4 m6 G1<|b8 0) (d4 m6 G1<|b8 1)<|d4 m6 G1<|b8 2)⟩)<|λ_=>BU))
   (c6 (j5 4 (bZ L3 m (d5 0) c9) r)
   (c6 (D3 (o9 zH (PD.pb<|d4 K7 (b8 4) G1) G1) (e9<|aT 5 ["point"] ["cell"] [4] r rfl (F1 (sc:=c8 F9) (N:=Q3)) (n9<|d5 5) (IX λ_ _ _ _ _=>(bZ W4 m (d5 0)<|rE Z2 m<|d5 1))<|λ_=>p8) u3)
   (e9<|j4<|rE iX m<|d5 5)))))))
 replace h:=jG h;obtain⟨Y,I,rfl,h⟩:=h;replace h:=B5 h;obtain⟨rfl,h⟩:=h;replace h:=CZ h;obtain⟨⟨s,hl⟩,rfl⟩:=h;obtain⟨c0,b0⟩:=KR s 0 (by decide) (by decide);obtain⟨c1,b1⟩:=KR s 1 (by decide) (by decide);have mr:=cR Y;have md:dJ (.int (cJ Y 0)) (.int 4)=.ok (.int ((cJ Y 0).fmod 4)):=aL (by decide);have rg:jD [.int (w4 Y:Int)]=.ok ((aBy<|w4 Y).map λ(k:Nat)=>D.int (k:Int)):=a1x (by lia);have t0:=DT (w4 Y) (by lia);have T:M2 1048576 ((Y.take 63).drop 2):=λx U=>s x (aEx<|aDH U);have TK:=FZ s;obtain⟨p1,p2,p3⟩:=DU s;have z1:=GZ p2 (λp hp=>(p1 p hp).mono) (by lia);obtain⟨q1,q2⟩:=PV p1;obtain⟨w1,w2,w3⟩:=NM s;obtain⟨v1,v2,v3,_⟩:=FA s;have BO:=VG (J:=dI Y) ⟨λp hp=>(v2 p hp).mono,by lia⟩ v1 (aAs (qH _) (by lia));have s1:=CL (c:=cJ Y 1) (o8 b1);have so:=PY (cJ Y 1);have B:0<w4 Y:=by lia
 have en:KU [.lst ((Y.take 63).drop 2)]=.ok (oP 0<|(Y.take 63).drop 2):=by rw[<-UX];rfl
 simp only[k5,aAr,aEo,aBh,aDB,aAt,aBo,aFA,aFB,aDS,aDT];refine z7 (ρ:=[.v (.lst Y),.v (.int (w4 Y:Int)),.no,.no,.no,.no]) ?_ ?_
 .simp-implicitDefEqProofs only[t8,x6,J9,R7,R.aa0,c0,md,mO,mr.2.2,aAO,aAP]
 refine z7 (ρ:=[.v (.lst Y),.v (.int (w4 Y:Int)),.o ((BX<|w4 Y).map D.int),.no,.no,.no]) ?_ ?_
 .simp-implicitDefEqProofs only[t8,x6,S6,V8,R.aa0,rg];rw[mU (λ(k:Nat)=>D.int (k:Int)) D.int (λ(k:Nat)=>37*(k:Int)+3*k*k) (aBy<|w4 Y) (by rw[List.length_range];lia) λk L=>⟨[.v (.int k)],rfl,?_⟩]
  .rfl
  .have L:k<w4 Y:=by simpa using L
   have O:bits (k:Int)<=80:=L4 (by lia) (by lia);have m1:gK (.int 37) (.int k)=.ok (.int (37*k)):=j1 (n4.of (show bits 37<=80 by decide) O);have m2:gK (.int (3*(k:Int))) (.int k)=.ok (.int (3*k*k)):=j1 (n4.of (bits_mul (show bits 3<=80 by decide) O) O);have Q:gK (.int 3) (.int k)=.ok (.int (3*k)):=j1 (n4.of (show bits 3<=80 by decide) O);simp-implicitDefEqProofs only[V8,R7,R.aa0,m1,m2,Q,mO]
 refine EC (x:=oP 0 ((Y.take 63).drop 2)) (by simp-implicitDefEqProofs [ax,en]) ?_;refine cN (λI ρ=>∃(k:Nat) (l:List D) (ts:List Int) (a b:Sl),I=oP k l/\ρ=[.v (.lst Y),.v (.int (w4 Y:Int)),.o (ts.map D.int),a,b,.no]/\xA (w4 Y) k l ts=vU Y/\ts.length=w4 Y/\M2 1048576 l) ?_ ⟨0,(Y.take 63).drop 2,BX (w4 Y),_,_,rfl,rfl,rfl,t0.1,T⟩ ?_
 .rintro d I ρ ⟨k,l,ts,a,b,u,rfl,f,e4,E⟩;match l,u,f,E with
  |y::l,u,f,E=>
   obtain⟨i,rfl,hb⟩:=E _ (.head _);injection u with u e2;subst u e2;have L:k%w4 Y<ts.length:=by rw[e4];exact aEe _ B
   have mk:dJ (.int (k:Int)) (.int (w4 Y:Int))=.ok (.int ((k%w4 Y:Nat):Int)):=(aL (by lia)).trans (by rw[aES _ (by lia)];rfl);have ix:J1 (.lst (ts.map D.int)) (.int ((k%w4 Y:Nat):Int))=.ok (.int (ts.getD (k%w4 Y) 0)):=N1 (by rw[V2 (by lia),aBZ,aAI,aAl,aAg L];rfl)
   have H:JG (ts.map D.int).length ((k%w4 Y:Nat):Int)=some (k%w4 Y):=by unfold JG;rw[h9 (by lia),h9 (by rw[aAj];lia),aBZ]
   refine⟨[.v (.lst Y),.v (.int (w4 Y:Int)),.o ((ts.set (k%w4 Y)<|ts.getD (k%w4 Y) 0+i).map D.int),.v (.int (k:Int)),.v (.int i),.no],?_,k+1,l,_,_,_,rfl,rfl,f,by simpa using e4,λx U=>E x (.tail _ U)⟩;clear f;rw[aAj]at H;generalize k%w4 Y=j at*
   generalize ts.getD j 0=tj at*
   simp[T0,bW,F8,fO,mk,ix,az,H]
 .rintro ρ ⟨k,l,ts,a,b,u,rfl,f,e4,E⟩;match l,u,f with
  |[],_,f=>
   have f:ts=vU Y:=f;subst f;refine z7 (ρ:=[.v (.lst Y),.v (.int (w4 Y:Int)),.v (.lst ((vU Y).map D.int)),a,b,.v (.lst ((QY Y).map vd))]) ?_ ?_
   .simp-implicitDefEqProofs only[RZ,aCz,aCx,aAO,aAP,t8,x6,X5,J9,R.aa0,aH];rw[mU D.int vd qO (vU Y) (by rw[TK.1];lia) λt ht=>⟨[.v (.int t)],rfl,by simp-implicitDefEqProofs only[J9,R.aa0,KT (j7 (TK.2 t ht) (by decide))]⟩,show(vU Y).map qO=yK Y from rfl];simp-implicitDefEqProofs only[R.aa0,z1,aH];rw[mU vd vd (G.qT 12) (jP<|yK Y) (by lia) λq hq=>⟨[.v (.int q.x),.v (.int q.y),.v (.int q.z)],rfl,?_⟩]
    .rfl
    .have z:=q1 q hq;have A:∀{x:Int},bits x<=41->gK (.int 12) (.int x)=.ok (.int (12*x)):=λh=>j1 (n4.of (show bits 12<=80 by decide) h);simp-implicitDefEqProofs only[S6,V8,R7,R.aa0,A z.1,A z.2.1,A z.2.2,t8,x6];rfl
   refine z7 (by simp-implicitDefEqProofs only[t8,x6,J9,R7,R.aa0,c1,aAO,aAP];rfl) ?_;refine z7 (ρ:=[.v (.lst Y),.v (.int (w4 Y:Int)),.v (.lst ((vU Y).map D.int)),a,.v (.int (cJ Y 1)),.v (.lst ((dI Y).map vd))]) ?_ ?_
   .simp-implicitDefEqProofs only[t8,x6,S6,V8,X5,J9,R7,R.aa0,aH];have Q:dJ (.int (cJ Y 1)) (.int 3)=.ok (.int ((cJ Y 1).fmod 3)):=aL (by decide);have r3:=fT (a:=cJ Y 1) (b:=3) (by decide);by_cases hz:(cJ Y 1).fmod 3=0
    .have e:dI Y=QY Y:=h9 hz;rw[Q,e,hz];rfl
    .have e:dI Y=(QY Y).map (rM<|QZ<|cJ Y 1).put:=ib hz;rw[Q,e];simp-implicitDefEqProofs only[R.aa0,qE,decide_eq_true (show 0<(cJ Y 1).fmod 3 by lia),xP,if_true];rw[mU vd vd (rM<|QZ<|cJ Y 1).put (QY Y) (by lia) λq hq=>⟨[.v (vd q),.v (.int (cJ Y 1))],rfl,by simp-implicitDefEqProofs only[X5,J9,R.aa0,s1,wV so (w2 q hq).mono]⟩];rfl
   simp-implicitDefEqProofs only[t8,x6,X5,J9,R.aa0,BO];rfl
def Z0 (M9:w9 P w K mg base 1 "_law_cross" 2 v7)(K4:w9 P w K mg base 1 "_law_way" 2 l6)(F6:w9 P w K mg base 1 "_law_product" 2 l5)(kl:mg "tuple"=none)(ic:mg "range"=none)(o:mg "sum"=none)(g:fC K mg "_law_inside" J8):w9 P w K mg base 2 "_law_inside" 1 eI:=by
 refine' m8 (k:=1) (F:=_) g qB (λe L gc p=>?b) λO d Q h=>?_
 case b=>
  refine' (c6 (j5 1 (bZ M9 e (bZ K4 e (f7 (b8 0) c9)<|f7 (b8 0) c9)<|bZ K4 e (f7 (b8 0) c9)<|f7 (b8 0) c9) p)
   (c6 (aT 2 ["one"] ["crossed", "land"] [1,0] p rfl (F1 (sc:=c8 J8) (N:=Y7)) (n9<|d5 0) (hxt λ_ _ _ _ _=>⟨(o9 (fJ L) (PD.pb<|bZ F6 e (d5 1)<|bZ K4 e (f7 (b8 2) c9)<|d5 0) G1),(d5 0)⟩)<|λ_=>p8)
   (c6 (j5 3 (kI<|i8 (f7 (b8 0) c9)<|i8 (f7 (b8 0) c9)<|i8 (f7 (b8 0) c9)<|i8 (f7 (b8 2) c9) u0) p)
   (e9<|j4<|aE yU<|w6 (PD.pb<|P1 ["k"] ["four"] [3] rfl (F1 (sc:=c8 J8) (N:=Y7)) (jV<|w6 G1 C9) (IX λ_ _ _ _ _=>(d4 G3 (PD.pb<|KD (YT rfl)<|PD.pb<|P1 ["one"] ["k"] [0] rfl RQ (n9<|d5 1) (IX λ_ _ _ _ _=>(f7 (b8 0)<|d5 1))<|λ_=>p8) G1))<|λ_=>p8) C9))))
 replace h:=aj h;obtain⟨l,O,rfl,h⟩:=h;replace h:=B5 h;obtain⟨rfl,h⟩:=h;replace h:=CZ h;obtain⟨⟨h3,ne,m,Q⟩,rfl⟩:=h;unfold wM;have g:∀j,j<l.length->l[j]?=some (l.getD j 0):=λj r=>by rw[aAl,aAg r];rfl
 have n:∀j,j<l.length->l.getD j 0∈l:=λj r=>aAu (g j r);have s:J1 (.lst (l.map vd)) (.int 0)=.ok (vd<|l.getD 0 0):=fR (i:=0) (g 0 (by lia));have u:J1 (.lst (l.map vd)) (.int 1)=.ok (vd<|l.getD 1 0):=fR (i:=1) (g 1 (by lia));have H:J1 (.lst (l.map vd)) (.int 2)=.ok (vd<|l.getD 2 0):=fR (i:=2) (g 2 (by lia));have f:=m _ (n 0 (by lia));have I:=m _ (n 1 (by lia));have J:=m _ (n 2 (by lia));clear g n;generalize l.getD 0 0=A at*
 generalize l.getD 1 0=B at*
 generalize l.getD 2 0=C at*
 have T:=wK A B;have U:=wK A C;have Y:=Z9 (I.sub f).mono (J.sub f).mono;have sc:Sz 1200 (G.cr (B-A)<|C-A):=((I.sub f).cr (J.sub f)).mono;have pq:∀E∈l,l6 [vd A,vd E]=.ok (vd<|E-A)/\l5 [vd (G.cr (B-A)<|C-A),vd (E-A)]=.ok (.int (G.b9 (G.cr (B-A)<|C-A)<|E-A)):=λE hE=>⟨wK A E,dZ sc.mono ((m E hE).sub f).mono⟩;obtain⟨E,t,ee⟩:=aCL ne;simp only[k5,aAr,aEo,aBh,aDB,aAt,aBo,aFA,aFB,aDS,aDT];refine z7 (by simp-implicitDefEqProofs only[t8,x6,V8,R7,R.aa0,s,u,H,T,U,Y,aAO,aAP];rfl) ?_;refine z7 (ρ:=[.v (.lst (l.map vd)),.v (vd<|G.cr (B-A)<|C-A),.v (.lst ((l.filter<|xK A B C).map vd)),.no]) ?_ ?_
 .simp-implicitDefEqProofs only[J9,R.aa0,aH];rw[WJ vd (xK A B C) vd l (by lia) λq hq=>⟨[.v (vd q),.v (vd<|G.cr (B-A)<|C-A),.v (.lst (l.map vd))],rfl,?_,rfl⟩]
  .rfl
  .obtain⟨x1,x2⟩:=pq q hq;simp-implicitDefEqProofs only[t8,x6,S6,V8,X5,J9,R7,R.aa0,s,x1,x2];unfold xK;simp[AN];rfl
 rw[ee];have kv:∀v:G.V,J1 (vd v) (.int 0)=.ok (.int v.x)/\J1 (vd v) (.int 1)=.ok (.int v.y)/\J1 (vd v) (.int 2)=.ok (.int v.z):=λv=>⟨rfl,rfl,rfl⟩;have tl:∀a b d:D,DK [.lst [a,b,d]]=.ok (.tup [a,b,d]):=λa b d=>rfl;have s3:3<=sizeLine:=by decide
 have s4:4<=sizeLine:=by decide
 have l4:∀a b c d:D,yV [a,b,c,d]=.ok (.lst [a,b,c,d]):=λ_ _ _ _=>rfl;have j0:J1 (.lst ((E::t).map vd)) (.int 0)=.ok (vd E):=fR (S:=E::t) (i:=0) rfl;refine z7 (by simp-implicitDefEqProofs only[t8,x6,S6,V8,R7,R.aa0,s,u,H,j0,l4,aAO,aAP];rfl) ?_;have dv:∀x:Int,S9 (.int x) (.int 4)=.ok (.int (x.fdiv 4)):=λx=>kN (by decide) (by decide);generalize vd (G.cr (B-A)<|C-A)=z1 at*
 generalize(E::t).map vd=z2 at*
 simp[i7,s3,s4,kv,dv,tl,bx,AS]
section
seal PySem.eval
def o_law {f:bb}{fd:dn}(cK:w9 P w K mg base 11 "_law_land" 1 gP)(D1:w9 P w K mg base 9 "faces_of" 1 D2)(L3:w9 P w K mg base 1 "_law_cell" 2 eM)(gD:w9 P w K mg base 10 "edges_of" 1 eG)(Z0:w9 P w K mg base 2 "_law_inside" 1 eI)(gA:w9 P w K mg base 10 "where_in" 2 T2)(jn:mg "list"=none)(ni:mg "max"=none)(ir:mg "len"=none)(kl:mg "tuple"=none)(ic:mg "range"=none)(jl:mg "isinstance"=none)(yf:mg "bool"=none)(u:mg "int"=none)(F0:Fun K "law" "law" fE f fd):FnOk P w K mg base wD 12 f fd ["script"] (jz K 1 iU):=by
 refine' fnD (k:=11) (F:=_) F0 PN (λT A I s H E j=>?b) λds d hl h=>?_
 case b=>
  have J:=j.units;have gc:=j.ae8;have e:=PN.nd;refine' (c6 (j5 1 (rE cK j<|d5 0) e)
   (c6 (j5 2 (rE D1 j<|aE wL<|w6 (b8 1) C9) e)
   (c6 (j5 3 (bZ L3 j (d5 0)<|aP (TY rfl)<|w6 G1<|w6 (PD.pb<|d4 A6 (PD.pb<|KD bT<|b8 0) G1) C9) e)
   (c6 (vE (f7 (b8 2)<|d4 K7 (b8 3)<|PD.pb<|KD bT<|b8 2)<|X8 (n:=2) rfl<|o7 (l7 4 e)<|o7 (l7 5 e) Q5)
   (c6 (j5 6 (aE yU<|w6 (PD.pb<|P1 ["k"] ["ring"] [5] rfl (F1 (sc:=c8 fE) (N:=XS)) (jV<|w6 G1 C9) (IX λ_ _ _ _ _=>(d4 G3 (PD.pb<|d4 p5 (PD.pb<|d4 p5 (PD.pb<|f7 (PD.pb<|f7 (b8 1) c9)<|d5 0)<|PD.pb<|f7 (PD.pb<|f7 (b8 1) c9)<|d5 0)<|PD.pb<|f7 (PD.pb<|f7 (b8 1) c9)<|d5 0) G1))<|λ_=>p8) C9) e)
   (c6 (j5 7 (ET (d4 p5 (PD.pb<|f7 (b8 6) c9)<|PD.pb<|f7 (b8 4) c9) (d4 p5 (PD.pb<|f7 (b8 6) c9)<|PD.pb<|f7 (b8 4) c9)<|d4 p5 (PD.pb<|f7 (b8 6) c9)<|PD.pb<|f7 (b8 4) c9) e)
   (c6 (D3 (o9 (fJ J) (PD.pb<|d4 p5 (PD.pb<|KD bT<|b8 1)<|PD.pb<|KD bT<|b8 2)<|PD.pb<|d4 p5 (PD.pb<|KD bT<|PD.pb<|rE gD j<|aE wL<|w6 (b8 1) C9) G1) (e9<|j4 GA) u3)
   (c6 (M0 aBv rfl (n9<|kI<|i8 (zZ (d5 6) c9)<|i8 (zZ (d5 7)<|fP c9)<|i8 (zZ (rE Z0 j<|d5 1) c9) u0) (X8 (n:=2) rfl<|o7 (l7 8 e)<|o7 (l7 9 e) Q5) (c6 (j5 10 (aE wL<|w6 (b8 1) C9) e)
   (c6 (j5 11 (bZ gA j (d5 10)<|d5 8) e)
   (e9<|D3 (KG.pt<|uT (RF<|uM<|KL UD<|b8 11)<|uT (uM<|KL MT<|b8 11)<|uT (o9 (fJ J) (b8 11)<|b8 9)<|GQ<|o9 (fJ J) (b8 10)<|b8 1) (e9<|j4 GA) u3))))
   (e9<|j4 GA)))))))))
 match ds,h with
 |[.lst Y],h=>
  simp only[iU]at h;split at h
  .rename_i hc;rw[<-h];obtain⟨hl,hi⟩:=hc;obtain⟨L,fs,m,LL,FO,EO,eu,q,ff,IO,WI⟩:=US hi hl;obtain⟨k,O⟩:∃k:Int,(if 1<(Y.length:Int)then(Y.length:Int)-1 else 0)=k:=⟨_,rfl⟩;obtain⟨ck,bk⟩:=KR hi k (by rw[<-O];split<;>lia) (by rw[<-O];split<;>lia);generalize cJ Y k=c at*
   obtain⟨mf,f,hf,pf⟩:=iq (k8 L) q c;obtain⟨A,B,C,r,er,W0,W1⟩:=ff f hf;have ec:u8 (.int ((L.length:Int)+fs.length)) (.int ((m.length:Int)+2))=true:=by rw[show(L.length:Int)+fs.length=(m.length:Int)+2 by lia];exact M3 _
   have nL:=iF (UZ L);have n0:=iF (d:=.int 0) (by simp[A9]);have n1:=iF (d:=.int 1) (by simp[A9]);have nm:=iF (d:=.int (-1)) (by simp[A9]);clear ff q bk;simp only[k5,aAr,aEo,aBh,aDB,aAt,aBo,aFA,aFB,aDS,aDT];refine z7 (by simp-implicitDefEqProofs only[t8,x6,J9,R.aa0,LL,aAO,aAP];rfl) ?_;refine z7 (by simp-implicitDefEqProofs only[t8,x6,S6,V8,FE,R.aa0,FO,aAO,aAP];rfl) ?_;refine z7 (ρ:=[.v (.lst Y),.v (.lst (L.map vd)),.v (.lst (fs.map<|k8 L)),.v (.int c),.no,.no,.no,.no,.no,.no,.no,.no]) ?_ ?_
   .simp-implicitDefEqProofs;rw[O,ck];rfl
   refine z7 (ρ:=[.v (.lst Y),.v (.lst (L.map vd)),.v (.lst (fs.map<|k8 L)),.v (.int c),.v (fX f.1 f.2),.v (.lst ((G.d7 L f).map vd)),.no,.no,.no,.no,.no,.no]) ?_ ?_
   .simp-implicitDefEqProofs only[IL,t8,x6,S6,V8,oN,aAj,R.aa0,mf,pf];rfl
   rw[er];have s3:3<=sizeLine:=by decide
   have tl:∀a b d:D,DK [.lst [a,b,d]]=.ok (.tup [a,b,d]):=λa b d=>rfl;have dv:∀x:Int,S9 (.int x) (.int 3)=.ok (.int (x.fdiv 3)):=λx=>kN (by decide) (by decide);have kv:∀v:G.V,J1 (vd v) (.int 0)=.ok (.int v.x)/\J1 (vd v) (.int 1)=.ok (.int v.y)/\J1 (vd v) (.int 2)=.ok (.int v.z):=λv=>⟨rfl,rfl,rfl⟩;have k4:J1 (fX f.1 f.2) (.int 0)=.ok (.int f.1.x)/\J1 (fX f.1 f.2) (.int 1)=.ok (.int f.1.y)/\J1 (fX f.1 f.2) (.int 2)=.ok (.int f.1.z):=⟨rfl,rfl,rfl⟩;have i0:J1 (.lst ((A::B::C::r).map vd)) (.int 0)=.ok (vd A):=fR (S:=A::B::C::r) (i:=0) rfl;have i1:J1 (.lst ((A::B::C::r).map vd)) (.int 1)=.ok (vd B):=fR (S:=A::B::C::r) (i:=1) rfl;have i2:J1 (.lst ((A::B::C::r).map vd)) (.int 2)=.ok (vd C):=fR (S:=A::B::C::r) (i:=2) rfl;generalize(A::B::C::r).map vd=o at*
   have lF:oN [.lst (fs.map<|k8 L)]=.ok (.int (fs.length:Int)):=by simp only[oN,aAj]
   have lL:oN [.lst (L.map vd)]=.ok (.int (L.length:Int)):=by simp only[oN,aAj]
   have lE:oN [.lst (m.map B4)]=.ok (.int (m.length:Int)):=by simp only[oN,aAj]
   generalize fs.map (k8 L)=p at*
   refine z7 (ρ:=[.v (.lst Y),.v (.lst (L.map vd)),.v (.lst p),.v (.int c),.v (fX f.1 f.2),.v (.lst o),.v (vd<|W8 A B C),.no,.no,.no,.no,.no]) ?_ ?_
   .simp-implicitDefEqProofs [i7,s3,i0,i1,i2,kv,dv,tl,W8,AQ]
   have kr:=kv (W8 A B C);have tp:fA [.int ((W8 A B C).x+f.1.x),.int ((W8 A B C).y+f.1.y),.int ((W8 A B C).z+f.1.z)]=.ok (vd<|W8 A B C+f.1):=rfl;refine z7 (by simp-implicitDefEqProofs only[t8,x6,S6,V8,R7,R.aa0,kr,k4,mO,tp,aAO,aAP];rfl) ?_;refine z7 (ρ:=[.v (.lst Y),.v (.lst (L.map vd)),.v (.lst p),.v (.int c),.v (fX f.1 f.2),.v (.lst o),.v (vd<|W8 A B C),.v (vd<|W8 A B C+f.1),.no,.no,.no,.no]) ?_ ?_
   .have ne:BC (.int ((L.length:Int)+fs.length)) (.int ((m.length:Int)+2))=.ok (.bl false):=by rw[show(L.length:Int)+fs.length=(m.length:Int)+2 by lia];exact iF (by simp[A9])
    simp-implicitDefEqProofs only[t8,x6,S6,V8,R7,FE,R.aa0,lL,lF,EO,lE,mO,ne,xP,aAq,if_false]
   have t2:∀a b:D,fA [a,b]=.ok (.tup [a,b]):=λ_ _=>rfl;have l3:∀a b c:D,yV [a,b,c]=.ok (.lst [a,b,c]):=λ_ _ _=>rfl;have ng:RP (.int 1)=.ok (.int (-1)):=rfl;refine EC (x:=[.tup [vd (W8 A B C),.int 0],.tup [vd (W8 A B C+f.1),.int (-1)],.tup [vd (wM L),.int 1]]) (by simp-implicitDefEqProofs only[t8,x6,X5,J9,R7,R.aa0,IO,t2,l3,ng,aH]) ?_;refine LG (λρ=>∃Q U l g,ρ=[.v (.lst Y),.v (.lst (L.map vd)),.v (.lst p),.v (.int c),.v (fX f.1 f.2),.v (.lst o),.v (vd<|W8 A B C),.v (vd<|W8 A B C+f.1),Q,U,l,g]) ?_ ⟨_,_,_,_,rfl⟩ ?_
   .rintro d t ρ ⟨Q,U,l,g,rfl⟩;have t:∃(P:G.V) (n:Int),d=.tup [vd P,.int n]/\T2 [.lst (L.map vd),vd P]=.ok (.int n)/\BC (.int n) (.int n)=.ok (.bl false):=by
     simp only[aAd,aAD,or_false]at t;rcases t with rfl|rfl|rfl
     .exact⟨_,_,rfl,W0,n0⟩
     .exact⟨_,_,rfl,W1,nm⟩
     .exact⟨_,_,rfl,WI,n1⟩
    obtain⟨P,n,rfl,w,nn⟩:=t;refine⟨[.v (.lst Y),.v (.lst (L.map vd)),.v (.lst p),.v (.int c),.v (fX f.1 f.2),.v (.lst o),.v (vd<|W8 A B C),.v (vd<|W8 A B C+f.1),.v (vd P),.v (.int n),.v (.lst (L.map vd)),.v (.int n)],?_,_,_,_,_,rfl⟩;rw[NO];simp-implicitDefEqProofs only[aAO,aAP];refine XM (ρ:=[.v (.lst Y),.v (.lst (L.map vd)),.v (.lst p),.v (.int c),.v (fX f.1 f.2),.v (.lst o),.v (vd<|W8 A B C),.v (vd<|W8 A B C+f.1),.v (vd P),.v (.int n),.v (.lst (L.map vd)),g]) (by simp-implicitDefEqProofs only[t8,x6,S6,V8,FE,R.aa0,aAO,aAP]) ?_;refine XM (ρ:=[.v (.lst Y),.v (.lst (L.map vd)),.v (.lst p),.v (.int c),.v (fX f.1 f.2),.v (.lst o),.v (vd<|W8 A B C),.v (vd<|W8 A B C+f.1),.v (vd P),.v (.int n),.v (.lst (L.map vd)),.v (.int n)]) (by simp-implicitDefEqProofs only[t8,x6,X5,J9,R.aa0,w,aAO,aAP]) ?_;simp-implicitDefEqProofs only[orB,yw,S6,V8,R.aa0,nn,nL,xP,aAq,if_false];rfl
   rintro ρ ⟨Q,U,l,g,rfl⟩;rfl
  .cases h
end
end
end K26
section
namespace K26
open PySem L2 DL M
def truth (ns:List Int)(a:ns.length<=63)(b:∀x∈ns,aBe x<=1048576):iU [.lst (ns.map D.int)]=.ok (.bl true):=by unfold iU;exact h9 ⟨by simpa using a,VZ b⟩
section
variable [Tabs]
def all_mk {l:PySem.W.OpenLaw}{w:cp}{K:i6}{h:cq}{mg:cH}{fa f32 Pt:bb}(X:K.In h)(G:h.Ns bg mg)(hfa:mg "law"=some (.ref fa))
  (g0:Got K "way_between" Y5)
  (g1:Got K "cross_of" gE)
  (g2:Got K "product_of" aY)
  (g3:Got K "common_divisor" N7)
  (g4:Got K "plane_through" R4)
  (g5:Got K "side_of" jK)
  (g6:Got K "first_real_way" N5)
  (g7:Got K "dimension_of" B6)
  (g8:Got K "refuse_flat" Z7)
  (g9:Got K "points_on" X7)
  (g10:Got K "plane_about" Z1)
  (g11:Got K "first_pair" aX)
  (g12:Got K "turn_of" jJ)
  (g13:Got K "left_chain" aW)
  (g14:Got K "ring_of" kO)
  (g15:Got K "pairs_round" Y6)
  (g16:Got K "faces_from" bP)
  (g17:WA K "faces_of" K5 Pt)
  (g18:Got K "corners_in" aZ)
  (g19:Got K "body_of" kW)
  (g20:Got K "edges_of" bB)
  (g21:Got K "where_in" bD)
  (g22:Got K "_law_cell" cD)
  (g23:Got K "_law_way" gG)
  (g24:Got K "_law_cross" bG)
  (g25:Got K "_law_product" V3)
  (g26:Got K "_law_spot" cE)
  (g27:Got K "_law_solid" N0)
  (g28:Got K "_law_slants" P3)
  (g29:Got K "_law_slanted" V4)
  (g30:Got K "_law_land" F9)
  (g31:Got K "_law_inside" J8)
  {od32 an32:Option bb} {sl32:Array (Option ae)} {oc32 kV32 dc32 pm32 Y ct32:ae}
  (a32:PySem.W.nsIn K bg "law"=some (some (.ref f32))) (l32:K.lookup f32=some ⟨oc32,od32,.func (PySem.W.fnOf "law" "law" (E6 fE) (t9 fE) (c8 fE) .none kV32 dc32 pm32 an32 Y ct32),sl32⟩) (e32:PySem.W.codeIn K Y "law"=true) (k32:PySem.W.keepIn K (.ref f32)=true)
  (z_abs:PySem.W.nsIn K bg "abs"=some none)
  (z_len:PySem.W.nsIn K bg "len"=some none)
  (z_any:PySem.W.nsIn K bg "any"=some none)
  (z_min:PySem.W.nsIn K bg "min"=some none)
  (z_list:PySem.W.nsIn K bg "list"=some none)
  (y:PySem.W.nsIn K bg "reversed"=some none)
  (z_zip:PySem.W.nsIn K bg "zip"=some none)
  (U:PySem.W.nsIn K bg "sorted"=some none)
  (z_set:PySem.W.nsIn K bg "set"=some none)
  (z_max:PySem.W.nsIn K bg "max"=some none)
  (z_range:PySem.W.nsIn K bg "range"=some none)
  (r:PySem.W.nsIn K bg "enumerate"=some none)
  (z_tuple:PySem.W.nsIn K bg "tuple"=some none)
  (z_sum:PySem.W.nsIn K bg "sum"=some none)
  (k:PySem.W.nsIn K bg "isinstance"=some none)
  (z_bool:PySem.W.nsIn K bg "bool"=some none)
  (z_int:PySem.W.nsIn K bg "int"=some none)
  {nu:bb} {H:Option bb} {z A B:Tok} {I:Nat} {J:Array (Option ae)}
  (L:PySem.W.nsIn K bg "NO_WAY"=some (some (.ref nu))) (N:K.lookup nu=some ⟨.type "tuple",H,.seq #[.int 0 z,.int 0 A,.int 0 B] I,J⟩)
  (nt:(Pt,tbK)∈Tabs.tbs)
  (truth:∀ns:List Int,ns.length<=63->(∀x∈ns,aBe x<=1048576)->iU [.lst (ns.map D.int)]=.ok (.bl true)):
  ∃fd:dn,(∀(s:a9) (v:ae),BindsTo s fd ⟨[v],[]⟩ [("script",v)])/\∀base:cq,K.In base->base.Ns bg mg->iM mg base->FnOk l.prog w K mg base wD 12 fa fd ["script"] (uY K):=by
 have e:=hfa.symm.trans (PySem.W.mg_of X G a32);cases e;have b_abs:=PySem.W.mg_none_of X G z_abs;have ir:=PySem.W.mg_none_of X G z_len;have b_any:=PySem.W.mg_none_of X G z_any;have vh:=PySem.W.mg_none_of X G z_min;have jn:=PySem.W.mg_none_of X G z_list;have ma:=PySem.W.mg_none_of X G y;have b_zip:=PySem.W.mg_none_of X G z_zip;have br:=PySem.W.mg_none_of X G U;have nh:=PySem.W.mg_none_of X G z_set;have ni:=PySem.W.mg_none_of X G z_max;have ic:=PySem.W.mg_none_of X G z_range;have jr:=PySem.W.mg_none_of X G r;have kl:=PySem.W.mg_none_of X G z_tuple;have b_sum:=PySem.W.mg_none_of X G z_sum;have jl:=PySem.W.mg_none_of X G k;have yf:=PySem.W.mg_none_of X G z_bool;have b_int:=PySem.W.mg_none_of X G z_int;have dc:OA K mg "NO_WAY" [0,0,0]:=ZE (PySem.W.mg_of X G L) N;refine⟨PySem.W.fnOf "law" "law" (E6 fE) (t9 fE) (c8 fE) .none kV32 dc32 pm32 an32 Y ct32,λs v=>.of_eq rfl,λbase _ _ hB=>?_⟩;have bp:w9 l.prog w K mg base 1 "way_between" 2 l6:=o5 (g0.def X G);have fm:w9 l.prog w K mg base 1 "cross_of" 2 v7:=C5 (g1.def X G);have cg:w9 l.prog w K mg base 1 "product_of" 2 l5:=y6 (g2.def X G);have a:w9 l.prog w K mg base 1 "common_divisor" 1 I0:=N9 b_abs (g3.def X G);have d:=S1 fm bp a cg (g4.def X G);have nv:w9 l.prog w K mg base 1 "side_of" 2 G2:=aS (g5.def X G);have b:w9 l.prog w K mg base 1 "first_real_way" 1 z6:=G8 dc (g6.def X G);have gu:=F4 bp b fm cg ir b_any (g7.def X G);have g:=Z6 gu (g8.def X G);have jt:=F3 nv (g9.def X G);have iu:=J6 bp cg fm d dc (g10.def X G);have m:=bA jt iu gu vh (g11.def X G);have O:=jQ cg fm bp (g12.def X G);have n:=U3 O ir (g13.def X G);have Q:=kL n jn ma (g14.def X G);have ja:w9 l.prog w K mg base 1 "pairs_round" 1 w5:=J2 jn b_zip (g15.def X G);have o:=bL iu Q ja ir br (g16.def X G);have fu:=D1 jt g m o br nh hB nt (g17.def X G);have p:w9 l.prog w K mg base 8 "corners_in" 1 G5:=bR br nh (g18.def X G);have T:=iX p fu (g19.def X G);have C:=gD fu ja vh ni br nh (g20.def X G);have E:=gA fu nv ni (g21.def X G);have ju:w9 l.prog w K mg base 1 "_law_cell" 2 eM:=L3 ir (g22.def X G);have me:w9 l.prog w K mg base 1 "_law_way" 2 l6:=K4 (g23.def X G);have jm:w9 l.prog w K mg base 1 "_law_cross" 2 v7:=M9 (g24.def X G);have ia:w9 l.prog w K mg base 1 "_law_product" 2 l5:=F6 (g25.def X G);have t:w9 l.prog w K mg base 1 "_law_spot" 1 mJ:=dM (g26.def X G);have q:=bU me jm ia (g27.def X G);have i:w9 l.prog w K mg base 1 "_law_slants" 1 aU:=Z2 (g28.def X G);have f:w9 l.prog w K mg base 1 "_law_slanted" 2 N6:=W4 (g29.def X G);have u:=cK ju q t f i T ic jr (g30.def X G);have j:=Z0 jm me ia kl ic b_sum (g31.def X G);exact UT (o_law u fu ju C j E jn ni ir kl ic jl yf b_int<|MA (st:=fE) l32 e32 k32) truth
end
end K26
namespace PySem.W.Fast
def tw10347614131250710241:=0
def tw16223634566762895412:=0
def tw10766039552087114698:=0
def tw11304353159042336633:=0
def tw17068355844061528339:=0
def tw6400957660662201426:=0
def tw16272440943246800875:=0
def tw11308820071945218866:=0
def tw7164486157963877686:=0
def tw2229551393979848186:=0
def tw4803298131624650382:=0
def tw4148663663575989527:=0
def tw4767445036434530806:=0
def tw14919099544816584685:=0
def tw17219454953362268163:=0
def tw18041166705310371975:=0
def tw1170866830180303434:=0
def tw17067171293765446036:=0
def tw10497011223705671221:=0
def tw7783842020641567331:=0
def tw12914618652840221616:=0
def tw7362849711163909872:=0
def tw9310670145900373941:=0
def tw16755700816258278377:=0
def tw5614013014724267057:=0
def tw1286132855411002840:=0
def tw2699504045632143623:=0
def tw5067657752899070246:=0
def tw3373391826407692460:=0
def tw15570971142775230315:=0
def tw12227416614678476853:=0
def tw17819096873526223989:=0
def tw7083622615225164265:=0
def tw10686972534350098117:=0
def tw1229178852579987119:=0
def tw16255010301616733867:=0
def tw9917544946836798952:=0
def tw18175914764523335353:=0
def tw5979664730868064431:=0
def tw603478128377422979:=0
def tw2361031919106952435:=0
def tw9132193717429481136:=0
def tw4924752899693569321:=0
def tw15726362001728353317:=0
def tw9552486583193879173:=0
def tw624148682666185152:=0
def tw13831697036137434321:=0
def tw18013141299103867255:=0
def tw14570073625573925931:=0
def tw6530823692500072148:=0
def tw4047805234833632202:=0
def tw4318154160690752940:=0
def tw15833802367082699122:=0
def tw5031298063580167145:=0
def tw923984849336630051:=0
def tw16717649878276617859:=0
def tw3554111562283702831:=0
def tw5439549103030901688:=0
def tw1138362826510931644:=0
def tw11405194331272804915:=0
def tw17330998536971157310:=0
def tw12100943000876835583:=0
def tw17091154981426180586:=0
def tw17965473539509166536:=0
def tw6584869210070375562:=0
def tw5973888507716519957:=0
def tw4207359246824411912:=0
def tw3243460769806169528:=0
def tw4740977076030625053:=0
def tw10145023636174652489:=0
def tw182524716990109906:=0
def tw8046240460691019535:=0
def tw4296216976578094052:=0
def tw4632128436985227631:=0
def tw11910189282126702414:=0
def tw16262677015631829403:=0
def tw15774494288639377470:=0
def tw1411089027873432105:=0
def tw18425620905935087843:=0
def tw2872102173391852558:=0
def tw11009954518908562788:=0
def tw7115968625385291721:=0
def tw17860054753053361093:=0
def tw15599048719994426059:=0
def tw3526453021093960336:=0
def tw7540846064417258773:=0
def tw12348062312768433943:=0
def tw10878368348398834462:=0
def tw5506956476511698626:=0
def tw697474091575101616:=0
def tw18144067015504890112:=0
def tw10743011777104871105:=0
def tw15588525844335053967:=0
def tw581992888967056153:=0
def tw10400342162258023303:=0
def tw16464965140724466002:=0
def tw12405543287071795136:=0
def tw12697475616656140060:=0
def tw360867013034721970:=0
def tw16350699224719948465:=0
def tw16570256335122690912:=0
def tw12012445751054207071:=0
def tw15271825568060648563:=0
def tw3574588198936783989:=0
def tw7683501113473203119:=0
def tw169103837349677525:=0
def tw625371608237058414:=0
def tw18124757370670024493:=0
def tw6037915221046225004:=0
def tw16346834480687075595:=0
def tw5050604464531668654:=0
def tw6039145861516660283:=0
def tw15872628536841321764:=0
def tw17797807633197579795:=0
def tw2879214531025688520:=0
def tw3492615209979416267:=0
def tw18082185187021116950:=0
def tw10113524026320773403:=0
def tw11178786998873686767:=0
def tw4771860441812615678:=0
def tw5479692076102036204:=0
def tw73455769175733591:=0
def tw16463550183015424007:=0
def tw16680956841423127966:=0
def tw7512757389921762613:=0
def tw7901384556706921912:=0
def tw12999177380585793714:=0
def tw6818962452801918306:=0
def tw15404523538953076001:=0
def tw9255877451445744289:=0
def tw6532724822804124803:=0
def tw3216085877812715368:=0
def tw4053532380005753502:=0
def tw10702074987711552151:=0
def tw9486223097637283118:=0
def tw8993204640652572128:=0
def tw8593644992432161760:=0
def tw17841464735469144901:=0
def tw9575658304963308050:=0
def tw10138066719333883391:=0
def tw1169179228198514063:=0
def tw1188677962127528593:=0
def tw12641200894556351519:=0
def tw15980707755254531332:=0
def tw17015854148073608392:=0
def tw1849820969504888905:=0
def tw339695619832187441:=0
def tw4521749293514469907:=0
def tw5767571485414630357:=0
def tw6320725923812846825:=0
def tw6356349397712910356:=0
def tw6720995354759794029:=0
def tw7343223733336052351:=0
def tw9168659726197225124:=0
def tw16321754744146711844:=0
end PySem.W.Fast
open PySem PySem.W PyProof.Rows
set_option maxRecDepth 100000 in
theorem PySem.Challenge.cw_stakebodies_k26_whole_where_in_great_bod_holds : PySem.Challenge.rw_stakebodies_k26_whole_where_in_great_bod.Holds := by
 w_on;o_law;k_head;(case hw=>w_witness2)
 k_fill
 letI tabs9:DL.Tabs:=⟨[(169,K26.tbK)]⟩
 refine DL.TR (l:=PySem.Challenge.rw_stakebodies_k26_whole_where_in_great_bod) (k:=12) rfl rfl ⟨rfl,by decide,by decide⟩ (λw h Y=>⟨PySem.W.km_in_of Y,PySem.W.km_tabs_of Y⟩) (DL.SQ (c:=173) (by k_mem) (λw=>by kernel_rfl)) (aAE.mpr ⟨aAD,aCP⟩) (λw=>by kernel_rfl) ?F
 case F=>
  intro w mg fa h KX G hmg;refine' K26.all_mk KX G hmg ?_ ?_ ?_ ?_ ?_ ?_ ?_ ?_ ?_ ?_ ?_ ?_ ?_ ?_ ?_ ?_ ?_ ?_ ?_ ?_ ?_ ?_ ?_ ?_ ?_ ?_ ?_ ?_ ?_ ?_ ?_ ?_ ?a32 ?l32 ?e32 ?k32 ?z_abs ?z_len ?z_any ?z_min ?z_list ?z_reversed ?z_zip ?z_sorted ?z_set ?z_max ?z_range ?z_enumerate ?z_tuple ?z_sum ?z_isinstance ?z_bool ?z_int ?ca_NO_WAY ?cl_NO_WAY (aAV.mpr rfl) K26.truth
  all_goals first|(refine' DL.YA ?a ?l ?c ?k;(case a=>k_is);(case l=>k_is);(case c=>k_is);(case k=>k_is))|(refine' DL.TM ?a ?l ?c ?k rfl ?n;(case a=>k_is);(case l=>k_is);(case c=>k_is);(case k=>k_is);(case n=>kernel_rfl))|k_is|skip
end
