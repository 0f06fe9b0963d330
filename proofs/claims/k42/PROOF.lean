import PyProof.Rows.All
import Wide.All
import OpenK.AllK
import Wide.FinOn
import Lean
import PyProof.EqAt
import PyProof.EqKinds
import PyProof.TupleCall
import PyProof.NeKinds
import KE.RegKIsAll
import PyProof.ExcClass3
import PySem.SetTable
import PySem.Value
import PyProof.Rows.SortShellK
import OpenK.KOwn
import KE.KNestM
import PyProof.Rows.StrWeight2
import PyProof.CollectIter
import PyProof.SetKind
import PyProof.Walks
import PyProof.ForAny
import PyProof.FactsAll.set_1
import PyProof.FactsAll.set_2
import PyProof.ZipIter
import KE.KRevIter
import PyProof.ListNew
import PyProof.ConsumeS
import KE.KIsAll
import PyProof.DictWalks
import KE.KDictList
import PySem.Challenge.RW_stakebodies_k42_whole_any_viewpoint
set_option Elab.async false
set_option linter.all false
set_option backward.eqns.nonrecursive false
set_option maxRecDepth 100000
set_option maxHeartbeats 4000000
theorem hV{c:Prop}{h:Decidable c}(k:c){α:Sort _}{t e:α}:ite c t e=t:=if_pos k
theorem h9{c:Prop}{h:Decidable c}(k:¬c){α:Sort _}{t e:α}:ite c t e=e:=if_neg k
theorem ip{α:Sort _}{β:Sort _}{a b:α}(f:α->β)(h:a=b):f a=f b:=congrArg f h
abbrev iu:=PySem.W.Frag
abbrev ix:PySem.Str:="__debug__"
abbrev i3:PySem.Str:="__classdict__"
open PySem renaming Value → ao, wpAny → aA, Shared → a9, starEach → ba, Addr → bb, model → be, Program → bt, mainGlobals → bM, Around → cf, World → cp, Heap → cq, Expr → cu, Stmt → cv, backTo → cy, cLine → cz, bootBuiltins → de, eval → dm, FuncData → dn, compareOp → dq, cellsFrom → dA, assignEach → dC, binaryOp → dF, NameKind → d7, rawInt → ee, swapsWith → ek, foldedSetIterable → eQ, SetTable → eR, codeAmong → eV, argBest → eY, pyNext → fb, IsPair → ff, attributeBase → fg, codeAny → fh, sliceBounds → fo, assign → gc, updateSeq → gi, holding → gk, swapsWithSole → gn, swappedStores → gv, behindInMarks → gy, Scope → gW, pickOrder → hE, wpAny_bind → aAa, wpAny_pure → aAb, wpAny_holding → aAY, wpAny_Call_Name_kw → aBi, wpAny_call_entry → aBB, wpAny_specialOf → aBC, wpAny_newObj_type → aBG, wpAny_truthy_bool → aBO, wpAny_seqItems → aBU, codeAny_builtin → aBV, plainId_quiet → aCd, wpAny_setField_rec → aCe, wpAny_updateSeq → aCg, wpAny_setState_of → aCm, builtinLookup_eq_fast → aCv, wpAny_forIn_list → aCA, wpAny_callSpecial?_slot → aCC, wpAny_mono → aCH, wpAny_field → aCV, wpAny_passesOwn → aCY, wpAny_nextOf_list_item → aDo, wpAny_callSpecialIfBoundUnlessNone?_slot → aDs, typeLookup_type → aDA, wpAny_rule → aDC, wpAny_pyIter_list → aDF, wpAny_isInstance → aDQ, codeAny_mono → aDR, wpAny_typeOf → aDS, wpAny_letGo → aEe, wpAny_execs_cons → aEn, wpAny_attempt → aEv, wpAny_standAt → aEw, wpAny_execs_nil → aEA, wpAny_loadPart' → aEB, pushCells_keeps → aEC, wpAny_setEntries_of → aEE, slot_dict_contains → aFa, isSubtype_type → aFc, wpAny_tryCatch → aFd, wpAny_Assign_Name → aFm, wpAny_pyIter_slot → aFq, sizeLine_eq → aFs, noFill_tuple_add → aFA, beq_builtin_none → aFC, wpAny_askSetting → aFD, concat_meets → aFS, wpAny_newTuple → aGd
open PySem.Heap renaming get?_push_of_some → aAc, lt_size → aAg, get?_push_size → aAr, get?_update_other → aAI, get?_update_self → aBv, size_push → aBH, get?_none_of_le → aEt
open List renaming mem_cons → aAd, mem_cons_of_mem → aAe, length_map → aAf, getElem?_eq_getElem → aAh, map_cons → aAi, mem_map → aAk, length_cons → aAp, size_toArray → aAq, getD_eq_getElem?_getD → aAs, mem_of_getElem? → aAw, pairwise_cons → aAy, getElem?_append_right → aAz, length_append → aAB, getElem?_eq_some_iff → aAC, nodup_cons → aAF, cons_append → aAG, sum_cons → aAJ, getElem?_map → aAK, mem_append_right → aAL, mem_singleton → aAN, reverse_cons → aAO, mem_append → aAP, mem_filter → aAU, map_map → aAV, not_mem_nil → aAW, getElem?_append_left → aAZ, range → aBa, pairwise_map → aBb, mem_range → aBd, perm_ext_iff_of_nodup → aBf, length_nil → aBg, lookup_cons → aBj, mem_flatMap → aBl, getLast?_cons_cons → aBm, mem_cons_self → aBn, getElem_of_mem → aBo, filter_sublist → aBp, dropLast_concat → aBq, mem_append_left → aBr, map_congr_left → aBw, getElem?_replicate → aBy, replicate_zero → aBz, map_append → aBA, nil_append → aBD, getElem?_zip_eq_some → aBF, getElem?_set_self → aBK, mem_map_of_mem → aBL, lookup_cons_self → aBM, length_take → aBN, set_cons_succ → aBR, set_cons_zero → aBS, zip_cons_cons → aBZ, mem_filterMap → aCb, map_nil → aCh, all_eq_true → aCi, getElem_mem → aCj, nodup_iff_pairwise_ne → aCk, pairwise_iff_getElem → aCo, getElem?_eq_none_iff → aCq, append_nil → aCs, length_replicate → aCt, mem_reverse → aCz, getElem?_set_ne → aCB, length_range → aCJ, filterMap_cons → aCK, length_reverse → aCM, replicate_succ → aCN, getElem?_toArray → aCS, replicate → aCT, mem_of_getLast? → aCW, nodup_append → aCX, forIn_cons → aDb, filter_cons_of_pos → aDe, filter_cons_of_neg → aDf, getElem?_cons_zero → aDg, length_drop → aDi, eq_nil_of_length_eq_zero → aDj, nodup_nil → aDk, length_pos_of_mem → aDl, take_of_length_le → aDn, filterMap_map → aDp, map → aDr, mem_iff_getElem? → aDv, mem_of_mem_drop → aDH, drop_eq_getElem_cons → aDL, pairwise_singleton → aDV, of_mem_zip → aDW, set → aEc, range_succ_eq_map → aEd, forIn_nil → aEf, pairwise_reverse → aEg, dropLast_eq_take → aEk, any_eq_true → aEm, zipIdx_cons → aEp, getElem_map → aEq, mem_of_mem_take → aEs, foldl_cons → aEz, zipIdx_nil → aED, length_pos_iff → aEH, range' → aEJ, exists_cons_of_ne_nil → aEL, head?_reverse → aEQ, getLast?_cons → aER, exists_mem_of_ne_nil → aFb, flatMap_cons → aFg, length_erase_of_mem → aFh, ext_getElem? → aFk, append_assoc → aFp, range'_eq_map_range → aFr, eraseIdx_cons_succ → aFt, getElem?_cons_succ → aFu, map_fst_zip → aFz, map_reverse → aFB, length_singleton → aFJ, length_filter_le → aFL, take_append_drop → aFN, mem_erase_of_ne → aFV, length_dropLast → aFX, drop_zero → aGf, length → aGg, all_cons → aGp
open Nat renaming le_refl → aAj, le_trans → aAl, ne_of_lt → aAn, lt_of_lt_of_le → aAv, zero_le → aAX, lt_irrefl → aBs, lt_succ_of_lt → aBI, reduceAdd → aCE, reduceSub → aCF, le_of_succ_le → aCI, lt_of_le_of_lt → aCR, lt_or_eq_of_le → aDq, le_of_lt → aDx, ne_of_gt → aDy, lt_succ_self → aDO, le_add_right → aDP, le_of_eq → aEj, le_of_not_lt → aEo, add_le_add_right → aEu, add_le_add_left → aEK, mul_le_mul → aFe, mod_lt → aFj, le_of_lt_succ → aFl, le_succ → aFv, gcd_dvd_left → aFy, min_eq_right → aFF, le_antisymm → aFK, zero_add → aFM, not_lt_zero → aFP, min_eq_left → aFQ, lt_trans → aGC, succ_pos → aGD
open False renaming elim → aAm
open Int renaming mul_eq_zero → aAo, mul_nonpos_of_nonneg_of_nonpos → aAt, mul_neg_of_pos_of_neg → aAx, mul_le_mul_of_nonneg_left → aAA, mul_pos → aAD, le_of_lt → aAH, mul_le_mul_of_nonneg_right → aAR, mul_nonneg → aAS, eq_of_mul_eq_mul_left → aBh, mul_pos_of_neg_of_neg → aBE, le_refl → aBJ, toNat_natCast → aBP, mul_zero → aBQ, lt_or_gt_of_ne → aCw, neg_mul_neg → aDt, lt_or_le → aDu, le_of_mul_le_mul_left → aDI, pos_of_mul_pos_right → aDT, mul_nonneg_of_nonpos_of_nonpos → aDU, mul_ediv_cancel' → aEr, toNat → aEF, mul_lt_mul_of_pos_left → aEM, le_of_mul_le_mul_right → aEN, natAbs_eq_zero → aES, ofNat_dvd_left → aET, mul_comm → aEU, neg_nonneg_of_nonpos → aFf, le_total → aFI, natAbs_mul → aGc, one_mul → aGh, mul_assoc → aGm, gcd → aGy, zero_mul → aGA, add_zero → aGB
open Bool renaming false_eq_true → aAu, and_eq_true → aAQ, false_ne_true → aBc, not_true → aDD, eq_iff_iff → aDY, and_eq_true_iff → aGb, and_false → aGe
open Array renaming getElem?_toList → aAE, getElem?_eq_getElem → aAM, length_toList → aBk, getElem?_eq_some_iff → aCl, forIn_toList → aCy, getElem?_eq_none → aCP, replicate → aEy, perm_iff_toList_perm → aEO, getD → aFi, toList → aFR, getElem_toList → aGa, toList_append → aGl
open PySem.Builtin.Tuple renaming tupleHashOf → aAT, tupleExact → aCZ, tupleItemsOf → aDG
open PySem.Builtin.Int renaming intBits → aBe
open PySem.Around renaming under_plainId → aBt, frames_deeper → aFW
open PyProof.Rows renaming callWith_type1 → aBu, wpS_bind → aBx, wpS_pure → aCp, callWith_builtin1 → aCu, slot_tuple_getitem → aCG, wpS_forRange → aEh, listItems_at → aEi, envOfC → aEI, pairsOf_size → aEV, assignInOrder_cons → aEW, KK_mirror_equal → aFO, mirror_perm → aGi, wpS_reverse → aGj
open PySem.Obj renaming mapSeq → aBT, putSet → aEx
open PySem.Builtin.SmallTypes renaming nextOf → aBW, ownedTupleIsFree → aBY, ownedTupleHandOut → aDN
open PySem.PassesOwn renaming never → aBX
open Ne renaming symm → aCa
open PySem.NameKind renaming cell → aCc
open PySem.Builtin.List renaming listExtendWith → aCf, listLengthHint → aCL, listItems → aCO, listTooLong → aDa, listSameRef → aDc, listTouch → aFH
open Or renaming inr → aCn, inl → aDd
open ForInStep renaming yield → aCr
open PySem.Value renaming type → aCx, bool → aDE, ref → aDJ, builtin → aGq, int → aGH
open PySem.Builtin.Range renaming rangeSize → aCD, small → aGk
open PySem.F renaming plain_min_loop → aCQ, plain_extend_loop → aDh, slot_zip_next → aEb, entry_min_loop → aFE
open PySem.Builtin.Slice renaming slicePlaces → aCU, sliceAdjust → aDK, sliceApplied → aEP
open Option renaming map_eq_some_iff → aDm, isSome_iff_exists → aFo
open List.Perm renaming of_eq → aDw
open PySem.Str renaming ofString → aDz
open Prod renaming ext → aDB
open PySem.SetTable renaming below → aDM, bits → aDX, fits → aGr, insertAt → aGz, tooFull → aGF
open PySem.SeqAt.EqAt renaming same → aDZ, int_int → aEY, of_refs → aEZ, int_tuple → aFY, tuple_int → aFZ, int_str → aGn, str_int → aGo
open Classical renaming propDecidable → aEa
open PySem.Builtin.Builtins renaming bindParams → aEG
open PySem.Calls renaming spliced_cons → aEX, spliced_nil → aFn, callWith_builtin → aFG
open PySem.Moved renaming trans → aFw
open PySem.Builtin.Frozenset renaming slot0 → aFx
open List.cons renaming injEq → aFT
open List.Pairwise renaming filter → aFU, nil → aGt
open Function renaming comp → aGs
open Sum renaming inl → aGu, inr → aGv
open Option.some renaming injEq → aGw
open PySem.Heap.SameBut renaming refl → aGx
open PySem.pickOrder renaming go → aGE
open Array.Perm renaming refl → aGG
abbrev G0:=PySem.Value->PySem.Shared->Prop
abbrev R4:=List (PySem.Addr×PySem.Obj)
abbrev dS:=PySem.Str->Option PySem.Value
abbrev BL:=Bool->PySem.Shared->Prop
noncomputable section
namespace G
structure V where
 x:Int
 y:Int
 z:Int
deriving DecidableEq
instance:Add V:=⟨λu v=>⟨u.x+v.x,u.y+v.y,u.z+v.z⟩⟩
instance:Sub V:=⟨λu v=>⟨u.x-v.x,u.y-v.y,u.z-v.z⟩⟩
instance:Neg V:=⟨λu=>⟨-u.x,-u.y,-u.z⟩⟩
instance:HMul Int V V:=⟨λk u=>⟨k*u.x,k*u.y,k*u.z⟩⟩
instance:OfNat V 0:=⟨⟨0,0,0⟩⟩
@[simp]def NH (u v:V):(u+v).x=u.x+v.x:=rfl
@[simp]def NO (u v:V):(u+v).y=u.y+v.y:=rfl
@[simp]def QN (u v:V):(u+v).z=u.z+v.z:=rfl
@[simp]def ID (u v:V):(u-v).x=u.x-v.x:=rfl
@[simp]def IW (u v:V):(u-v).y=u.y-v.y:=rfl
@[simp]def HN (u v:V):(u-v).z=u.z-v.z:=rfl
@[simp]def a2d (u:V):(-u).x=-u.x:=rfl
@[simp]def a0z (u:V):(-u).y=-u.y:=rfl
@[simp]def a1o (u:V):(-u).z=-u.z:=rfl
@[simp]def pG (k:Int)(u:V):(k*u).x=k*u.x:=rfl
@[simp]def qB (k:Int)(u:V):(k*u).y=k*u.y:=rfl
@[simp]def pI (k:Int)(u:V):(k*u).z=k*u.z:=rfl
@[simp]def bU:(0:V).x=0:=rfl
@[simp]def bH:(0:V).y=0:=rfl
@[simp]def bZ:(0:V).z=0:=rfl
def ext {u v:V}(a:u.x=v.x)(b:u.y=v.y)(d:u.z=v.z):u=v:=by cases u;cases v;simp_all
def qM {u v:V}:u=v↔u.x=v.x/\u.y=v.y/\u.z=v.z:=⟨λh=>by subst h;exact⟨rfl,rfl,rfl⟩,λ⟨a,b,c⟩=>ext a b c⟩
def dot (u v:V):Int:=u.x*v.x+u.y*v.y+u.z*v.z
def cr (u v:V):V:=⟨u.y*v.z-u.z*v.y,u.z*v.x-u.x*v.z,u.x*v.y-u.y*v.x⟩
def i7 (a u v:V):Int:=dot a (cr u v)
@[simp]def SW (u v:V):(cr u v).x=u.y*v.z-u.z*v.y:=rfl
@[simp]def QY (u v:V):(cr u v).y=u.z*v.x-u.x*v.z:=rfl
@[simp]def PR (u v:V):(cr u v).z=u.x*v.y-u.y*v.x:=rfl
def DR (a u v w:V):i7 a u v*w+i7 a v w*u+i7 a w u*v=i7 u v w*a:=by apply ext<;>simp[i7,dot]<;>grind
def TZ (f a u v w:V):i7 a u v*dot f w+i7 a v w*dot f u+i7 a w u*dot f v=i7 u v w*dot f a:=by simp[i7,dot];grind
def l5 (a u v:V):i7 a v u=-i7 a u v:=by simp[i7,dot];grind
def D7 (a u:V):i7 a u u=0:=by simp[i7,dot];grind
def aU (a u v w:V):i7 a (u+v) w=i7 a u w+i7 a v w:=by simp[i7,dot];grind
def aK (a u v w:V):i7 a u (v+w)=i7 a u v+i7 a u w:=by simp[i7,dot];grind
def OY (a u v w:V):i7 a u (v-w)=i7 a u v-i7 a u w:=by simp[i7,dot];grind
def zS (a:V)(k:Int)(u v:V):i7 a u (k*v)=k*i7 a u v:=by simp[i7,dot];grind
def cR (u v:V):dot u v=dot v u:=by simp[dot];grind
def A2 (f u v:V):dot f (u+v)=dot f u+dot f v:=by simp[dot];grind
def d9 (f u v:V):dot f (u-v)=dot f u-dot f v:=by simp[dot];grind
def j1 (f:V)(k:Int)(v:V):dot f (k*v)=k*dot f v:=by simp[dot];grind
def O8 (f:V)(k:Int)(v:V):dot (k*f) v=k*dot f v:=by simp[dot];grind
def D5 (f:V):dot f 0=0:=by simp[dot]
def U5 (a u v:V):dot (cr a u) v=i7 a u v:=by simp[i7,dot];grind
def n9 {u:V}(h:u≠0):0<dot u u:=by
 have f:u.x≠0\/u.y≠0\/u.z≠0:=by
  by_cases a:u.x=0
  .by_cases b:u.y=0
   .by_cases c:u.z=0
    .exact absurd (ext a b c) h
    .exact .inr (.inr c)
   .exact .inr (.inl b)
  .exact .inl a
 have e:∀t:Int,0<=t*t:=λt=>by
  rcases aFI 0 t with q|q
  .exact aAS q q
  .have:=aAS (aFf q) (aFf q);rwa [aDt]at this
 have d:∀t:Int,t≠0->0<t*t:=λt g=>by
  have:=e t;have:t*t≠0:=λz=>by rcases aAo.mp z with q|q<;>exact g q
  omega
 have a:=e u.x;have b:=e u.y;have c:=e u.z;unfold dot;rcases f with q|q|q
 .have:=d _ q;omega
 .have:=d _ q;omega
 .have:=d _ q;omega
def A3 (h:n≠0)(a:dot n u=0)(b:dot n v=0)(d:dot n w=0):i7 u v w=0:=by
 have e:i7 u v w*dot n n=0:=by have:=TZ n n u v w;rw[a,b,d]at this;simp at this;omega
 rcases aAo.mp e with q|q
 .exact q
 .have:=n9 h;omega
def x6 (v:V):(0:Int)*v=0:=ext (by simp) (by simp) (by simp)
def oR (v:V):v+0=v:=ext (by simp) (by simp) (by simp)
def iA (v:V):0+v=v:=ext (by simp) (by simp) (by simp)
structure Cone (Pos:V->Prop):Prop where
 add:∀{u v},Pos u->Pos v->Pos (u+v)
 mul:∀{k:Int} {u},0<k->Pos u->Pos (k*u)
 irr:¬Pos 0
section
variable{Pos:V->Prop} (C:Cone Pos)
include C
theorem Cone.comb {p q:Int}{u w:V}(a:0<p)(e:0<=q)(b:Pos w)(d:Pos u):Pos (p*w+q*u):=by
 by_cases h:q=0
 .subst h;rw[x6,oR];exact C.mul a b
 .exact C.add (C.mul a b) (C.mul (by lia) d)
theorem Cone.sgn {k:Int}{v:V}(b:Pos v)(h:Pos (k*v)):0<k:=by
 by_cases d:0<k
 .exact d
 .exfalso;by_cases f:k=0
  .subst f;rw[x6]at h;exact C.irr h
  .have a:=C.add h (C.mul (k:=-k) (by lia) b);have e:k*v+-k*v=0:=ext (by simp;grind) (by simp;grind) (by simp;grind);rw[e]at a;exact C.irr a
theorem Cone.tr {a u v w:V}(b:Pos u)(d:Pos v)(f:Pos w)(g:i7 u v w=0)(i:0<i7 a u v)(j:0<=i7 a v w):0<i7 a u w:=by
 refine C.sgn d (k:=i7 a u w) ?_;have e:i7 a u w*v=i7 a u v*w+i7 a v w*u:=by have h:=DR a u v w;rw[g,x6,l5 a u w]at h;have l:=ip V.x h;have m:=ip V.y h;have n:=ip V.z h;simp at l m n;exact ext (by simp;grind) (by simp;grind) (by simp;grind)
 rw[e];exact C.comb i j f b
theorem Cone.tr' {a u v w:V}(b:Pos u)(d:Pos v)(f:Pos w)(g:i7 u v w=0)(i:0<=i7 a u v)(j:0<i7 a v w):0<i7 a u w:=by
 refine C.sgn d (k:=i7 a u w) ?_;have e:i7 a u w*v=i7 a v w*u+i7 a u v*w:=by have h:=DR a u v w;rw[g,x6,l5 a u w]at h;have l:=ip V.x h;have m:=ip V.y h;have n:=ip V.z h;simp at l m n;exact ext (by simp;grind) (by simp;grind) (by simp;grind)
 rw[e];exact C.comb j i b f
end
structure ConeM (a:V)(Pos:V->Prop):Prop extends Cone Pos where
 inv:∀{u} (k:Int),Pos u->Pos (u+k*a)
def ConeM.tr {a:V}{Pos:V->Prop}(C:ConeM a Pos){u v w:V}(b:Pos u)(d:Pos v)(f:Pos w)(g:0<i7 a u v)(i:0<=i7 a v w):0<i7 a u w:=by
 refine C.sgn d (k:=i7 a u w) ?_;have e:i7 a u w*v=(i7 a u v*w+i7 a v w*u)+(-i7 u v w)*a:=by have h:=DR a u v w;rw[l5 a u w]at h;have j:=ip V.x h;have l:=ip V.y h;have m:=ip V.z h;simp at j l m;exact ext (by simp;grind) (by simp;grind) (by simp;grind)
 rw[e];exact C.inv _ (C.comb g i f b)
def f9 (w:V):Prop:=0<w.x\/(w.x=0/\(0<w.y\/(w.y=0/\0<w.z)))
instance(w:V):Decidable (f9 w):=inferInstanceAs (Decidable<|_\/_)
def A5:Cone f9 where
 add:=λ{u v} e f=>by unfold f9 at*;simp;lia
 mul:=λ{k u} a h=>by
  unfold f9 at*
  simp;rcases h with h|⟨h,b|⟨b,d⟩⟩
  .exact .inl (aAD a h)
  .exact .inr ⟨by rw[h];simp,.inl (aAD a b)⟩
  .exact .inr ⟨by rw[h];simp,.inr ⟨by rw[b];simp,aAD a d⟩⟩
 irr:=by unfold f9;simp
def P1 (w:V):Prop:=f9 (-w)
def DA:-(0:V)=0:=rfl
def aT:Cone P1 where
 add:=λ{u v} a b=>by have e:-(u+v)=-u+-v:=ext (by simp;lia) (by simp;lia) (by simp;lia);unfold P1 at*;rw[e];exact A5.add a b
 mul:=λ{k u} d h=>by have e:-(k*u)=k*(-u):=ext (by simp;grind) (by simp;grind) (by simp;grind);unfold P1 at*;rw[e];exact A5.mul d h
 irr:=by unfold P1;rw[DA];exact A5.irr
def YM (w:V):f9 w\/w=0\/P1 w:=by
 unfold P1 f9;rw[qM];simp
 lia
def v5 (v:V):v-v=0:=ext (by simp) (by simp) (by simp)
def fZ (a u:V):i7 a u 0=0:=by simp[i7,dot]
def L5 (a u v:V):i7 a u (-v)=-i7 a u v:=by simp[i7,dot];grind
def aS (a u v:V):i7 a (-u) v=-i7 a u v:=by simp[i7,dot];grind
structure Row (n:V)(Pos:V->Prop)(T:V->Prop):Prop where
 cone:Cone Pos
 nz:n≠0
 pl:∀X Y,T X->T Y->dot n (X-Y)=0
 tot:∀X Y,T X->T Y->X=Y\/Pos (X-Y)\/Pos (Y-X)
def Lft (n:V)(Pos:V->Prop)(a b X:V):Prop:=0<=i7 n (b-a) (X-a)/\(i7 n (b-a) (X-a)=0->(X=a\/Pos (X-a))/\(X=b\/Pos (b-X)))
def turn (n P Q R:V):Int:=i7 n (Q-P) (R-Q)
def X8 (n P:V):List V->List V
 |b::a::r=>if turn n a b P<=0 then X8 n P (a::r)else b::a::r
 |r=>r
def y8 (n:V)(ps:List V):List V:=ps.foldl (λc P=>P::X8 n P c) []
def F9:List V->List (V×V)
 |b::a::r=>(a,b)::F9 (a::r)
 |_=>[]
def vL (n:V):List V->Prop
 |b::a::d::r=>0<i7 n (a-d) (b-a)/\vL n (a::d::r)
 |_=>True
def vL.tail (h:vL n (b::r)):vL n r:=by
 match r,h with
 |[],_=>trivial
 |[_],_=>trivial
 |_::_::_,h=>exact h.2
def Q0 (h:e∈F9 r):e∈F9 (b::r):=by
 match r,h with
 |a::r,h=>exact aAe _ h
section
variable{n:V} {Pos:V->Prop} {T:V->Prop} (F:Row n Pos T)
include F
structure ChOk (n:V)(Pos:V->Prop)(done:V->Prop)(c:List V):Prop where
 mem:∀X∈c,done X
 ed:∀e∈F9 c,Pos (e.2-e.1)/\∀X,done X->Lft n Pos e.1 e.2 X
 bend:vL n c
 last:∀X,done X->∀z,c.getLast?=some z->X=z\/Pos (X-z)
theorem Row.ac6 {done:V->Prop}(f:∀X,done X->T X)(m:Pos x)(o:dot n x=0):∀(c:List V),(∀X∈c,done X)->(∀e∈F9 c,Pos (e.2-e.1))->vL n c->(∀b a r,c=b::a::r->0<i7 n (b-a) x)->∀e∈F9 c,0<i7 n (e.2-e.1) x
 |[],_,_,_,_,e,d=>by cases d
 |[_],_,_,_,_,e,d=>by cases d
 |[b,a],_,_,_,h,e,d=>by simp[F9]at d;subst d;exact h b a [] rfl
 |b::a::p::r,g,j,s,h,e,d=>by
  have i:=h b a _ rfl;rcases aAd.mp d with q|q
  .subst q;exact i
  .refine Row.ac6 f m o (a::p::r) (λX t=>g X (aAe _ t)) (λe d=>j e (Q0 d)) s.tail ?_ e q;intro w y z k;injection k with k l;injection l with l A;subst k l;have u:=j (p,a) (Q0 (by simp[F9]));have v:=j (a,b) (by simp[F9]);exact F.cone.tr u v m (A3 F.nz (F.pl _ _ (f _ (g _ (by simp))) (f _ (g _ (by simp)))) (F.pl _ _ (f _ (g _ (by simp))) (f _ (g _ (by simp)))) o) s.1 (aAH i)
theorem Row.weak (d:Pos u)(a:Pos v)(f:Pos w)(k:dot n u=0)(l:dot n v=0)(m:dot n w=0)(o:0<=i7 n u v)(p:0<=i7 n v w):0<=i7 n u w:=by
 have b:=A3 F.nz k l m;by_cases q:0<i7 n u v
 .exact aAH (F.cone.tr d a f b q p)
 .by_cases r:0<i7 n v w
  .exact aAH (F.cone.tr' d a f b o r)
  .have s:i7 n u v=0:=by lia
   have t:i7 n v w=0:=by lia
   have h:=DR n u v w;rw[s,t,b,x6,x6,x6,iA,iA]at h;by_cases z:i7 n w u=0
   .rw[l5];lia
   .exfalso;have e:v=0:=by have g:=ip V.x h;have i:=ip V.y h;have j:=ip V.z h;simp at g i j;exact ext ((aAo.mp g).resolve_left z) ((aAo.mp i).resolve_left z) ((aAo.mp j).resolve_left z)
    rw[e]at a;exact F.cone.irr a
theorem Row.ad6 {done:V->Prop}(hd:∀X,done X->T X)(v:T P)(m:∀X,done X->Pos (P-X)):∀(c:List V),ChOk n Pos done c->c≠[]->
  (∀X q,c.head?=some q->done X->(X=q\/Pos (X-q))->0<=i7 n (P-q) (X-q))->
  ∃q r,X8 n P c=q::r/\ChOk n Pos done (q::r)/\(∀X,done X->(X=q\/Pos (X-q))->0<=i7 n (P-q) (X-q))/\∀a w,r=a::w->0<turn n a q P
 |[],_,h,_=>absurd rfl h
 |[b],ok,_,o=>⟨b,[],rfl,ok,λX d h=>o X b rfl d h,λa w e=>by cases e⟩
 |b::a::r,ok,_,o=>by
  by_cases A:turn n a b P<=0
  .have e:X8 n P (b::a::r)=X8 n P (a::r):=by rw[X8,hV A]
   rw[e];have i:=ok.mem b (by simp);have s:=ok.mem a (by simp);have O:=ok.ed (a,b) (by simp[F9]);refine Row.ad6 hd v m (a::r) ⟨λX d=>ok.mem X (aAe _ d),λe he=>ok.ed e (Q0 he),ok.bend.tail,λX d z t=>ok.last X d z (by rw[aBm];exact t)⟩ (by simp) ?_;intro X q hq d B;have C:a=q:=Option.some.inj hq;subst C;have hu:Pos (b-a):=O.1;have hp:Pos (P-b):=m b i;have Q:Pos (P-a):=m a s;have U:dot n (b-a)=0:=F.pl _ _ (hd _ i) (hd _ s);have pp:dot n (P-b)=0:=F.pl _ _ v (hd _ i);have E:dot n (P-a)=0:=F.pl _ _ v (hd _ s);unfold turn at A;have H:0<=i7 n (P-b) (b-a):=by rw[l5];lia
   rcases F.tot X b (hd X d) (hd b i)with z|z|z
   .
    subst z;have f:P-a=(P-X)+(X-a):=ext (by simp;lia) (by simp;lia) (by simp;lia);rw[f,aU,D7];lia
   .
    have I:=o X b rfl d (.inr z);have px:dot n (X-b)=0:=F.pl _ _ (hd _ d) (hd _ i);have j:Pos (P-X):=m X d;have J:i7 n (P-a) (X-a)*(P-b)=i7 n (P-b) (X-b)*(P-a)+i7 n (P-b) (b-a)*(P-X):=by
     have k:=DR n (b-a) (X-b) (P-b);rw[A3 F.nz U px pp,x6]at k;have f:P-a=(b-a)+(P-b):=ext (by simp;lia) (by simp;lia) (by simp;lia);have e2:X-a=(b-a)+(X-b):=ext (by simp;lia) (by simp;lia) (by simp;lia);have e3:P-X=(P-b)-(X-b):=ext (by simp;lia) (by simp;lia) (by simp;lia);rw[f,e2,e3];generalize b-a=u at*
     generalize X-b=x at*
     generalize P-b=p at*
     rw[aU,aK,aK,D7];have I:=ip V.x k;have Y:=ip V.y k;have t:=ip V.z k;rw[l5 n p x]at k I Y t;simp at I Y t;have s1:=l5 n p x;have s2:=l5 n p u;have s3:=l5 n u x;apply ext<;>simp<;>grind
    by_cases zz:0<=i7 n (P-a) (X-a)
    .exact zz
    .exfalso;have L:Pos ((-i7 n (P-a) (X-a))*(P-b)):=F.cone.mul (by lia) hp;have N:Pos (-i7 n (P-a) (X-a)*(P-b)+(i7 n (P-b) (X-b)*(P-a)+i7 n (P-b) (b-a)*(P-X))):=by
      by_cases y1:i7 n (P-b) (X-b)=0
      .rw[y1,x6,iA];by_cases y2:i7 n (P-b) (b-a)=0
       .rw[y2,x6,oR];exact L
       .exact F.cone.add L (F.cone.mul (by lia) j)
      .exact F.cone.add L (F.cone.comb (by lia) H Q j)
     rw[<-J]at N;have e0:-i7 n (P-a) (X-a)*(P-b)+i7 n (P-a) (X-a)*(P-b)=0:=by apply ext<;>simp<;>grind
     rw[e0]at N;exact F.cone.irr N
   .
    rcases B with g|g
    .subst g;rw[v5,fZ];exact aBJ _
    .have hl:=(O.2 X d).1;have l:0<=i7 n (P-a) (b-a):=by have f:P-a=(P-b)+(b-a):=ext (by simp;lia) (by simp;lia) (by simp;lia);rw[f,aU,D7];lia
     exact F.weak Q hu g E U (F.pl _ _ (hd _ d)<|hd _ s) l hl
  .have e:X8 n P (b::a::r)=b::a::r:=by rw[X8,h9 A]
   refine⟨b,a::r,e,ok,λX d h=>o X b rfl d h,λa' w e'=>?_⟩;injection e' with f _;subst f
   lia
theorem Row.push {done:V->Prop}(hd:∀X,done X->T X)(C:T P)(s:∀X,done X->Pos (P-X))(ok:ChOk n Pos done c)(I:c≠[])(J:∀X q,c.head?=some q->done X->X=q\/Pos (q-X)):
  ChOk n Pos (λX=>done X\/X=P) (P::X8 n P c):=by
 obtain⟨q,r,e,f,u,j⟩:=F.ad6 hd C s c ok I (λX q u d h=>by
  rcases h with h|h
  .subst h;rw[v5,fZ];exact aBJ _
  .exfalso;rcases J X q u d with z|z
   .subst z;rw[v5]at h;exact F.cone.irr h
   .have:=F.cone.add h z;have v:X-q+(q-X)=0:=ext (by simp;lia) (by simp;lia) (by simp;lia);rw[v]at this;exact F.cone.irr this)
 rw[e];have l:=f.mem q (by simp);have i:Pos (P-q):=s q l;have m:dot n (P-q)=0:=F.pl _ _ C (hd _ l);refine⟨λX d=>?_,λg w=>?_,?_,λX d z t=>?_⟩
 .rcases aAd.mp d with h|h
  .exact .inr h
  .exact .inl (f.mem X h)
 .rcases aAd.mp w with h|h
  .subst h;refine⟨i,λX d=>?_⟩;rcases d with d|d
   .rcases F.tot X q (hd _ d) (hd _ l)with z|z|z
    .subst z;exact⟨by rw[v5,fZ];exact aBJ _,λ_=>⟨.inl rfl,.inr i⟩⟩
    .exact⟨u X d (.inr z),λ_=>⟨.inr z,.inr (s X d)⟩⟩
    .
     have:0<i7 n (P-q) (X-q):=by
      match r,j,f with
      |[],_,f=>
       rcases f.last X d q rfl with y|y
       .subst y;rw[v5]at z;exact absurd z F.cone.irr
       .exfalso;have:=F.cone.add y z;have v:X-q+(q-X)=0:=ext (by simp;lia) (by simp;lia) (by simp;lia);rw[v]at this;exact F.cone.irr this
      |a::o,j,f=>
       have x:=j a o rfl;unfold turn at x;have L:=f.mem a (by simp);have E:=f.ed (a,q) (by simp[F9]);have H:=(E.2 X d).1;have p:X-a=(q-a)-(q-X):=ext (by simp;lia) (by simp;lia) (by simp;lia);dsimp only at H;rw[p,OY,D7]at H;have N:0<=i7 n (q-X) (q-a):=by rw[l5];lia
       have:=F.cone.tr' (a:=n) z E.1 i (A3 F.nz (F.pl _ _ (hd _ l)<|hd _ d) (F.pl _ _ (hd _ l)<|hd _ L) m) N x;have A:X-q=-(q-X):=ext (by simp;lia) (by simp;lia) (by simp;lia);rw[A,L5,l5];lia
     exact⟨aAH this,λz=>by dsimp only at z;lia⟩
   .subst d;exact⟨by rw[D7];exact aBJ _,λ_=>⟨.inr i,.inl rfl⟩⟩
  .
   have k:=f.ed g h;refine⟨k.1,λX d=>?_⟩;rcases d with d|d
   .exact k.2 X d
   .subst d;have x:=F.ac6 hd i m (q::r) f.mem (λe w=>(f.ed e w).1) f.bend (λb a o O=>by injection O with p A;subst p;exact j a o A) g h
    have Q:=(k.2 q l).1;have:0<i7 n (g.2-g.1) (X-g.1):=by have p:X-g.1=(q-g.1)+(X-q):=ext (by simp;lia) (by simp;lia) (by simp;lia);rw[p,aK];lia
    exact⟨aAH this,λz=>by lia⟩
 .match r,j,f with
  |[],_,_=>trivial
  |a::o,j,f=>exact⟨j a o rfl,f.bend⟩
 .rcases d with d|d
  .exact f.last X d z (by rw[aBm]at t;exact t)
  .subst d;have B:(q::r).getLast?=some z:=by rw[aBm]at t;exact t
   exact .inr (s z<|f.mem z<|aCW B)
end
section
variable{n:V} {Pos:V->Prop} {T:V->Prop} (F:Row n Pos T)
include F
theorem ChOk.congr {done a:V->Prop}(ok:ChOk n Pos done c)(h:∀X,done X↔a X):ChOk n Pos a c:=
 ⟨λX b=>(h X).mp (ok.mem X b),λe d=>⟨(ok.ed e d).1,λX b=>(ok.ed e d).2 X ((h X).mpr b)⟩,ok.bend,λX b=>ok.last X ((h X).mpr b)⟩
theorem Row.fold:∀(rest:List V) (done:V->Prop) (c:List V),ChOk n Pos done c->c≠[]->(∀X q,c.head?=some q->done X->X=q\/Pos (q-X))->(∀X,done X->T X)->(∀X∈rest,T X)->
  (∀X Y,done X->Y∈rest->Pos (Y-X))->rest.Pairwise (λa b=>Pos (b-a))->
  ChOk n Pos (λX=>done X\/X∈rest) (rest.foldl (λc P=>P::X8 n P c) c)/\rest.foldl (λc P=>P::X8 n P c) c≠[]/\(∀X q,(rest.foldl (λc P=>P::X8 n P c) c).head?=some q->(done X\/X∈rest)->X=q\/Pos (q-X))
 |[],done,c,ok,h,i,j,k,g,m=>⟨ChOk.congr F ok λX=>by simp,h,λX q f d=>by
   rcases d with d|d
   .exact i X q f d
   .cases d⟩
 |P::rest,done,c,ok,h,i,j,k,g,m=>by
  have o:=k P (by simp);have s:=F.push j o (λX d=>g X P d (by simp)) ok h i;have p:=aAy.mp m;obtain⟨t,u,v⟩:=Row.fold rest (λX=>done X\/X=P) (P::X8 n P c) s (by simp) (λX q f d=>by
    have l:P=q:=Option.some.inj f;subst l;rcases d with d|d
    .exact .inr (g X P d (by simp))
    .exact .inl d) (λX d=>by
    rcases d with d|d
    .exact j X d
    .subst d;exact o) (λX d=>k X (aAe _ d)) (λX Y d r=>by
    rcases d with d|d
    .exact g X Y d (aAe _ r)
    .subst d;exact p.1 Y r) p.2
  have e:∀X,((done X\/X=P)\/X∈rest)↔(done X\/X∈P::rest):=λX=>by simp[or_assoc]
  exact⟨ChOk.congr F t e,u,λX q f d=>v X q f ((e X).mpr d)⟩
theorem Row.ad0 (k:ps≠[])(h:∀X∈ps,T X)(l:ps.Pairwise (λa b=>Pos (b-a))):
  ChOk n Pos (λX=>X∈ps) (y8 n ps)/\y8 n ps≠[]/\(∀X q,(y8 n ps).head?=some q->X∈ps->X=q\/Pos (q-X)):=by
 match ps,k with
 |p::rest,_=>
  have i:=aAy.mp l;have ok:ChOk n Pos (λX=>X=p) [p]:=⟨λX d=>by simpa using d,λe m=>by simp[F9]at m,trivial,λX d z j=>by simp at j;subst j;exact .inl d⟩
  obtain⟨o,r,s⟩:=F.fold rest (λX=>X=p) [p] ok (by simp) (λX q f d=>by have g:p=q:=Option.some.inj f;subst g;exact .inl d) (λX d=>by subst d;exact h _ (by simp)) (λX d=>h X (aAe _ d)) (λX Y d t=>by subst d;exact i.1 Y t) i.2
  have e:∀X,(X=p\/X∈rest)↔X∈p::rest:=λX=>by simp
  refine⟨ChOk.congr F o e,r,λX q f d=>s X q f ((e X).mpr d)⟩
end
def j6 (n:V)(a:List V):List V:=(y8 n a).reverse.dropLast++(y8 n a.reverse).reverse.dropLast
def j4:List V->List (V×V)
 |a::b::r=>(a,b)::j4 (b::r)
 |_=>[]
theorem mU:∀(l:List V) (a b:V),j4 (l++[a]++[b])=j4 (l++[a])++[(a,b)]
 |[],a,b=>rfl
 |[x],a,b=>rfl
 |x::y::l,a,b=>by have:=mU (y::l) a b;simp only[aAG,j4]at this⊢;rw[this]
theorem iE:∀c:List V,j4 c.reverse=(F9 c).reverse
 |[]=>rfl
 |[_]=>rfl
 |b::a::r=>by
  have d:=iE (a::r);rw[aAO,aAO]at*
  rw[mU,d,F9,aAO]
theorem mS:∀(l:List V) (a:V) (m:List V),j4 (l++a::m)=j4 (l++[a])++j4 (a::m)
 |[],a,m=>by cases m<;>rfl
 |[x],a,m=>rfl
 |x::y::l,a,m=>by have:=mS (y::l) a m;simp only[aAG,j4]at this⊢;rw[this]
def z6 (l:List V):List (V×V):=l.zip (l.tail++l.take 1)
theorem cG:∀(l:List V) (z:V),l.zip (l.tail++[z])=j4 (l++[z])
 |[],z=>rfl
 |[a],z=>rfl
 |a::b::r,z=>by have:=cG (b::r) z;simp only[List.tail_cons,aAG,j4,aBZ]at this⊢;rw[this]
def Q6:z6 (a::l)=j4 (a::l++[a]):=cG (a::l) a
def PV (i:y8 n a=M::c)(j:y8 n a.reverse=m::d)(g:(M::c).getLast?=some m)(k:(m::d).getLast?=some M)(l:c≠[]):
  z6 (j6 n a)=(F9 (y8 n a)).reverse++(F9 (y8 n a.reverse)).reverse:=by
 rw[<-iE,<-iE];unfold j6;rw[i,j,aAO,aAO,aBq,aBq];have b:∃e,c.reverse=m::e:=by
  have:c.getLast?=some m:=by
   match c,l with
   |x::c,_=>rw[aBm]at g;exact g
  rw[<-aEQ]at this;match o:c.reverse,this with
  |x::r,this=>exact⟨r,by rw[show x=m from Option.some.inj this]⟩
 obtain⟨e,b⟩:=b;have f:∃h,d.reverse++[m]=M::h:=by
  have:(m::d).reverse.head?=some M:=by rw[aEQ];exact k
  rw[aAO]at this;match o:d.reverse++[m],this with
  |x::r,this=>exact⟨r,by rw[show x=M from Option.some.inj this]⟩
 obtain⟨h,f⟩:=f;have p:c.reverse++d.reverse=m::(e++d.reverse):=by rw[b];rfl
 rw[p,Q6];have q:m::(e++d.reverse)++[m]=c.reverse++(d.reverse++[m]):=by rw[b];simp
 rw[q,f,mS]
def t5 (a b:V):-(a-b)=b-a:=ext (by simp;lia) (by simp;lia) (by simp;lia)
def t7:P1 (a-b)↔f9 (b-a):=by unfold P1;rw[t5]
def K0 (h:f9 (a-a)):False:=by rw[v5]at h;exact A5.irr h
def v9 (h:f9 (a-b))(h':f9 (b-a)):False:=by have:=A5.add h h';have d:a-b+(b-a)=0:=ext (by simp;lia) (by simp;lia) (by simp;lia);rw[d]at this;exact A5.irr this
def L8 (a b:V):a=b\/f9 (a-b)\/f9 (b-a):=by
 rcases YM (a-b)with h|h|h
 .exact .inr (.inl h)
 .refine .inl (ext ?_ ?_ ?_)
  .have:=ip V.x h;simp at this;lia
  .have:=ip V.y h;simp at this;lia
  .have:=ip V.z h;simp at this;lia
 .exact .inr (.inr (t7.mp h))
def zy (P Q X:V):Prop:=(f9 (Q-P)->(X=P\/f9 (X-P))/\(X=Q\/f9 (Q-X)))/\(f9 (P-Q)->(X=P\/f9 (P-X))/\(X=Q\/f9 (X-Q)))
structure EdgeOf (n:V)(T:V->Prop)(P Q:V):Prop where
 p:T P
 q:T Q
 ne:P≠Q
 left:∀X,T X->0<=i7 n (Q-P) (X-P)
 btw:∀X,T X->i7 n (Q-P) (X-P)=0->zy P Q X
section
variable{n:V} {T:V->Prop}
def EdgeOf.next (h:EdgeOf n T P Q)(h':EdgeOf n T P R):Q=R:=by
 have l:=h.left R h'.q;have i:=h'.left Q h.q;rw[l5]at i;have j:i7 n (Q-P) (R-P)=0:=by lia
 have k:i7 n (R-P) (Q-P)=0:=by rw[l5];lia
 have f:=h.btw R h'.q j;have g:=h'.btw Q h.q k;rcases L8 Q P with e|e|e
 .exact absurd e.symm h.ne
 .have b:=f.1 e;have d:f9 (R-P):=b.1.resolve_left (aCa h'.ne);rcases b.2 with q|q
  .exact q.symm
  .rcases(g.1 d).2 with a|a
   .exact a
   .exact(v9 q a).elim
 .have b:=f.2 e;have d:f9 (P-R):=b.1.resolve_left (aCa h'.ne);rcases b.2 with q|q
  .exact q.symm
  .rcases(g.2 d).2 with a|a
   .exact a
   .exact(v9 q a).elim
def qG (n P Q X:V):i7 n (Q-P) (X-P)=i7 n (Q-P) (X-Q):=by have e:X-P=(X-Q)+(Q-P):=ext (by simp;lia) (by simp;lia) (by simp;lia);rw[e,aK,D7];lia
def EdgeOf.prev (h:EdgeOf n T P R)(h':EdgeOf n T Q R):P=Q:=by
 have k:=h.left Q h'.p;have l:=h'.left P h.p;have m:i7 n (R-Q) (P-Q)=-i7 n (R-P) (Q-P):=by simp[i7,dot];grind
 have i:i7 n (R-P) (Q-P)=0:=by lia
 have j:i7 n (R-Q) (P-Q)=0:=by lia
 have f:=h.btw Q h'.p i;have g:=h'.btw P h.p j;rcases L8 R P with e|e|e
 .exact absurd e.symm h.ne
 .have b:=f.1 e;have d:f9 (R-Q):=b.2.resolve_left h'.ne;rcases b.1 with q|q
  .exact q.symm
  .rcases(g.1 d).1 with a|a
   .exact a
   .exact(v9 q a).elim
 .have b:=f.2 e;have d:f9 (Q-R):=b.2.resolve_left h'.ne;rcases b.1 with q|q
  .exact q.symm
  .rcases(g.2 d).1 with a|a
   .exact a
   .exact(v9 q a).elim
end
theorem pJ {Pos:V->Prop}(X:V):∀(c:List V),(∀Y∈c,X=Y\/Pos (X-Y)\/Pos (Y-X))->(∀q,c.head?=some q->X=q\/Pos (q-X))->(∀z,c.getLast?=some z->X=z\/Pos (X-z))->c≠[]->
  (∀u,Pos u->Pos (-u)->False)->X∈c\/∃a b,(a,b)∈F9 c/\Pos (X-a)/\Pos (b-X)
 |[],_,_,_,h,_=>absurd rfl h
 |[q],_,d,f,_,g=>by
  rcases d q rfl with e|e
  .exact .inl (by simp[e])
  .rcases f q rfl with i|i
   .exact .inl (by simp[i])
   .exact(g _ e (by rw[t5];exact i)).elim
 |b::a::r,j,d,f,_,g=>by
  rcases d b rfl with e|e
  .exact .inl (by simp[e])
  .rcases j a (by simp)with y|y|y
   .exact .inl (by simp[y])
   .exact .inr ⟨a,b,by simp[F9],y,e⟩
   .rcases pJ X (a::r) (λY k=>j Y (aAe _ k)) (λq l=>by have:a=q:=Option.some.inj l;subst this;exact .inr y) (λz m=>f z (by rw[aBm];exact m)) (by simp) g with h|⟨n,o,h,p⟩
    .exact .inl (aAe _ h)
    .exact .inr ⟨n,o,Q0 h,p⟩
def Row.ad5 {Pos:V->Prop}{T:V->Prop}(F:Row n Pos T)(g:T a)(h:T b)(d:T P)(i:T Q)(j:Pos (P-a))(k:Pos (b-P))(l:Pos (Q-P))(m:0<=i7 n (b-a) (P-a))(f:0<i7 n (Q-P) (a-P))(o:0<=i7 n (Q-P) (b-P)):False:=by
 have p:i7 n (Q-P) (a-P)=i7 n (P-a) (Q-P):=by have e:a-P=-(P-a):=(t5 _ _).symm;rw[e,L5,l5];lia
 rw[p]at f;have:=F.cone.tr j l k (A3 F.nz (F.pl _ _ d g) (F.pl _ _ i d)<|F.pl _ _ h d) f o;have q:b-a=(b-P)+(P-a):=ext (by simp;lia) (by simp;lia) (by simp;lia);rw[q,aU,D7,l5]at m
 lia
structure Sheet (n:V)(ts:List V):Prop where
 nz:n≠0
 pl:∀X∈ts,∀Y∈ts,dot n (X-Y)=0
 ord:ts.Pairwise (λa b=>f9 (b-a))
 two:∃X∈ts,∃Y∈ts,X≠Y
section
variable{n:V} {ts:List V} (S:Sheet n ts)
include S
theorem Sheet.row:Row n f9 (λX=>X∈ts):=⟨A5,S.nz,λX Y a b=>S.pl X a Y b,λX Y _ _=>L8 X Y⟩
theorem Sheet.ae7:Row n P1 (λX=>X∈ts):=⟨aT,S.nz,λX Y a b=>S.pl X a Y b,λX Y _ _=>by
 rcases L8 X Y with h|h|h
 .exact .inl h
 .exact .inr (.inr (t7.mpr h))
 .exact .inr (.inl (t7.mpr h))⟩
theorem Sheet.ne:ts≠[]:=by obtain⟨X,a,_⟩:=S.two;intro e;rw[e]at a;cases a
theorem Sheet.ab3:ChOk n f9 (λX=>X∈ts) (y8 n ts)/\y8 n ts≠[]/\(∀X q,(y8 n ts).head?=some q->X∈ts->X=q\/f9 (q-X)):=
 S.row.ad0 S.ne (λ_ h=>h) S.ord
theorem Sheet.ab2:ChOk n P1 (λX=>X∈ts) (y8 n ts.reverse)/\y8 n ts.reverse≠[]/\(∀X q,(y8 n ts.reverse).head?=some q->X∈ts->X=q\/P1 (q-X)):=by
 have h:=S.ae7.ad0 (ps:=ts.reverse) (by simpa using S.ne) (λX h=>by simpa using h) (by rw[aEg];exact S.ord.imp λh=>t7.mpr h)
 obtain⟨a,b,d⟩:=h;exact⟨ChOk.congr S.ae7 a λX=>by simp,b,λX q e f=>d X q e (by simpa using f)⟩
theorem Sheet.ad9 (h:(a,b)∈F9 (y8 n ts))(i:a∈ts)(j:b∈ts):EdgeOf n (λX=>X∈ts) a b/\f9 (b-a):=by obtain⟨d,f⟩:=S.ab3.1.ed _ h;dsimp only at d f;refine⟨⟨i,j,λe=>by subst e;exact K0 d,λX g=>(f X g).1,λX g z=>⟨λ_=>(f X g).2 z,λy=>(v9 d y).elim⟩⟩,d⟩
theorem Sheet.ae0 (h:(a,b)∈F9 (y8 n ts.reverse))(j:a∈ts)(k:b∈ts):EdgeOf n (λX=>X∈ts) a b/\f9 (a-b):=by obtain⟨i,f⟩:=S.ab2.1.ed _ h;dsimp only at i f;have d:=t7.mp i;refine⟨⟨j,k,λe=>by subst e;exact K0 d,λX g=>(f X g).1,λX g z=>⟨λy=>(v9 d y).elim,λ_=>?_⟩⟩,d⟩;obtain⟨l,m⟩:=(f X g).2 z;exact⟨l.imp id t7.mp,m.imp id t7.mp⟩
theorem M7 (h:(a,b)∈F9 c):a∈c/\b∈c:=by
 induction c with
 |nil=>cases h
 |cons x c d=>
  match c,h,d with
  |[],h,_=>cases h
  |y::r,h,d=>
   rcases aAd.mp h with e|e
   .cases e;simp
   .have:=d e;exact⟨aAe _ this.1,aAe _ this.2⟩
theorem Sheet.ends:∃m M c d,m∈ts/\M∈ts/\f9 (M-m)/\(∀X∈ts,X=m\/f9 (X-m))/\(∀X∈ts,X=M\/f9 (M-X))/\y8 n ts=M::c/\y8 n ts.reverse=m::d/\(M::c).getLast?=some m/\(m::d).getLast?=some M/\c≠[]/\d≠[]:=by
 obtain⟨l,u,v⟩:=S.ab3;obtain⟨o,w,x⟩:=S.ab2;obtain⟨M,c,b⟩:=aEL u;obtain⟨m,d,f⟩:=aEL w;have p:M∈ts:=l.mem M (by rw[b];simp);have s:m∈ts:=o.mem m (by rw[f];simp);have q:∀X∈ts,X=M\/f9 (M-X):=λX g=>v X M (by rw[b];rfl) g;have h:∀X∈ts,X=m\/f9 (X-m):=λX g=>(x X m (by rw[f];rfl) g).imp id t7.mp;obtain⟨z,i⟩:∃z,(M::c).getLast?=some z:=by simp[aER]
 obtain⟨y,j⟩:∃z,(m::d).getLast?=some z:=by simp[aER]
 have A:z=m:=by
  have B:z∈ts:=l.mem z (by rw[b];exact aCW i);rcases l.last m s z (by rw[b];exact i)with e|e
  .exact e.symm
  .rcases h z B with a|a
   .exact a
   .exact(v9 e a).elim
 have C:y=M:=by
  have E:y∈ts:=o.mem y (by rw[f];exact aCW j);rcases o.last M p y (by rw[f];exact j)with e|e
  .exact e.symm
  .rcases q y E with a|a
   .exact a
   .exact(v9 (t7.mp e) a).elim
 subst A C;have r:f9 (y-z):=by
  obtain⟨X,g,Y,H,ne⟩:=S.two;rcases h y p with e|e
  .exfalso;subst e;have k:∀W∈ts,W=y:=λW t=>by
    rcases h W t with e|e
    .exact e
    .rcases q W t with a|a
     .exact a
     .exact(v9 e a).elim
   exact ne ((k X g).trans (k Y H).symm)
  .exact e
 refine⟨z,y,c,d,s,p,r,h,q,b,f,i,j,λe=>?_,λe=>?_⟩
 .subst e;have:y=z:=by simpa using i
  subst this;exact K0 r
 .subst e;have:z=y:=by simpa using j
  subst this;exact K0 r
theorem Sheet.pair (h:(P,Q)∈z6 (j6 n ts)):EdgeOf n (λX=>X∈ts) P Q:=by
 obtain⟨m,M,c,d,i,j,k,l,o,a,b,e,f,g,p⟩:=S.ends;rw[PV a b e f g,aAP,aCz,aCz]at h;rcases h with h|h
 .have:=M7 S h;exact(S.ad9 h (S.ab3.1.mem _ this.1)<|S.ab3.1.mem _ this.2).1
 .have:=M7 S h;exact(S.ae0 h (S.ab2.1.mem _ this.1)<|S.ab2.1.mem _ this.2).1
theorem U3 (h:P∈l):∃Q,(P,Q)∈z6 l:=by
 obtain⟨i,b,e⟩:=aBo h;have d:l.length=(l.tail++l.take 1).length:=by
  match l,b with
  |a::l,_=>simp
 refine⟨(l.tail++l.take 1)[i]'(by lia),?_⟩;unfold z6;refine List.mem_of_getElem (i:=i) (h:=by rw[List.length_zip];lia) ?_;rw[List.getElem_zip,e]
theorem Sheet.ab1 (h:EdgeOf n (λX=>X∈ts) P Q):P∈j6 n ts:=by
 obtain⟨m,M,c,d,T,U,mM,C,E,A,B,h3,h4,hc,hd⟩:=S.ends;obtain⟨o,H,I⟩:=S.ab3;obtain⟨i,J,L⟩:=S.ab2;unfold j6;rw[aAP,A,B,aAO,aAO,aBq,aBq,aCz,aCz];rcases L8 Q P with e|e|e
 .exact absurd e.symm h.ne
 .
  left;rcases pJ (Pos:=f9) P (y8 n ts) (λY _=>L8 P Y) (λq s=>I P q s h.p) (λz t=>o.last P h.p z t) H (λu a b=>by have:=A5.add a b;have v:u+-u=0:=ext (by simp;lia) (by simp;lia) (by simp;lia);rw[v]at this;exact A5.irr this)with r|⟨a,b,r,g,w⟩
  .rw[A]at r;rcases aAd.mp r with q|q
   .subst q;rcases E Q h.q with y|y
    .exact absurd y.symm h.ne
    .exact(v9 e y).elim
   .exact q
  .exfalso;have j:=M7 S r;have f:=o.mem _ j.1;have k:=o.mem _ j.2;have N:=h.left a f;have x:i7 n (Q-P) (a-P)≠0:=λz=>by
    rcases((h.btw a f z).1 e).1 with y|y
    .subst y;exact K0 g
    .exact v9 g y
   exact S.row.ad5 f k h.p h.q g w e ((o.ed _ r).2 P h.p).1 (by lia) (h.left b k)
 .right;rcases pJ (Pos:=P1) P (y8 n ts.reverse) (λY _=>S.ae7.tot P Y h.p (by rename_i O;exact i.mem Y O)) (λq s=>L P q s h.p) (λz t=>i.last P h.p z t) J (λu a b=>by have:=aT.add a b;have v:u+-u=0:=ext (by simp;lia) (by simp;lia) (by simp;lia);rw[v]at this;exact aT.irr this)with r|⟨a,b,r,g,w⟩
  .rw[B]at r;rcases aAd.mp r with q|q
   .subst q;rcases C Q h.q with y|y
    .exact absurd y.symm h.ne
    .exact(v9 e y).elim
   .exact q
  .exfalso;have j:=M7 S r;have f:=i.mem _ j.1;have k:=i.mem _ j.2;have N:=h.left a f;have l:=t7.mp g;have x:i7 n (Q-P) (a-P)≠0:=λz=>by
    rcases((h.btw a f z).2 e).1 with y|y
    .subst y;exact K0 l
    .exact v9 l y
   exact S.ae7.ad5 f k h.p h.q g w (t7.mpr e) ((i.ed _ r).2 P h.p).1 (by lia) (h.left b k)
theorem Sheet.aa1:(P,Q)∈z6 (j6 n ts)↔EdgeOf n (λX=>X∈ts) P Q:=by
 refine⟨S.pair,λh=>?_⟩;obtain⟨R,a⟩:=U3 S (S.ab1 h);have:=(S.pair a).next h
 subst this;exact a
end
theorem O7 {Pos:V->Prop}(C:Cone Pos):∀(c:List V),(∀e∈F9 c,Pos (e.2-e.1))->c.Pairwise (λb a=>Pos (b-a))
 |[],_=>aGt
 |[x],_=>aDV _ _
 |b::a::r,h=>by
  have d:=O7 C (a::r) (λe g=>h e (Q0 g));have f:=h (a,b) (by simp[F9]);refine aAy.mpr ⟨λy i=>?_,d⟩;rcases aAd.mp i with e|e
  .subst e;exact f
  .have:=(aAy.mp d).1 y e;have s:=C.add f this;have j:b-a+(a-y)=b-y:=ext (by simp;lia) (by simp;lia) (by simp;lia);dsimp only at s
   rwa [j]at s
theorem lC:∀{h:V} {c:List V} {X:V},X∈c->∃b,(X,b)∈F9 (h::c)
 |h,[],X,d=>by cases d
 |h,a::r,X,d=>by
  rcases aAd.mp d with e|e
  .subst e;exact⟨h,by simp[F9]⟩
  .obtain⟨b,f⟩:=lC (h:=a) e;exact⟨b,Q0 f⟩
section
variable{n:V} {ts:List V} (S:Sheet n ts)
include S
theorem Sheet.aa4 (h:X∈j6 n ts):X∈ts:=by obtain⟨Q,a⟩:=U3 S h;exact(S.pair a).p
theorem Sheet.aa3:(j6 n ts).Nodup:=by
 obtain⟨m,M,c,d,C,E,H,I,J,f,g,L,N,O,Q⟩:=S.ends;obtain⟨i,T,U⟩:=S.ab3;obtain⟨j,Y,t2⟩:=S.ab2;unfold j6;rw[f,g,aAO,aAO,aBq,aBq];have p:=O7 A5 (y8 n ts) λe k=>(i.ed e k).1;have q:=O7 aT (y8 n ts.reverse) λe k=>(j.ed e k).1;rw[f]at p;rw[g]at q;have v:=(aAy.mp p).2;have w:=(aAy.mp q).2;rw[aCX];refine⟨?_,?_,?_⟩
 .rw[aCk,aEg];exact v.imp λ{a b} h e=>by subst e;exact K0 h
 .rw[aCk,aEg];exact w.imp λ{a b} h e=>by subst e;exact K0 (t7.mp h)
 .intro x r y s e;subst e;rw[aCz]at r s;obtain⟨b,l⟩:=lC (h:=M) r;obtain⟨b',o⟩:=lC (h:=m) s;rw[<-f]at l;rw[<-g]at o;have t:=M7 S l;have u:=M7 S o;obtain⟨z,A⟩:=S.ad9 l (i.mem _ t.1) (i.mem _ t.2);obtain⟨B,l2⟩:=S.ae0 o (j.mem _ u.1) (j.mem _ u.2);have:=z.next B;subst this;exact v9 A l2
theorem Sheet.aa7:∃m r,j6 n ts=m::r/\m∈ts/\∀X∈ts,X=m\/f9 (X-m):=by
 obtain⟨m,M,c,d,f,k,l,g,o,h,i,e,p,j,q⟩:=S.ends;have a:∃b,c.reverse=m::b:=by
  have:c.getLast?=some m:=by
   match c,j with
   |x::c,_=>rw[aBm]at e;exact e
  rw[<-aEQ]at this;match s:c.reverse,this with
  |x::r,this=>exact⟨r,by rw[show x=m from Option.some.inj this]⟩
 obtain⟨b,a⟩:=a;refine⟨m,b++d.reverse,?_,f,g⟩;unfold j6;rw[h,i,aAO,aAO,aBq,aBq,a];rfl
theorem qC (h:Q∈l):∃P,(P,Q)∈z6 l:=by
 match l,h with
 |a::r,h=>
  have b:Q∈r++[a]:=by simpa[or_comm]using h
  obtain⟨i,d,e⟩:=aBo b;have f:i<(a::r).length:=by simpa using d
  refine⟨(a::r)[i],?_⟩;show _∈(a::r).zip (r++[a]);refine List.mem_of_getElem (i:=i) (h:=by rw[List.length_zip];simp;omega) ?_;rw[List.getElem_zip,e]
theorem fP (h:(P,Q)∈z6 l):P∈l/\Q∈l:=by
 have b:=aDW h;refine⟨b.1,?_⟩;match l,b.2 with
 |a::r,z=>simpa[or_comm]using z
theorem Sheet.strict (h:EdgeOf n (λX=>X∈ts) P Q)(x:X∈j6 n ts)(s:X≠P)(t:X≠Q):0<i7 n (Q-P) (X-P):=by
 have d:=S.aa4 x;have E:=h.left X d;by_cases z:i7 n (Q-P) (X-P)=0
 .exfalso;have b:=h.btw X d z;obtain⟨Y,B⟩:=U3 S x;have g:=S.pair B;have u:=g.left P h.p;have l2:=g.left Q h.q;rcases L8 Q P with e|e|e
  .exact h.ne e.symm
  .have m:=b.1 e;have f:=m.1.resolve_left s;have i:=m.2.resolve_left t;have C:i7 n (X-P) (Q-X)=0:=by have a:Q-P=(Q-X)+(X-P):=ext (by simp;lia) (by simp;lia) (by simp;lia);rw[a,aU,D7,l5]at z;lia
   have o:0<=i7 n (X-P) (Y-X):=by have a:P-X=-(X-P):=(t5 _ _).symm;rw[a,L5]at u;rw[l5];lia
   rcases L8 Y X with y|y|y
   .exact g.ne y.symm
   .have H:=S.row.weak f y i (S.pl _ d _ h.p) (S.pl _ g.q _ d) (S.pl _ h.q _ d) o l2;by_cases j:0<i7 n (X-P) (Y-X)
    .have:=A5.tr f y i (A3 S.nz (S.pl _ d _ h.p) (S.pl _ g.q _ d)<|S.pl _ h.q _ d) j l2
     lia
    .have l:i7 n (Y-X) (P-X)=0:=by have a:P-X=-(X-P):=(t5 _ _).symm;rw[a,L5,l5];lia
     rcases((g.btw P h.p l).1 y).1 with k|k
     .exact s k.symm
     .exact v9 k f
   .have r:f9 (X-Y):=y;have A:0<=i7 n (X-Y) (X-P):=by have a:Y-X=-(X-Y):=(t5 _ _).symm;rw[a,L5,l5]at o;lia
    have v:0<=i7 n (Q-X) (X-Y):=by have a:Y-X=-(X-Y):=(t5 _ _).symm;rw[a,aS,l5]at l2;lia
    by_cases j:0<i7 n (Q-X) (X-Y)
    .have:=A5.tr i r f (A3 S.nz (S.pl _ h.q _ d) (S.pl _ d _ g.q)<|S.pl _ d _ h.p) j A;rw[l5]at this;lia
    .have l:i7 n (Y-X) (Q-X)=0:=by have a:Y-X=-(X-Y):=(t5 _ _).symm;rw[a,aS,l5];lia
     rcases((g.btw Q h.q l).2 r).1 with k|k
     .exact t k.symm
     .exact v9 k i
  .have m:=b.2 e;have f:=m.1.resolve_left s;have i:=m.2.resolve_left t;have C:i7 n (P-X) (X-Q)=0:=by have a:Q-P=-((P-X)+(X-Q)):=ext (by simp;lia) (by simp;lia) (by simp;lia);have w:X-P=-(P-X):=(t5 _ _).symm;rw[a,w,aS,L5,aU,D7,l5]at z;lia
   rcases L8 Y X with y|y|y
   .exact g.ne y.symm
   .
    have v:0<=i7 n (X-Q) (Y-X):=by have a:Q-X=-(X-Q):=(t5 _ _).symm;rw[a,L5,l5]at l2;lia
    by_cases j:0<i7 n (X-Q) (Y-X)
    .have:=A5.tr i y f (A3 S.nz (S.pl _ d _ h.q) (S.pl _ g.q _ d)<|S.pl _ h.p _ d) j u;rw[l5]at this;lia
    .have l:i7 n (Y-X) (Q-X)=0:=by have a:Q-X=-(X-Q):=(t5 _ _).symm;rw[a,L5,l5];lia
     rcases((g.btw Q h.q l).1 y).1 with k|k
     .exact t k.symm
     .exact v9 k i
   .have r:f9 (X-Y):=y;have A:0<=i7 n (P-X) (X-Y):=by have a:Y-X=-(X-Y):=(t5 _ _).symm;rw[a,aS,l5]at u;lia
    have v:0<=i7 n (X-Y) (X-Q):=by have a:Y-X=-(X-Y):=(t5 _ _).symm;have w:Q-X=-(X-Q):=(t5 _ _).symm;rw[a,w,aS,L5]at l2;lia
    by_cases j:0<i7 n (P-X) (X-Y)
    .have:=A5.tr f r i (A3 S.nz (S.pl _ h.p _ d) (S.pl _ d _ g.q)<|S.pl _ d _ h.q) j v
     lia
    .have l:i7 n (Y-X) (P-X)=0:=by have a:Y-X=-(X-Y):=(t5 _ _).symm;rw[a,aS,l5];lia
     rcases((g.btw P h.p l).2 r).1 with k|k
     .exact s k.symm
     .exact v9 k f
 .lia
end
def jS {a:V}(h:a≠0):a.x≠0\/a.y≠0\/a.z≠0:=by
 by_cases p:a.x=0
 .by_cases q:a.y=0
  .by_cases r:a.z=0
   .exact absurd (ext p q r) h
   .exact .inr (.inr r)
  .exact .inr (.inl q)
 .exact .inl p
def B1 {a w:V}(d:a≠0)(h:cr a w=0):∃k m:Int,0<k/\k*w=m*a:=by
 have f:=ip V.x h;have g:=ip V.y h;have i:=ip V.z h;simp at f g i;have b:∀k m:Int,k≠0->k*w=m*a->∃k m:Int,0<k/\k*w=m*a:=λk m o e=>by
  by_cases p:0<k
  .exact⟨k,m,p,e⟩
  .refine⟨-k,-m,by lia,?_⟩;have j:=ip V.x e;have l:=ip V.y e;have n:=ip V.z e;simp at j l n;apply ext<;>simp<;>grind
 rcases jS d with p|p|p
 .exact b a.x w.x p (by apply ext<;>simp<;>grind)
 .exact b a.y w.y p (by apply ext<;>simp<;>grind)
 .exact b a.z w.z p (by apply ext<;>simp<;>grind)
def ConeM.ad2 {Pos:V->Prop}(C:ConeM a Pos)(d:a≠0)(f:Pos w):cr a w≠0:=λh=>by
 obtain⟨k,m,g,e⟩:=B1 d h;have b:=C.inv (-m) (C.mul g f);rw[e]at b;have i:m*a+-m*a=0:=by apply ext<;>simp<;>grind
 rw[i]at b;exact C.irr b
def G7 (a A:V):List V->V->V->V×V
 |[],d,b=>(d,b)
 |P::e,d,b=>if d=0\/0<dot d (P-A)then G7 a A e (cr a (P-A)) P else G7 a A e d b
def WR (a A:V)(Pos:V->Prop)(seen:V->Prop)(d b:V):Prop:=
 (d=0/\∀P,seen P->cr a (P-A)=0)\/(seen b/\Pos (b-A)/\d=cr a (b-A)/\∀P,seen P->i7 a (b-A) (P-A)<=0)
def kF (h:cr a w=0)(u:V):i7 a u w=0:=by
 have e:i7 a u w=-dot (cr a w) u:=by simp[i7,dot];grind
 rw[e,h];simp[dot]
theorem tJ {Pos:V->Prop}(C:ConeM a Pos)(s:a≠0):∀(j:List V) (seen:V->Prop) (f d:V),WR a A Pos seen f d->(∀P,seen P->Pos (P-A)\/cr a (P-A)=0)->(∀P∈j,Pos (P-A)\/cr a (P-A)=0)->
  WR a A Pos (λP=>seen P\/P∈j) (G7 a A j f d).1 (G7 a A j f d).2
 |[],seen,f,d,h,_,_=>by
  show WR a A Pos _ f d;rcases h with⟨i,g⟩|⟨i,g,k,l⟩
  .exact .inl ⟨i,λP b=>g P (by simpa using b)⟩
  .exact .inr ⟨.inl i,g,k,λP b=>l P (by simpa using b)⟩
 |Q::j,seen,f,d,h,t,u=>by
  have m:=u Q (by simp);have n:WR a A Pos (λP=>seen P\/P=Q) (if f=0\/0<dot f (Q-A)then(cr a<|Q-A)else f) (if f=0\/0<dot f (Q-A)then Q else d):=by
   rcases h with⟨i,g⟩|⟨i,g,k,l⟩
   .rw[hV (.inl i),hV (.inl i)];by_cases z:cr a (Q-A)=0
    .exact .inl ⟨z,λP b=>by
      rcases b with b|b
      .exact g P b
      .subst b;exact z⟩
    .refine .inr ⟨.inr rfl,m.resolve_right z,rfl,λP b=>?_⟩;rcases b with b|b
     .rw[kF (g P b)];exact aBJ _
     .subst b;rw[D7];exact aBJ _
   .have v:f≠0:=by rw[k];exact C.ad2 s g
    have o:dot f (Q-A)=i7 a (d-A) (Q-A):=by rw[k,U5]
    by_cases z:0<dot f (Q-A)
    .rw[hV (.inr z),hV (.inr z)];have w:Pos (Q-A):=by
      rcases m with q|q
      .exact q
      .rw[o,kF q]at z;lia
     refine .inr ⟨.inr rfl,w,rfl,λP b=>?_⟩;rcases b with b|b
     .by_cases x:i7 a (Q-A) (P-A)<=0
      .exact x
      .exfalso;have p:Pos (P-A):=by
        rcases t P b with q|q
        .exact q
        .rw[kF q]at x;lia
       have:=C.tr g w p (by rw[<-o];exact z) (by lia);have:=l P b
       lia
     .subst b;rw[D7];exact aBJ _
    .rw[h9 (by rintro(q|q);exact v q;exact z q),h9 (by rintro(q|q);exact v q;exact z q)];refine .inr ⟨.inl i,g,k,λP b=>?_⟩;rcases b with b|b
     .exact l P b
     .subst b;rw[<-o];lia
  have r:=tJ C s j (λP=>seen P\/P=Q) _ _ n (λP b=>by
   rcases b with b|b
   .exact t P b
   .subst b;exact m) (λP b=>u P (aAe _ b))
  have e:G7 a A (Q::j) f d=G7 a A j (if f=0\/0<dot f (Q-A)then(cr a<|Q-A)else f) (if f=0\/0<dot f (Q-A)then Q else d):=by rw[G7];split<;>rfl
  rw[e];have y:(λP=>(seen P\/P=Q)\/P∈j)=(λP=>seen P\/P∈Q::j):=by funext P;simp[or_assoc]
  rw[<-y];exact r
def QS {Pos:V->Prop}(C:ConeM a Pos)(e:a≠0)(g:∀P∈j,Pos (P-A)\/cr a (P-A)=0)(i:∃P∈j,Pos (P-A)):
  (G7 a A j 0 A).2∈j/\Pos ((G7 a A j 0 A).2-A)/\∀P∈j,i7 a ((G7 a A j 0 A).2-A) (P-A)<=0:=by
 have h:=tJ C e j (λ_=>False) 0 A (.inl ⟨rfl,λ_ h=>h.elim⟩) (λ_ h=>h.elim) g;rcases h with⟨f,b⟩|⟨f,b,m,k⟩
 .obtain⟨P,d,l⟩:=i;exact absurd (b P<|.inr d) (C.ad2 e l)
 .exact⟨by simpa using f,b,λP d=>k P (.inr d)⟩
def x4 (v:V):Nat:=Nat.gcd (Nat.gcd v.x.natAbs v.y.natAbs) v.z.natAbs
def iK (v:V)(g:Int):V:=⟨v.x/g,v.y/g,v.z/g⟩
def T8 (n:V):Prop:=x4 n=1
def kJ (k:Int)(v:V):x4 (k*v)=k.natAbs*x4 v:=by unfold x4;simp[aGc,Nat.gcd_mul_left]
def KB (h:x4 v=0):v=0:=by unfold x4 at h;have a:=Nat.gcd_eq_zero_iff.mp h;have b:=Nat.gcd_eq_zero_iff.mp a.1;exact ext (aES.mp b.1) (aES.mp b.2) (aES.mp a.2)
def OQ (v:V):(x4 v:Int)∣v.x/\(x4 v:Int)∣v.y/\(x4 v:Int)∣v.z:=by
 unfold x4;refine⟨?_,?_,?_⟩
 .exact aET.mpr (Nat.dvd_trans (aFy _ _)<|aFy _ _)
 .exact aET.mpr (Nat.dvd_trans (aFy _ _)<|Nat.gcd_dvd_right _ _)
 .exact aET.mpr (Nat.gcd_dvd_right _ _)
def fS (h:c≠0):0<(x4 c:Int)/\c=(x4 c:Int)*iK c (x4 c)/\T8 (iK c (x4 c)):=by
 have i:x4 c≠0:=λz=>h (KB z);have a:0<(x4 c:Int):=by lia
 obtain⟨b,d,f⟩:=OQ c;have e:c=(x4 c:Int)*iK c (x4 c):=by
  apply ext
  .show _=_*(c.x/_);rw[aEr b]
  .show _=_*(c.y/_);rw[aEr d]
  .show _=_*(c.z/_);rw[aEr f]
 refine⟨a,e,?_⟩;have:=ip x4 e;rw[kJ]at this;simp only[Int.natAbs_natCast]at this;unfold T8;have g:x4 c*1=x4 c*x4 (iK c<|x4 c):=by lia
 exact(Nat.eq_of_mul_eq_mul_left (by lia) g).symm
def T8.ne (h:T8 n):n≠0:=λe=>by subst e;unfold T8 at h;exact absurd h (by decide)
def yD {n m:V}{k l:Int}(g:T8 n)(h:T8 m)(i:0<k)(j:0<l)(e:k*n=l*m):n=m:=by
 have:=ip x4 e;rw[kJ,kJ,g,h]at this;have a:k=l:=by lia
 subst a;have b:=ip V.x e;have d:=ip V.y e;have f:=ip V.z e;simp at b d f;exact ext (aBh (by lia) b) (aBh (by lia) d) (aBh (by lia) f)
def j7 (P Q R:V):V×Int:=let n:=iK (cr (Q-P)<|R-P) (x4<|cr (Q-P)<|R-P);(n,dot n P)
structure IsFace (j:List V)(n:V)(d:Int):Prop where
 prim:T8 n
 sup:∀X∈j,dot n X<=d
 three:∃A∈j,∃B∈j,∃C∈j,dot n A=d/\dot n B=d/\dot n C=d/\cr (B-A) (C-A)≠0
def D4 (a:dot n u=0)(b:dot n v=0):cr n (cr u v)=0:=by simp[dot]at a b;apply ext<;>simp<;>grind
def iH (f:c≠0)(b:cr n c=0)(d:cr m c=0):cr n m=0:=by
 have h:cr c n=0:=by have:=ip V.x b;have:=ip V.y b;have:=ip V.z b;simp at*;apply ext<;>simp<;>grind
 have i:cr c m=0:=by have:=ip V.x d;have:=ip V.y d;have:=ip V.z d;simp at*;apply ext<;>simp<;>grind
 obtain⟨k,p,r,j⟩:=B1 f h;obtain⟨l,q,s,o⟩:=B1 f i;have e:(k*l)*cr n m=0:=by
  have:(k*l)*cr n m=cr (k*n) (l*m):=by apply ext<;>simp<;>grind
  rw[this,j,o];apply ext<;>simp<;>grind
 have a:k*l≠0:=λz=>by rcases aAo.mp z with q|q<;>lia
 have b:=ip V.x e;have d:=ip V.y e;have g:=ip V.z e;simp only[pG,qB,pI,bU,bH,bZ]at b d g;exact ext ((aAo.mp b).resolve_left a) ((aAo.mp d).resolve_left a) ((aAo.mp g).resolve_left a)
def jI {j:List V}{n m:V}{d e:Int}(g:T8 n)(a:T8 m)(H:∀X∈j,dot n X<=d)(h:∀X∈j,dot m X<=e){A B C Z:V}(I:dot n A=d)(J:dot n B=d)(L:dot n C=d)(i:dot m A=e)(o:dot m B=e)(r:dot m C=e)
  (s:cr (B-A) (C-A)≠0) (t:Z∈j) (hz:dot n Z<d):n=m/\d=e:=by
 have u:cr n (cr (B-A)<|C-A)=0:=D4 (by rw[d9];lia) (by rw[d9];lia);have w:cr m (cr (B-A)<|C-A)=0:=D4 (by rw[d9];lia) (by rw[d9];lia);have p:=iH s w u;obtain⟨k,l,b,f⟩:=B1 a.ne p;have x:0<l:=by
  have q:=ip (λv=>dot v (Z-A)) f;rw[O8,O8]at q;have y:dot n (Z-A)<0:=by rw[d9];lia
  have N:dot m (Z-A)<=0:=by rw[d9];have:=h Z t;lia
  have O:k*dot n (Z-A)<0:=aAx b y;by_cases z:0<l
  .exact z
  .exfalso;have:0<=l*dot m (Z-A):=by
    have:=aAS (show 0<=-l by lia) (show 0<=-dot m (Z-A)by lia)
    rwa [aDt]at this
   lia
 have E:=yD g a b x f;subst E;exact⟨rfl,by lia⟩
def b7 (A B:V)(j:List V):V×Int:=j7 A B (G7 (B-A) A j 0 A).2
def n8 (n:V)(d:Int)(j:List V):List V:=j.filter λX=>decide (dot n X=d)
def c6:X∈n8 n d j↔X∈j/\dot n X=d:=by simp[n8]
def qT (h:cr (Q-P) (R-P)≠0):∃g:Int,0<g/\cr (Q-P) (R-P)=g*(j7 P Q R).1/\T8 (j7 P Q R).1/\(j7 P Q R).2=dot (j7 P Q R).1 P:=by obtain⟨a,b,d⟩:=fS h;exact⟨_,a,b,d,rfl⟩
def W9 {Pos:V->Prop}(C:ConeM (B-A) Pos)(d:B-A≠0)(o:∀P∈j,Pos (P-A)\/cr (B-A) (P-A)=0)(p:∃P∈j,Pos (P-A)):
  ∃(a:V) (g:Int),a∈j/\Pos (a-A)/\0<g/\cr (B-A) (a-A)=g*(b7 A B j).1/\T8 (b7 A B j).1/\(b7 A B j).2=dot (b7 A B j).1 A/\
   (∀P∈j,dot (b7 A B j).1 P<=(b7 A B j).2)/\dot (b7 A B j).1 B=(b7 A B j).2/\dot (b7 A B j).1 a=(b7 A B j).2/\
   (∀P∈j,dot (b7 A B j).1 P=(b7 A B j).2->i7 (B-A) (a-A) (P-A)=0):=by
 obtain⟨q,f,r⟩:=QS C d o p;have s:=C.ad2 d f;obtain⟨g,i,k,t,l⟩:=qT s;have b:∀w:V,g*dot (b7 A B j).1 w=i7 (B-A) ((G7 (B-A) A j 0 A).2-A) w:=λw=>by have:dot (cr (B-A)<|(G7 (B-A) A j 0 A).2-A) w=i7 (B-A) ((G7 (B-A) A j 0 A).2-A) w:=U5 _ _ _;rw[<-this,k,O8];rfl
 have v:(b7 A B j).2=dot (b7 A B j).1 A:=l;have m:∀w:V,i7 (B-A) ((G7 (B-A) A j 0 A).2-A) w=0->dot (b7 A B j).1 w=0:=λw u=>by have:=b w;rw[u]at this;exact(aAo.mp this).resolve_left (by lia)
 refine⟨_,g,q,f,i,k,t,l,λP n=>?_,?_,?_,λP n e=>?_⟩
 .have h:=r P n;rw[<-b]at h;have:dot (b7 A B j).1 (P-A)<=0:=by
   by_cases z:dot (b7 A B j).1 (P-A)<=0
   .exact z
   .have:=aAD i (show 0<dot (b7 A B j).1 (P-A)by lia)
    lia
  rw[d9]at this
  lia
 .have:=m (B-A) (by simp[i7,dot];grind);rw[d9]at this;lia
 .have:=m ((G7 (B-A) A j 0 A).2-A) (D7 _ _);rw[d9]at this;lia
 .rw[<-b,d9];have:dot (b7 A B j).1 P-dot (b7 A B j).1 A=0:=by lia
  rw[this];simp
def AX {Pos:V->Prop}(C:ConeM a Pos)(d:a≠0)(e:Pos o)(f:Pos w)(h:i7 a o w=0):0<dot (cr a o) (cr a w):=by
 by_cases z:0<dot (cr a o) (cr a w)
 .exact z
 .exfalso;have g:=C.ad2 d e;have i:=n9 g;have j:Pos (dot (cr a o) (cr a o)*w+(-dot (cr a o) (cr a w))*o):=C.comb i (by lia) f e;refine C.ad2 d j ?_;have b:cr (cr a o) (cr a w)=i7 a o w*a:=by simp[i7,dot];apply ext<;>simp<;>grind
  rw[h,x6]at b;have k:cr a (dot (cr a o) (cr a o)*w+(-dot (cr a o) (cr a w))*o)=dot (cr a o) (cr a o)*cr a w+(-dot (cr a o) (cr a w))*cr a o:=by apply ext<;>simp<;>grind
  rw[k];have l:∀p q:V,dot p p*q+(-dot p q)*p=cr p (cr q p):=λp q=>by simp[dot];apply ext<;>simp<;>grind
  rw[l];have m:cr (cr a w) (cr a o)=0:=by have n:=ip V.x b;have r:=ip V.y b;have s:=ip V.z b;simp only[SW,QY,PR,bU,bH,bZ]at n r s;apply ext<;>simp only[SW,QY,PR,bU,bH,bZ]<;>grind
  rw[m];apply ext<;>simp
def zy.symm (h:zy P Q X):zy Q P X:=⟨λa=>⟨(h.2 a).2,(h.2 a).1⟩,λa=>⟨(h.1 a).2,(h.1 a).1⟩⟩
def tM (i:n≠0)(d:dot n (a-b)=0):ConeM (a-b) (λw=>dot n w<0\/(dot n w=0/\0<i7 n (b-a) w))where
 add:=λ{u v} j l=>by
  rw[A2,aK]
  lia
 mul:=λ{k u} f h=>by
  rw[j1,zS];rcases h with h|⟨h,g⟩
  .exact .inl (aAx f h)
  .exact .inr ⟨by rw[h];simp,aAD f g⟩
 irr:=by rw[D5,fZ];lia
 inv:=λ{u} k h=>by
  have e:i7 n (b-a) (a-b)=0:=by have:a-b=-(b-a):=(t5 _ _).symm;rw[this,L5,D7];rfl
  rw[A2,aK,j1,zS,d,e];simpa using h
def X0 (a:n≠0)(g:dot n u=0)(i:dot n w=0)(h:i7 n u w=0):cr u w=0:=by
 have j:cr n (cr u w)=0:=D4 g i;obtain⟨k,m,p,e⟩:=B1 a j;have q:=ip (dot n) e;rw[j1,j1]at q;have:dot n (cr u w)=0:=h;rw[this]at q;have l:m=0:=by
  have:=n9 a;have o:m*dot n n=0:=by lia
  rcases aAo.mp o with z|z
  .exact z
  .lia
 rw[l,x6]at e;have b:=ip V.x e;have d:=ip V.y e;have f:=ip V.z e;simp only[pG,qB,pI,bU,bH,bZ]at b d f;exact ext ((aAo.mp b).resolve_left (by lia)) ((aAo.mp d).resolve_left (by lia)) ((aAo.mp f).resolve_left (by lia))
def CD (h:cr u w=0):cr (-u) w=0:=by have a:=ip V.x h;have b:=ip V.y h;have d:=ip V.z h;simp only[SW,QY,PR,bU,bH,bZ]at a b d;apply ext<;>simp<;>grind
def uM (E:n≠0)(T:∀X∈j,dot n X<=d)(hz:∃Z∈j,dot n Z<d)(h:EdgeOf n (λX=>X∈n8 n d j) a b):
  IsFace j (b7 b a j).1 (b7 b a j).2/\EdgeOf (b7 b a j).1 (λX=>X∈n8 (b7 b a j).1 (b7 b a j).2 j) b a:=by
 obtain⟨H,da⟩:=c6.mp h.p;obtain⟨pb,db⟩:=c6.mp h.q;have o:dot n (a-b)=0:=by rw[d9];lia
 have t:dot n (b-a)=0:=by rw[d9];lia
 have C:=tM (n:=n) E o;have r:a-b≠0:=λe=>h.ne (by have U:=ip V.x e;have Y:=ip V.y e;have q3:=ip V.z e;simp at U Y q3;exact ext (by lia) (by lia) (by lia))
 have u:∀P∈j,(dot n (P-b)<0\/(dot n (P-b)=0/\0<i7 n (b-a) (P-b)))\/cr (a-b) (P-b)=0:=λP I=>by
  have h1:=T P I;by_cases z:dot n P<d
  .exact .inl (.inl (by rw[d9];lia))
  .have e:dot n P=d:=by lia
   have tP:P∈n8 n d j:=c6.mpr ⟨I,e⟩;have l:=h.left P tP;rw[qG]at l;have J:dot n (P-b)=0:=by rw[d9];lia
   by_cases y:0<i7 n (b-a) (P-b)
   .exact .inl (.inr ⟨J,y⟩)
   .have y0:i7 n (b-a) (P-b)=0:=by lia
    have:=CD (X0 E t J y0);rw[t5]at this;exact .inr this
 obtain⟨Z,hZ,hz⟩:=hz;obtain⟨f,g,o1,v,g0,L,gp,N,w,O,sO,Q⟩:=W9 C r u ⟨Z,hZ,.inl (by rw[d9];lia)⟩;refine⟨⟨gp,w,b,pb,a,H,f,o1,N.symm,O,sO,C.ad2 r v⟩,⟨c6.mpr ⟨pb,N.symm⟩,c6.mpr ⟨H,O⟩,λe=>h.ne e.symm,λX A=>?_,λX A e=>?_⟩⟩
 .obtain⟨i,B⟩:=c6.mp A;have z:=Q X i B;have s:g*i7 (b7 b a j).1 (a-b) (X-b)=dot (cr (a-b)<|f-b) (cr (a-b)<|X-b):=by rw[L];unfold i7;rw[O8]
  have:0<=dot (cr (a-b)<|f-b) (cr (a-b)<|X-b):=by
   rcases u X i with q|q
   .exact aAH (AX C r v q z)
   .rw[q,D5];exact aBJ _
  rw[<-s]at this;by_cases zz:0<=i7 (b7 b a j).1 (a-b) (X-b)
  .exact zz
  .have:=aAx g0 (show i7 (b7 b a j).1 (a-b) (X-b)<0 by lia)
   lia
 .obtain⟨i,B⟩:=c6.mp A;have z:=Q X i B;have s:g*i7 (b7 b a j).1 (a-b) (X-b)=dot (cr (a-b)<|f-b) (cr (a-b)<|X-b):=by rw[L];unfold i7;rw[O8]
  rw[e]at s;rcases u X i with q|q
  .have:=AX C r v q z;rw[<-s]at this;simp at this
  .
   have dX:dot n X=d:=by obtain⟨k,m,hk,e⟩:=B1 r q;have q:=ip (dot n) e;rw[j1,j1,o]at q;have:dot n (X-b)=0:=(aAo.mp (show k*dot n (X-b)=0 by lia)).resolve_left (by lia);rw[d9]at this;lia
   refine(h.btw X (c6.mpr ⟨i,dX⟩) ?_).symm;rw[qG];have:cr (b-a) (X-b)=0:=by
    have:=CD q
    rwa [t5]at this
   unfold i7;rw[this,D5]
def C0:List V->Option V
 |[]=>none
 |w::a=>if w≠0 then some w else C0 a
def v6 (h:C0 ws=some w):w∈ws/\w≠0:=by
 induction ws with
 |nil=>cases h
 |cons v ws a=>
  unfold C0 at h;split at h
  .rename_i b;cases h;exact⟨by simp,b⟩
  .have:=a h;exact⟨aAe _ this.1,this.2⟩
def O9 (h:C0 ws=none):∀w∈ws,w=0:=by
 induction ws with
 |nil=>intro w a;cases a
 |cons v ws b=>
  unfold C0 at h;split at h
  .cases h
  .rename_i d;intro w a;rcases aAd.mp a with e|e
   .subst e;exact Decidable.not_not.mp d
   .exact b h w e
def V3:List V->Nat
 |[]=>0
 |p::d=>
  let a:=(p::d).map (· -p)
  match C0 a with
  |none=>0
  |some b=>match C0 (a.map<|cr b)with
   |none=>1
   |some e=>if a.any (λw=>decide (dot e w≠0))then 3 else 2
def j8 (j:List V):Prop:=∃A∈j,∃B∈j,∃C∈j,∃D∈j,i7 (B-A) (C-A) (D-A)≠0
def KI (h:V3 j=3):j8 j:=by
 match j,h with
 |p::w,h=>
  unfold V3 at h;dsimp only at h;split at h
  .cases h
  .rename_i b f;split at h
   .cases h
   .rename_i g i;split at h
    .rename_i e;obtain⟨k,x⟩:=v6 f;obtain⟨d,y⟩:=v6 i;obtain⟨z,d,l⟩:=aAk.mp d;rw[aEm]at e;obtain⟨m,n,o⟩:=e;obtain⟨B,q,r⟩:=aAk.mp k;obtain⟨C,s,t⟩:=aAk.mp d;obtain⟨D,u,v⟩:=aAk.mp n;refine⟨p,by simp,B,q,C,s,D,u,?_⟩;rw[r,t,v];have a:dot g m≠0:=by simpa using o
     rw[<-l,U5]at a;exact a
    .cases h
def TW (h:V3 j≠3):¬j8 j:=by
 rintro⟨A,k,B,l,C,m,D,o,v⟩;match j,h,k,l,m,o with
 |p::f,h,k,l,m,o=>
  unfold V3 at h;dsimp only at h;have r:∀X∈p::f,X-p∈(p::f).map (· -p):=λX b=>aAk.mpr ⟨X,b,rfl⟩;have d:∀n:V,n≠0->(∀X∈p::f,dot n (X-p)=0)->False:=λn w s=>by
   have q:∀X∈p::f,dot n (X-A)=0:=λX b=>by have g:=s X b;have i:=s A k;rw[d9]at*;lia
   exact v (A3 w (q B l) (q C m)<|q D o)
  split at h
  .rename_i g;have z:=O9 g;refine d ⟨1,0,0⟩ (λe=>by have:=ip V.x e;simp at this) λX b=>?_;rw[z _ (r X b)];exact D5 _
  .rename_i a g;obtain⟨L,y⟩:=v6 g;split at h
   .rename_i i;have z:=O9 i;have E:∀X∈p::f,cr a (X-p)=0:=λX b=>z _ (aAk.mpr ⟨_,r X b,rfl⟩);obtain⟨u,H,N⟩:∃u:V,cr a u≠0/\True:=by
     rcases jS y with q|q|q
     .exact⟨⟨0,1,0⟩,λe=>q (by have:=ip V.z e;simpa using this),trivial⟩
     .exact⟨⟨1,0,0⟩,λe=>q (by have:=ip V.z e;simpa using this),trivial⟩
     .exact⟨⟨0,1,0⟩,λe=>q (by have:=ip V.x e;simpa using this),trivial⟩
    refine d (cr a u) H λX b=>?_;rw[U5,kF (E X b)]
   .rename_i t i;obtain⟨O,I⟩:=v6 i;split at h
    .exact h rfl
    .rename_i J;refine d t I λX b=>?_;by_cases z:dot t (X-p)=0
     .exact z
     .exact absurd (aEm.mpr ⟨X-p,r X b,by simpa using z⟩) J
def OE (h:V3 j<2):∀X∈j,∀Y∈j,∀Z∈j,cr (Y-X) (Z-X)=0:=by
 match j,h with
 |[],_=>intro X b;cases b
 |p::d,h=>
  unfold V3 at h;dsimp only at h;have m:∀X∈p::d,X-p∈(p::d).map (· -p):=λX b=>aAk.mpr ⟨X,b,rfl⟩;intro X b Y n Z q;split at h
  .rename_i i;have z:=O9 i;have e:∀W∈p::d,W=p:=λW l=>by have:=z _ (m W l);have f:=ip V.x this;have g:=ip V.y this;have r:=ip V.z this;simp at f g r;exact ext (by lia) (by lia) (by lia)
   rw[e X b,e Y n,v5];apply ext<;>simp
  .rename_i a i;obtain⟨H,s⟩:=v6 i;split at h
   .rename_i t;have z:=O9 t;have o:∀X∈p::d,cr a (X-p)=0:=λX b=>z _ (aAk.mpr ⟨_,m X b,rfl⟩);have k:∀U∈p::d,∀W∈p::d,cr (U-W) a=0:=λU u W l=>by have f:=o U u;have g:=o W l;have v:=ip V.x f;have w:=ip V.y f;have A:=ip V.z f;have B:=ip V.x g;have C:=ip V.y g;have E:=ip V.z g;simp at v w A B C E;apply ext<;>simp<;>grind
    exact iH s (k Y n X b) (k Z q X b)
   .split at h<;>lia
def LF (h:2<=V3 j):∃X∈j,∃Y∈j,∃Z∈j,cr (Y-X) (Z-X)≠0:=by
 match j,h with
 |[],h=>exact absurd h (by simp[V3])
 |p::o,h=>
  unfold V3 at h;dsimp only at h;split at h
  .lia
  .rename_i a d;obtain⟨e,q⟩:=v6 d;split at h
   .lia
   .rename_i r f;obtain⟨b,g⟩:=v6 f;obtain⟨s,b,i⟩:=aAk.mp b;obtain⟨B,k,l⟩:=aAk.mp e;obtain⟨C,m,n⟩:=aAk.mp b;exact⟨p,by simp,B,k,C,m,by rw[l,n,i];exact g⟩
def j8.off (h:j8 j)(f:n≠0):∃Z∈j,dot n Z≠d:=by
 obtain⟨A,g,B,i,C,k,D,l,m⟩:=h;by_cases a:dot n A=d
 .by_cases b:dot n B=d
  .by_cases c:dot n C=d
   .by_cases e:dot n D=d
    .exact absurd (A3 f (by rw[d9];lia) (by rw[d9];lia) (by rw[d9];lia)) m
    .exact⟨D,l,e⟩
   .exact⟨C,k,c⟩
  .exact⟨B,i,b⟩
 .exact⟨A,g,a⟩
def j8.below (h:j8 j)(b:n≠0)(f:∀X∈j,dot n X<=d):∃Z∈j,dot n Z<d:=by obtain⟨Z,a,e⟩:=h.off (d:=d) b;exact⟨Z,a,by have:=f Z a;lia⟩
def kk:V:=⟨0,0,1⟩
def i6 (m:V)(j:List V):V×V:=
 let u:=b7 m (m+kk) j
 let a:=n8 u.1 u.2 j
 if V3 a=2 then(m,m+kk)else(a.getD 0 0,a.getD 1 0)
def HQ:ConeM kk (λw=>0<w.x\/(w.x=0/\0<w.y))where
 add:=λ{u v} d e=>by simp;lia
 mul:=λ{k u} a h=>by
  simp;rcases h with h|⟨h,b⟩
  .exact .inl (aAD a h)
  .exact .inr ⟨by rw[h];simp,aAD a b⟩
 irr:=by simp
 inv:=λ{u} k h=>by simpa[kk]using h
def EO (h:dot n a=0):ConeM a (λw=>dot n w<0)where
 add:=λ{u v} e f=>by rw[A2];lia
 mul:=λ{k u} b h=>by rw[j1];exact aAx b h
 irr:=by rw[D5];lia
 inv:=λ{u} k d=>by rw[A2,j1,h];simpa using d
def M9 (m k:V):m+k-m=k:=ext (by simp;lia) (by simp;lia) (by simp;lia)
def W5 (T:j8 j)(ho:j.Pairwise (λa b=>f9 (b-a)))(hm:m∈j)(hl:∀X∈j,X=m\/f9 (X-m)):
  IsFace j (b7 (i6 m j).1 (i6 m j).2 j).1 (b7 (i6 m j).1 (i6 m j).2 j).2:=by
 have C:ConeM (m+kk-m) (λw=>0<w.x\/(w.x=0/\0<w.y)):=by rw[M9];exact HQ
 have ag:m+kk-m≠0:=by rw[M9];intro e;have:=ip V.z e;simp[kk]at this
 have U:∀P∈j,(0<(P-m).x\/((P-m).x=0/\0<(P-m).y))\/cr (m+kk-m) (P-m)=0:=λP H=>by
  rw[M9];rcases hl P H with e|e
  .right;subst e;rw[v5];apply ext<;>simp
  .unfold f9 at e;rcases e with e|⟨e1,e|⟨e2,e3⟩⟩
   .exact .inl (.inl e)
   .exact .inl (.inr ⟨e1,e⟩)
   .right;apply ext
    .simp[kk];simp at e2;lia
    .simp[kk];simp at e1;lia
    .simp[kk]
 have hx:∃P∈j,0<(P-m).x\/((P-m).x=0/\0<(P-m).y):=by
  by_cases z:∃P∈j,0<(P-m).x\/((P-m).x=0/\0<(P-m).y)
  .exact z
  .exfalso;obtain⟨Z,f,e⟩:=T.off (n:=⟨1,0,0⟩) (d:=m.x) (λe=>by have:=ip V.x e;simp at this);have w:=(U Z f).resolve_left λq=>z ⟨Z,f,q⟩;rw[M9]at w;have:=ip V.y w;simp[kk]at this;simp[dot]at e
   lia
 obtain⟨l,g,o1,o2,g0,ge,L,gd,h,sB,sO,sP⟩:=W9 C ag U hx;have i:m∈n8 (b7 m (m+kk) j).1 (b7 m (m+kk) j).2 j:=c6.mpr ⟨hm,gd.symm⟩;have o:l∈n8 (b7 m (m+kk) j).1 (b7 m (m+kk) j).2 j:=c6.mpr ⟨o1,sO⟩;have N:m≠l:=λe=>by subst e;rw[v5]at o2;simp at o2
 by_cases h2:V3 (n8 (b7 m (m+kk) j).1 (b7 m (m+kk) j).2 j)=2
 .have e:i6 m j=(m,m+kk):=by unfold i6;simp only[h2,if_true]
  rw[e];obtain⟨X,I,Y,J,Z,f,hc⟩:=LF (j:=n8 (b7 m (m+kk) j).1 (b7 m (m+kk) j).2 j) (by lia);have I:=c6.mp I;have J:=c6.mp J;have f:=c6.mp f;exact⟨L,h,X,I.1,Y,J.1,Z,f.1,I.2,J.2,f.2,hc⟩
 .
  have h1:V3 (n8 (b7 m (m+kk) j).1 (b7 m (m+kk) j).2 j)≠3:=λz=>by obtain⟨A,hA,B,hB,C,hC,D,hD,hd⟩:=KI z;have hA:=c6.mp hA;have hB:=c6.mp hB;have hC:=c6.mp hC;have hD:=c6.mp hD;exact hd (A3 L.ne (by rw[d9];lia) (by rw[d9];lia) (by rw[d9];lia))
  have ah:V3 (n8 (b7 m (m+kk) j).1 (b7 m (m+kk) j).2 j)<2:=by
   have:V3 (n8 (b7 m (m+kk) j).1 (b7 m (m+kk) j).2 j)<=3:=by
    generalize n8 (b7 m (m+kk) j).1 (b7 m (m+kk) j).2 j=t;unfold V3;split
    .lia
    .dsimp only;split
     .lia
     .split
      .lia
      .split<;>lia
   lia
  have p:=OE ah;have e:i6 m j=((n8 (b7 m (m+kk) j).1 (b7 m (m+kk) j).2 j).getD 0 0,(n8 (b7 m (m+kk) j).1 (b7 m (m+kk) j).2 j).getD 1 0):=by unfold i6;simp only[h2,if_false]
  rw[e];have ord:(n8 (b7 m (m+kk) j).1 (b7 m (m+kk) j).2 j).Pairwise (λa b=>f9 (b-a)):=aFU _ ho;have k:∀X,X∈n8 (b7 m (m+kk) j).1 (b7 m (m+kk) j).2 j↔X∈j/\dot (b7 m (m+kk) j).1 X=(b7 m (m+kk) j).2:=λX=>c6;generalize n8 (b7 m (m+kk) j).1 (b7 m (m+kk) j).2 j=t at*
  match t,i,o with
  |[],i,_=>cases i
  |[x],i,o=>simp at i o;exact absurd (i.trans o.symm) N
  |x::y::r,i,o=>
   dsimp only[List.getD_cons_zero,List.getD_cons_succ];have s:f9 (y-x):=(aAy.mp ord).1 y (by simp);have ox:=(k x).mp (by simp);have oy:=(k y).mp (by simp);have u:y-x≠0:=λz=>by rw[z]at s;exact A5.irr s
   have na:dot (b7 m (m+kk) j).1 (y-x)=0:=by rw[d9];lia
   have C2:=EO na;obtain⟨Z,f,hz⟩:=T.below L.ne h;obtain⟨v,g2,p1,p2,p0,pe,pp,pd,E,O,Q,sP2⟩:=W9 C2 u (j:=j) (λP H=>by
    have:=h P H;by_cases q:dot (b7 m (m+kk) j).1 P<(b7 m (m+kk) j).2
    .exact .inl (by rw[d9];lia)
    .exact .inr (p x (by simp) y (by simp) P ((k P).mpr ⟨H,by lia⟩))) ⟨Z,f,by rw[d9];lia⟩
   exact⟨pp,E,x,ox.1,y,oy.1,v,p1,pd.symm,O,Q,C2.ad2 u p2⟩
def V0 {a b:V}(h:a-b=0):a=b:=by have d:=ip V.x h;have e:=ip V.y h;have f:=ip V.z h;simp at d e f;exact ext (by lia) (by lia) (by lia)
def IsFace.aa2 (f:j.Pairwise (λa b=>f9 (b-a)))(h:IsFace j n d):Sheet n (n8 n d j)where
 nz:=h.prim.ne
 pl:=λX g Y i=>by have:=(c6.mp g).2;have:=(c6.mp i).2;rw[d9];lia
 ord:=aFU _ f
 two:=by obtain⟨A,k,B,l,C,m,a,b,c,e⟩:=h.three;refine⟨A,c6.mpr ⟨k,a⟩,B,c6.mpr ⟨l,b⟩,λz=>e ?_⟩;subst z;rw[v5];apply ext<;>simp
def IsFace.ac7 {j:List V}{n:V}{d:Int}(h:IsFace j n d){a b:V}(f:EdgeOf n (λX=>X∈n8 n d j) a b):∃X∈n8 n d j,0<i7 n (b-a) (X-a):=by
 by_cases z:∃X∈n8 n d j,0<i7 n (b-a) (X-a)
 .exact z
 .exfalso;have w:=h.prim.ne;obtain⟨pa,da⟩:=c6.mp f.p;obtain⟨pb,db⟩:=c6.mp f.q;have g:dot n (b-a)=0:=by rw[d9];lia
  have E:b-a≠0:=λe=>f.ne (V0 e).symm;have k:∀X∈j,dot n X=d->cr (b-a) (X-a)=0:=λX i m=>by have s:=c6.mpr ⟨i,m⟩;have l:=f.left X s;have l':¬0<i7 n (b-a) (X-a):=λq=>z ⟨X,s,q⟩;exact X0 w g (by rw[d9];lia) (by lia)
  obtain⟨A,t,B,H,C,I,u,J,L,e⟩:=h.three;have v:∀X∈j,dot n X=d->∀Y∈j,dot n Y=d->cr (X-Y) (b-a)=0:=λX i m Y N O=>by have o:=k X i m;have r:=k Y N O;have Q:=ip V.x o;have T:=ip V.y o;have U:=ip V.z o;have b1:=ip V.x r;have b2:=ip V.y r;have b3:=ip V.z r;simp at Q T U b1 b2 b3;apply ext<;>simp<;>grind
  exact e (iH E (v B H J A t u)<|v C I L A t u)
def TC (o:j8 j)(f:IsFace j n d)(g:IsFace j m e)(i:EdgeOf n (λX=>X∈n8 n d j) a b)(h:EdgeOf m (λX=>X∈n8 m e j) b a)(k:X∈n8 n d j)(l:0<i7 n (b-a) (X-a)):dot m X<e:=by
 obtain⟨r,s⟩:=c6.mp k;have B:=g.sup X r;by_cases z:dot m X=e
 .exfalso;obtain⟨C,t⟩:=c6.mp i.p;obtain⟨pb,u⟩:=c6.mp i.q;obtain⟨_,v⟩:=c6.mp h.q;obtain⟨_,w⟩:=c6.mp h.p;obtain⟨Z,x,y⟩:=o.below f.prim.ne f.sup;have A:cr (b-a) (X-a)≠0:=λq=>by unfold i7 at l;rw[q,D5]at l;lia
  obtain⟨rfl,rfl⟩:=jI f.prim g.prim f.sup g.sup t u s v w z A x y;have:=h.left X k;have E:i7 n (a-b) (X-b)=-i7 n (b-a) (X-a):=by simp[i7,dot];grind
  lia
 .lia
def BV:List V->V
 |[]=>0
 |X::l=>X+BV l
theorem qN (n:V):∀l:List V,dot n (BV l)=(l.map (dot n)).sum
 |[]=>D5 n
 |X::l=>by simp only[BV,aAi,aAJ];rw[A2,qN n l]
theorem FW {α:Type}(f g:α->Int):∀l:List α,(∀x∈l,f x<=g x)->(l.map f).sum<=(l.map g).sum
 |[],_=>aBJ _
 |x::l,h=>by
  simp only[aAi,aAJ];have:=h x (by simp);have:=FW f g l (λy a=>h y (aAe _ a))
  lia
theorem FZ {α:Type}(f g:α->Int):∀l:List α,(∀x∈l,f x<=g x)->(∃x∈l,f x<g x)->(l.map f).sum<(l.map g).sum
 |[],_,⟨x,b,_⟩=>by cases b
 |x::l,h,⟨y,a,d⟩=>by
  simp only[aAi,aAJ];have i:=h x (by simp);have j:=FW f g l (λy a=>h y (aAe _ a));rcases aAd.mp a with e|e
  .subst e;lia
  .have:=FZ f g l (λy a=>h y (aAe _ a)) ⟨y,e,d⟩
   lia
theorem aV {α:Type}(c:Int):∀l:List α,(l.map λ_=>c).sum=(l.length:Int)*c
 |[]=>by simp
 |x::l=>by simp only[aAi,aAJ,aAp];rw[aV c l];push_cast;grind
def D3 (j:List V)(X:V):V:=(j.length:Int)*X-BV j
def T7 (j:List V)(n:V)(d:Int):Int:=(j.length:Int)*d-dot n (BV j)
def yO (j:List V)(n X:V):dot n (D3 j X)=(j.length:Int)*dot n X-dot n (BV j):=by unfold D3;rw[d9,j1]
def fX (a:j8 j)(b:n≠0)(h:∀X∈j,dot n X<=d):0<T7 j n d:=by
 unfold T7;rw[qN,<-aV];have:=FZ (dot n) (λ_=>d) j h (a.below b h)
 lia
def len_pos (a:j8 j):0<(j.length:Int):=by
 obtain⟨A,b,_⟩:=a;have:0<j.length:=aDl b
 lia
def Z2 (h:dot n X=d):dot n (D3 j X)=T7 j n d:=by rw[yO,h];rfl
def qZ (h:dot n X<=d):dot n (D3 j X)<=T7 j n d:=by
 rw[yO];unfold T7;have:=aAA h (show(0:Int)<=j.length by lia)
 lia
def SY (a:0<(j.length:Int))(h:dot n X<d):dot n (D3 j X)<T7 j n d:=by
 rw[yO];unfold T7;have:=aEM h a
 lia
def YF (j:List V)(a b X:V):i7 (D3 j a) (D3 j b) (D3 j X)=(j.length:Int)*(j.length:Int)*dot (D3 j a) (cr (b-a) (X-a)):=by unfold D3;generalize(j.length:Int)=N;generalize BV j=s;simp[i7,dot];grind
def AY (h:cr w c=0)(x y:V):dot w y*dot c x=dot w x*dot c y:=by
 have e:dot w y*dot c x-dot w x*dot c y=dot (cr w c) (cr y x):=by simp[dot];grind
 rw[h]at e;have:dot 0 (cr y x)=0:=by simp[dot]
 lia
def IT (e:j8 j)(f:IsFace j n d)(k:dot n a=d)(r:dot n b=d)(s:dot n X=d)(h:0<i7 n (b-a) (X-a)):0<i7 (D3 j a) (D3 j b) (D3 j X):=by
 rw[YF];have g:=len_pos e;refine aAD (aAD g g) ?_;have i:=f.prim.ne;have p:cr n (cr (b-a)<|X-a)=0:=D4 (by rw[d9];lia) (by rw[d9];lia);have q:=AY p n (D3 j a);have l:0<dot n (D3 j a):=by rw[Z2 k];exact fX e i f.sup
 have m:0<dot (cr (b-a)<|X-a) n:=by rw[cR];exact h
 have t:=aAD l m;have o:=n9 i;rw[cR (D3 j a)];by_cases z:0<dot (cr (b-a)<|X-a) (D3 j a)
 .exact z
 .exfalso;have:dot n n*dot (cr (b-a)<|X-a) (D3 j a)<=0:=by have:=aAA (show dot (cr (b-a)<|X-a) (D3 j a)<=0 by lia) (aAH o);simpa using this
  lia
def WO (f:j8 j)(g:IsFace j n d)(k:IsFace j m e)(h:EdgeOf n (λX=>X∈n8 n d j) a b)(l:EdgeOf m (λX=>X∈n8 m e j) b a)(Q:dot m B*T7 j n d<=dot n B*T7 j m e):0<=i7 (D3 j a) (D3 j b) B:=by
 obtain⟨X,o,t⟩:=g.ac7 h;have x:=TC f g k h l o t;obtain⟨T,u⟩:=c6.mp o;obtain⟨U,v⟩:=c6.mp h.p;obtain⟨pb,w⟩:=c6.mp h.q;obtain⟨_,A⟩:=c6.mp l.q;obtain⟨_,C⟩:=c6.mp l.p;have c0:=fX f g.prim.ne g.sup;have Y:=fX f k.prim.ne k.sup;have E:=IT f g v w u t;by_cases z:0<=i7 (D3 j a) (D3 j b) B
 .exact z
 .exfalso;have i:∀y,dot (T7 j n d*m-T7 j m e*n) y=T7 j n d*dot m y-T7 j m e*dot n y:=λy=>by rw[cR,d9,j1,j1,cR y m,cR y n]
  have H:dot (T7 j n d*m-T7 j m e*n) (D3 j a)=0:=by rw[i,Z2 v,Z2 A];grind
  have I:dot (T7 j n d*m-T7 j m e*n) (D3 j b)=0:=by rw[i,Z2 w,Z2 C];grind
  have J:dot (T7 j n d*m-T7 j m e*n) (D3 j X)<0:=by
   rw[i,Z2 u];have L:=SY (len_pos f) x;have:=aEM L c0;have e1:T7 j m e*T7 j n d=T7 j n d*T7 j m e:=aEU _ _
   lia
  have p:=AY (D4 H I) (D3 j X) B;have N:dot (cr (D3 j a)<|D3 j b) (D3 j X)=i7 (D3 j a) (D3 j b) (D3 j X):=U5 _ _ _;have O:dot (cr (D3 j a)<|D3 j b) B=i7 (D3 j a) (D3 j b) B:=U5 _ _ _;rw[N,O]at p;have r:0<dot (T7 j n d*m-T7 j m e*n) (D3 j X)*i7 (D3 j a) (D3 j b) B:=aBE J (by lia);rw[<-p]at r;have s:0<dot (T7 j n d*m-T7 j m e*n) B:=by
   by_cases q:0<dot (T7 j n d*m-T7 j m e*n) B
   .exact q
   .have:=aAR (show dot (T7 j n d*m-T7 j m e*n) B<=0 by lia) (aAH E);simp at this;lia
  rw[i]at s;have e4:dot m B*T7 j n d=T7 j n d*dot m B:=aEU _ _;have e5:dot n B*T7 j m e=T7 j m e*dot n B:=aEU _ _
  lia
def EI {a b c d e f:Int}(g:0<b)(h:0<d)(i:0<f)(j:a*d<=c*b)(k:c*f<=e*d):a*f<=e*b:=by
 have m:=aAR j (aAH i);have n:=aAR k (aAH g);have l:(a*f)*d<=(e*b)*d:=by grind
 exact aEN l h
theorem IS {α:Type}(p q:α->Int):∀(l:List α),l≠[]->(∀x∈l,0<q x)->∃x∈l,∀y∈l,p y*q x<=p x*q y
 |[],h,_=>absurd rfl h
 |[x],_,_=>⟨x,by simp,λy d=>by simp at d;subst d;exact aBJ _⟩
 |x::y::l,_,b=>by
  obtain⟨z,f,h⟩:=IS p q (y::l) (by simp) (λw a=>b w (aAe _ a));by_cases c:p x*q z<=p z*q x
  .refine⟨z,aAe _ f,λw a=>?_⟩;rcases aAd.mp a with e|e
   .subst e;exact c
   .exact h w e
  .refine⟨x,by simp,λw a=>?_⟩;rcases aAd.mp a with e|e
   .subst e;exact aBJ _
   .exact EI (b w a) (b z<|aAe _ f) (b x (by simp)) (h w e) (by lia)
theorem a0x (h:V->Int):∀(x:V) (l:List V),0<=h x->(∀z,(x::l).getLast?=some z->h z<=0)->l≠[]->∃u v,(u,v)∈j4 (x::l)/\0<=h u/\h v<=0
 |x,[],_,_,b=>absurd rfl b
 |x,y::r,d,a,_=>by
  by_cases c:h y<=0
  .exact⟨x,y,by simp[j4],d,c⟩
  .match r,a with
   |[],a=>exact absurd (a y rfl) c
   |z::r,a=>obtain⟨u,v,m,p⟩:=a0x h y (z::r) (by lia) (λw e=>a w (by rw[aBm];exact e)) (by simp);exact⟨u,v,by simp only[j4]at m⊢;exact aAe _ m,p⟩
theorem mW:∀(l:List V) (x z w:V),(x::l).getLast?=some z->(z,w)∈j4 (x::l++[w])
 |[],x,z,w,h=>by simp at h;subst h;simp[j4]
 |y::l,x,z,w,h=>by rw[aBm]at h;have:=mW l y z w h;simp only[aAG,j4]at this⊢;exact aAe _ this
theorem bG:∀(l:List V) (x w:V),∀e∈j4 (x::l),e∈j4 (x::l++[w])
 |[],x,w,e,h=>by simp[j4]at h
 |y::l,x,w,e,h=>by
  simp only[aAG,j4]at h⊢;rcases aAd.mp h with q|q
  .subst q;simp
  .exact aAe _ (bG l y w e q)
def C7 (g:j.Pairwise (λa b=>f9 (b-a)))(f:IsFace j n d):∃r s t l,j6 n (n8 n d j)=r::s::t::l:=by
 have S:=f.aa2 g;obtain⟨r,l,e,_⟩:=S.aa7;match l,e with
 |[],e=>
  have h:(r,r)∈z6 (j6 n<|n8 n d j):=by rw[e];simp[z6]
  exact absurd rfl (S.pair h).ne
 |[s],e=>
  have i:(r,s)∈z6 (j6 n<|n8 n d j):=by rw[e];simp[z6]
  have k:(s,r)∈z6 (j6 n<|n8 n d j):=by rw[e];simp[z6]
  have m:=S.pair i;have o:=S.pair k;obtain⟨X,p,q⟩:=f.ac7 m;have:=o.left X p;have u:i7 n (r-s) (X-s)=-i7 n (s-r) (X-r):=by simp[i7,dot];grind
  lia
 |s::t::l,e=>exact⟨r,s,t,l,e⟩
def uO (N:j8 j)(ho:j.Pairwise (λa b=>f9 (b-a)))(fs:List (V×Int))(ag:fs≠[])(hf:∀f∈fs,IsFace j f.1 f.2)(hc:∀f∈fs,∀a b,EdgeOf f.1 (λX=>X∈n8 f.1 f.2 j) a b->∃g∈fs,EdgeOf g.1 (λX=>X∈n8 g.1 g.2 j) b a)(E:IsFace j n d):(n,d)∈fs:=by
 obtain⟨B,hBd⟩:∃B,B=BV ((n8 n d j).map (D3 j)):=⟨_,rfl⟩;have dB:∀m,dot m B=((n8 n d j).map λX=>dot m (D3 j X)).sum:=λm=>by rw[hBd,qN,aAV];rfl
 have cn:=fX N E.prim.ne E.sup;have ub:∀m e,(∀X∈j,dot m X<=e)->dot m B<=((n8 n d j).length:Int)*T7 j m e:=λm e hm=>by rw[dB,<-aV];exact FW _ _ _ λX i=>qZ (hm X (c6.mp i).1)
 have eB:dot n B=((n8 n d j).length:Int)*T7 j n d:=by rw[dB,<-aV];congr 1;exact aBw λX i=>Z2 (c6.mp i).2
 obtain⟨⟨m,e⟩,hm,htop⟩:=IS (λf:V×Int=>dot f.1 B) (λf=>T7 j f.1 f.2) fs ag λf h=>fX N (hf f h).prim.ne (hf f h).sup;have k:=hf _ hm;have O:∀a b,EdgeOf m (λX=>X∈n8 m e j) a b->0<=i7 (D3 j a) (D3 j b) B:=λa b hab=>by obtain⟨g,hg,hg2⟩:=hc _ hm a b hab;exact WO N k (hf g hg) hab hg2 (htop g hg)
 have S:=k.aa2 ho;obtain⟨r,s,t,l,er⟩:=C7 ho k;have nd:=S.aa3;have pr:=λ{P Q}=>S.aa1 (P:=P) (Q:=Q);rw[er]at pr nd;have rm:r∈j6 m (n8 m e j):=by rw[er];simp
 have on:∀X∈r::s::t::l,dot m X=e:=λX i=>by rw[<-er]at i;exact(c6.mp<|S.aa4 i).2
 obtain⟨z,hz⟩:∃z,(s::t::l).getLast?=some z:=by simp[aER]
 have c1:(r,s)∈z6 (r::s::t::l):=by rw[Q6];simp[j4]
 have c2:(z,r)∈z6 (r::s::t::l):=by rw[Q6];exact mW _ _ _ _ (by rw[aBm];exact hz)
 have w1:=O _ _ (pr.mp c1);have w2:=O _ _ (pr.mp c2);obtain⟨u,v,T,hu,hv⟩:=a0x (λX=>i7 (D3 j r) (D3 j X) B) s (t::l) w1 (λy hy=>by
  have:y=z:=Option.some.inj (hy.symm.trans hz);subst this;have e1:i7 (D3 j r) (D3 j y) B=-i7 (D3 j y) (D3 j r) B:=by simp[i7,dot];grind
  lia) (by simp)
 have c3:(u,v)∈z6 (r::s::t::l):=by rw[Q6];have:=bG (t::l) s r _ T;simp only[aAG,j4]at this⊢;exact aAe _ this
 have g3:=pr.mp c3;have U:u∈s::t::l/\v∈s::t::l:=by
  have:=T;have hh:∀(l:List V) (p q:V),(p,q)∈j4 l->p∈l/\q∈l:=λl=>by
   induction l with
   |nil=>intro p q h;simp[j4]at h
   |cons x l ih=>
    intro p q h;match l,h,ih with
    |[],h,_=>simp[j4]at h
    |y::l,h,ih=>
     simp only[j4]at h;rcases aAd.mp h with c|c
     .cases c;simp
     .have:=ih p q c;exact⟨aAe _ this.1,aAe _ this.2⟩
  exact hh _ _ _ T
 have nr:=(aAF.mp nd).1;have ru:r≠u:=λq=>by subst q;exact nr U.1
 have rv:r≠v:=λq=>by subst q;exact nr U.2
 have st:=S.strict g3 rm ru rv;have du:=on u (aAe _ U.1);have dv:=on v (aAe _ U.2);have dr:=on r (by simp);have D0:=IT N k du dv dr st;have w3:=O _ _ g3;have o:=DR B (D3 j r) (D3 j u) (D3 j v);have a1:i7 B (D3 j u) (D3 j v)=i7 (D3 j u) (D3 j v) B:=by simp[i7,dot];grind
 have a2:i7 B (D3 j v) (D3 j r)=-i7 (D3 j r) (D3 j v) B:=by simp[i7,dot];grind
 have a3:i7 B (D3 j r) (D3 j u)=i7 (D3 j r) (D3 j u) B:=by simp[i7,dot];grind
 have a4:i7 (D3 j r) (D3 j u) (D3 j v)=i7 (D3 j u) (D3 j v) (D3 j r):=by simp[i7,dot];grind
 rw[a1,a2,a3,a4]at o;obtain⟨H,hal⟩:∃H,H=i7 (D3 j u) (D3 j v) B:=⟨_,rfl⟩;obtain⟨I,yg⟩:∃I,I=-i7 (D3 j r) (D3 j v) B:=⟨_,rfl⟩;obtain⟨J,hga⟩:∃J,J=i7 (D3 j r) (D3 j u) B:=⟨_,rfl⟩;obtain⟨w,hDe⟩:∃w,w=i7 (D3 j u) (D3 j v) (D3 j r):=⟨_,rfl⟩;rw[<-hal,<-yg,<-hga,<-hDe]at o;have al0:0<=H:=by lia
 have be0:0<=I:=by lia
 have ga0:0<=J:=by lia
 have De0:0<w:=by lia
 have cd:∀f:V,w*dot f B=J*dot f (D3 j v)+H*dot f (D3 j r)+I*dot f (D3 j u):=λf=>by
  have:=ip (dot f) o;rw[A2,A2,j1,j1,j1,j1]at this
  lia
 have q1:=cd m;rw[Z2 dr,Z2 du,Z2 dv]at q1;have q2:=cd n;have cm:=fX N k.prim.ne k.sup;have pt:∀X∈r::s::t::l,X∈j:=λX i=>by rw[<-er]at i;exact(c6.mp<|S.aa4 i).1
 have r1:=qZ (j:=j) (E.sup r (pt r (by simp)));have r2:=qZ (j:=j) (E.sup u<|pt u<|aAe _ U.1);have r3:=qZ (j:=j) (E.sup v<|pt v<|aAe _ U.2);have s1:=aAA r1 al0;have s2:=aAA r2 be0;have s3:=aAA r3 ga0;obtain⟨L,hL⟩:∃L:Int,L=((n8 n d j).length:Int):=⟨_,rfl⟩;have ub1:=ub m e k.sup;rw[<-hL]at eB ub1;have k1:w*L<=H+I+J:=by
  have:(w*L)*T7 j n d<=(H+I+J)*T7 j n d:=by
   rw[eB]at q2;have e1:w*L*T7 j n d=w*(L*T7 j n d):=aGm _ _ _;have e2:(H+I+J)*T7 j n d=H*T7 j n d+I*T7 j n d+J*T7 j n d:=by grind
   lia
  exact aEN this cn
 have k2:w*dot m B=(H+I+J)*T7 j m e:=by rw[q1];grind
 have k3:(w*L)*T7 j m e<=w*dot m B:=by rw[k2];exact aAR k1 (aAH cm)
 have k4:L*T7 j m e<=dot m B:=by rw[aGm]at k3;exact aDI k3 De0
 have all:∀X∈n8 n d j,dot m X=e:=λX i=>by
  have le:dot m X<=e:=k.sup X (c6.mp i).1;by_cases z:dot m X=e
  .exact z
  .exfalso;have:=FZ (λX=>dot m (D3 j X)) (λ_=>T7 j m e) (n8 n d j) (λY hY=>qZ (k.sup Y (c6.mp hY).1)) ⟨X,i,SY (len_pos N) (by lia)⟩;rw[<-dB,aV,<-hL]at this
   lia
 obtain⟨A,hA,B',hB',C,hC,ea,eb,ec,hcr⟩:=E.three;obtain⟨Z,hZ,hz⟩:=N.below E.prim.ne E.sup;obtain⟨rfl,rfl⟩:=jI E.prim k.prim E.sup k.sup ea eb ec (all A<|c6.mpr ⟨hA,ea⟩) (all B'<|c6.mpr ⟨hB',eb⟩) (all C<|c6.mpr ⟨hC,ec⟩) hcr hZ hz;exact hm
def c7 (j:List V)(f:V×Int):List V:=j6 f.1 (n8 f.1 f.2 j)
structure LInv (j:List V)(p0:V×V)(fs:List (V×Int))(walked:V×V->Prop)(waiting:List (V×V)):Prop where
 face:∀f∈fs,IsFace j f.1 f.2
 nd:fs.Nodup
 wk:∀e,walked e↔∃f∈fs,e∈z6 (c7 j f)
 cl:∀f∈fs,∀a b,(a,b)∈z6 (c7 j f)->(∃g∈fs,(b,a)∈z6 (c7 j g))\/(b,a)∈waiting
 wt:∀p∈waiting,(∃f∈fs,(p.2,p.1)∈z6 (c7 j f))\/(fs=[]/\p=p0)
 ne:fs=[]->waiting=[p0]
structure Good (j:List V)(m:V):Prop where
 solid:j8 j
 ord:j.Pairwise (λa b=>f9 (b-a))
 mem:m∈j
 least:∀X∈j,X=m\/f9 (X-m)
section
variable{j:List V} {m:V} (G:Good j m) {fs:List (V×Int)} {walked:V×V->Prop} {waiting rest:List (V×V)} {p:V×V}
include G
theorem DX:LInv j (i6 m j) [] (λ_=>False) [i6 m j]where
 face:=λf h=>by cases h
 nd:=aDk
 wk:=λe=>⟨λh=>h.elim,λ⟨f,h,_⟩=>by cases h⟩
 cl:=λf h=>by cases h
 wt:=λq h=>.inr ⟨rfl,by simpa using h⟩
 ne:=λ_=>rfl
theorem PN (h:LInv j (i6 m j) fs walked waiting)(k:waiting=rest++[p])(l:walked p):LInv j (i6 m j) fs walked rest:=by
 have i:∀q,q∈waiting↔q=p\/q∈rest:=λq=>by rw[k];simp[or_comm]
 obtain⟨n,d,o⟩:=(h.wk p).mp l;have r:fs≠[]:=λe=>by subst e;cases d
 refine⟨h.face,h.nd,h.wk,λf s a b g=>?_,λq t=>h.wt q ((i q).mpr (.inr t)),λe=>absurd e r⟩;rcases h.cl f s a b g with q|q
 .exact .inl q
 .rcases(i (b,a)).mp q with z|z
  .subst z;exact .inl ⟨n,d,o⟩
  .exact .inr z
theorem zT (h:LInv j (i6 m j) fs walked waiting)(e:p∈waiting)(g:¬walked p):IsFace j (b7 p.1 p.2 j).1 (b7 p.1 p.2 j).2/\b7 p.1 p.2 j∉fs/\(fs≠[]->p∈z6 (c7 j (b7 p.1 p.2 j))):=by
 rcases h.wt p e with⟨f,i,k⟩|⟨l,n⟩
 .have a:=h.face f i;have S:=a.aa2 G.ord;have o:=S.aa1.mp k;obtain⟨b,q⟩:=uM a.prim.ne a.sup (G.solid.below a.prim.ne a.sup) o;have r:=b.aa2 G.ord;have d:p∈z6 (c7 j<|b7 p.1 p.2 j):=r.aa1.mpr q;exact⟨b,λz=>g ((h.wk p).mpr ⟨_,z,d⟩),λ_=>d⟩
 .subst l n;exact⟨W5 G.solid G.ord G.mem G.least,by simp,λz=>absurd rfl z⟩
theorem QB (h:LInv j (i6 m j) fs walked waiting)(o:waiting=rest++[p])(s:¬walked p){walked':V×V->Prop}(t:∀e,walked' e↔walked e\/e∈z6 (c7 j (b7 p.1 p.2 j)))(l:∀q,q∈waiting'↔q∈rest\/(q.2,q.1)∈z6 (c7 j (b7 p.1 p.2 j))):
  LInv j (i6 m j) (fs++[b7 p.1 p.2 j]) walked' waiting':=by
 have n:∀q,q∈waiting↔q=p\/q∈rest:=λq=>by rw[o];simp[or_comm]
 obtain⟨u,v,w⟩:=zT G h ((n p).mpr (.inl rfl)) s;refine⟨λf d=>?_,?_,λe=>?_,λf d a b k=>?_,λq x=>?_,λe=>by simp at e⟩
 .rcases aAP.mp d with z|z
  .exact h.face f z
  .have:f=b7 p.1 p.2 j:=by simpa using z
   subst this;exact u
 .rw[aCX];exact⟨h.nd,by simp,λa A b B=>λe=>by
   have:b=b7 p.1 p.2 j:=by simpa using B
   subst e this;exact v A⟩
 .rw[t,h.wk];constructor
  .rintro(⟨f,d,i⟩|i)
   .exact⟨f,aBr _ d,i⟩
   .exact⟨_,aAL _ (by simp),i⟩
  .rintro⟨f,d,i⟩;rcases aAP.mp d with z|z
   .exact .inl ⟨f,z,i⟩
   .have:f=b7 p.1 p.2 j:=by simpa using z
    subst this;exact .inr i
 .rcases aAP.mp d with z|z
  .rcases h.cl f z a b k with⟨g,C,e⟩|q
   .exact .inl ⟨g,aBr _ C,e⟩
   .rcases(n (b,a)).mp q with y|y
    .have E:fs≠[]:=λe=>by subst e;cases z
     exact .inl ⟨b7 p.1 p.2 j,aAL _ (by simp),by rw[y];exact w E⟩
    .exact .inr ((l _).mpr (.inl y))
  .have:f=b7 p.1 p.2 j:=by simpa using z
   subst this;exact .inr ((l _).mpr (.inr k))
 .rcases(l q).mp x with z|z
  .rcases h.wt q ((n q).mpr (.inr z))with⟨f,d,e⟩|⟨H,I⟩
   .exact .inl ⟨f,aBr _ d,e⟩
   .have:=h.ne H;exfalso;rw[o]at this;have r:=ip aGg this;simp at r;subst r;cases z
  .exact .inl ⟨_,aAL _ (by simp),z⟩
theorem MZ (h:LInv j (i6 m j) fs walked []):fs≠[]/\∀n d,(n,d)∈fs↔IsFace j n d:=by
 have l:fs≠[]:=λe=>by have:=h.ne e;cases this
 refine⟨l,λn d=>⟨λi=>h.face _ i,λi=>?_⟩⟩;refine uO G.solid G.ord fs l h.face (λf i a b k=>?_) i;have S:=(h.face f i).aa2 G.ord;rcases h.cl f i a b (S.aa1.mpr k)with⟨g,o,e⟩|q
 .exact⟨g,o,((h.face g o).aa2 G.ord).aa1.mp e⟩
 .cases q
end
def lB (h:IsFace j n d):∃A∈j,∃B∈j,∃C∈j,cr (B-A) (C-A)≠0/\j7 A B C=(n,d):=by
 obtain⟨A,s,B,f,C,i,a,b,c,e⟩:=h.three;have m:∀B∈j,∀C∈j,dot n B=d->dot n C=d->cr (B-A) (C-A)≠0->0<dot n (cr (B-A)<|C-A)->j7 A B C=(n,d):=λB f C i b c e o=>by
  obtain⟨g,E,H,I,J⟩:=qT e;have p:cr n (cr (B-A)<|C-A)=0:=D4 (by rw[d9];lia) (by rw[d9];lia);obtain⟨k,l,t,r⟩:=B1 h.prim.ne p;have L:0<l:=by
   have q:=ip (dot n) r;rw[j1,j1]at q;have:=aAD t o;have N:=n9 h.prim.ne;by_cases z:0<l
   .exact z
   .have:=aAR (show l<=0 by lia) (aAH N);simp at this;lia
  rw[H]at r;have O:(k*g)*(j7 A B C).1=l*n:=by rw[<-r];apply ext<;>simp<;>grind
  have u:=yD I h.prim (aAD t E) L O;refine aDB u ?_;rw[J,u];exact a
 by_cases z:0<dot n (cr (B-A)<|C-A)
 .exact⟨A,s,B,f,C,i,e,m B f C i b c e z⟩
 .have v:cr (C-A) (B-A)=-cr (B-A) (C-A):=by apply ext<;>simp<;>grind
  have w:cr (C-A) (B-A)≠0:=λq=>e (by rw[v]at q;have Q:=ip V.x q;have T:=ip V.y q;have U:=ip V.z q;simp only[a2d,a0z,a1o,bU,bH,bZ]at Q T U;exact ext (by simp only[bU];lia) (by simp only[bH];lia) (by simp only[bZ];lia))
  have Y:dot n (cr (B-A)<|C-A)≠0:=λq=>e (X0 h.prim.ne (by rw[d9];lia) (by rw[d9];lia) q);refine⟨A,s,C,i,B,f,w,m C i B f c b w ?_⟩;have:dot n (cr (C-A)<|B-A)=-dot n (cr (B-A)<|C-A):=by rw[v];simp[dot];grind
  lia
def cands (j:List V):List (V×Int):=j.flatMap λA=>j.flatMap λB=>j.map λC=>j7 A B C
def JV (j:List V):(cands j).length=j.length*(j.length*j.length):=by
 unfold cands;have h:∀(l:List V) (f:V->List (V×Int)) (k:Nat),(∀x,(f x).length=k)->(l.flatMap f).length=l.length*k:=λl f k a=>by
  induction l with
  |nil=>simp
  |cons x l b=>rw[aFg,aAB,b,a,aAp,Nat.succ_mul,Nat.add_comm]
 rw[h j _ (j.length*j.length) λA=>h j _ j.length λB=>by simp]
theorem u6 {α:Type}[DecidableEq α]:∀{l m:List α},l.Nodup->(∀x∈l,x∈m)->l.length<=m.length
 |[],_,_,_=>aAX _
 |x::l,m,h,a=>by
  have b:=a x (by simp);have d:=aAF.mp h;have:=u6 (l:=l) (m:=m.erase x) d.2 (λy f=>by
   have ne:y≠x:=λe=>by subst e;exact d.1 f
   exact(aFV ne).mpr (a y<|aAe _ f))
  rw[aFh b]at this;have:0<m.length:=aDl b;simp only[aAp]
  lia
def JR {j:List V}{fs:List (V×Int)}(a:fs.Nodup)(b:∀f∈fs,IsFace j f.1 f.2):fs.length<=j.length*(j.length*j.length):=by rw[<-JV];refine u6 a λf h=>?_;obtain⟨A,d,B,g,C,i,_,e⟩:=lB (b f h);unfold cands;rw[aBl];refine⟨A,d,?_⟩;rw[aBl];exact⟨B,g,aAk.mpr ⟨C,i,e⟩⟩
section
variable{j:List V} (hs:j8 j) (ho:j.Pairwise (λa b=>f9 (b-a)))
include hs ho
theorem aG (e:IsFace j n d)(h:EdgeOf n (λX=>X∈n8 n d j) a b):
 IsFace j (b7 b a j).1 (b7 b a j).2/\EdgeOf (b7 b a j).1 (λX=>X∈n8 (b7 b a j).1 (b7 b a j).2 j) b a:=uM e.prim.ne e.sup (hs.below e.prim.ne e.sup) h
theorem cH (e:IsFace j n d)(f:EdgeOf n (λX=>X∈n8 n d j) a b)(g:EdgeOf n (λX=>X∈n8 n d j) b a):False:=by
 obtain⟨X,h,i⟩:=e.ac7 f;have:=g.left X h;have k:i7 n (a-b) (X-b)=-i7 n (b-a) (X-a):=by simp[i7,dot];grind
 lia
theorem K5 (a:IsFace j n d)(o:X∈c7 j (n,d)):∃g h:V×Int,IsFace j g.1 g.2/\IsFace j h.1 h.2/\(n,d)≠g/\(n,d)≠h/\g≠h/\dot n X=d/\dot g.1 X=g.2/\dot h.1 X=h.2:=by
 have S:=a.aa2 ho;obtain⟨Y,t⟩:=U3 S o;obtain⟨W,r⟩:=qC S o;have b:=S.aa1.mp t;have i:=S.aa1.mp r;obtain⟨l,f⟩:=aG hs ho a b;obtain⟨u,k⟩:=aG hs ho a i;have m:W≠Y:=λe=>by subst e;exact cH hs ho a b i
 refine⟨_,_,l,u,λe=>?_,λe=>?_,λe=>?_,(c6.mp b.p).2,(c6.mp f.q).2,(c6.mp k.p).2⟩
 .rw[<-e]at f;exact cH hs ho a b f
 .rw[<-e]at k;exact cH hs ho a i k
 .
  have st:=S.strict b (fP S r).1 (i.ne) m;have v:=(c6.mp i.p).2;have w:=(c6.mp b.p).2;have x:=(c6.mp b.q).2;have y:=(c6.mp f.p).2;have z:=(c6.mp f.q).2;have s:=(c6.mp k.q).2;rw[<-e]at s;have A:cr (Y-X) (W-X)≠0:=λq=>by unfold i7 at st;rw[q,D5]at st;lia
  obtain⟨Z,B,C⟩:=hs.below a.prim.ne a.sup;obtain⟨E,H⟩:=jI a.prim l.prim a.sup l.sup w x v z y s A B C;have:(n,d)=b7 Y X j:=aDB E H;rw[<-this]at f;exact cH hs ho a b f
theorem KP (s:IsFace j n d)(g:IsFace j m e)(h:EdgeOf n (λX=>X∈n8 n d j) a b)(ga:dot m a=e)(gb:dot m b=e):(m,e)=(n,d)\/(m,e)=b7 b a j:=by
 obtain⟨pa,da⟩:=c6.mp h.p;obtain⟨pb,db⟩:=c6.mp h.q;obtain⟨I,J⟩:=aG hs ho s h;have hab:dot n (a-b)=0:=by rw[d9];lia
 have C:=tM (n:=n) s.prim.ne hab;have ag:a-b≠0:=λq=>h.ne (V0 q);obtain⟨P,pP,eP,hP⟩:∃P∈j,dot m P=e/\cr (a-b) (P-b)≠0:=by
  by_cases z:∃P∈j,dot m P=e/\cr (a-b) (P-b)≠0
  .exact z
  .exfalso;obtain⟨A,hA,B,hB,D,hD,eA,eB,eD,hc⟩:=g.three;have k:∀X∈j,dot m X=e->cr (a-b) (X-b)=0:=λX hX dX=>by
    by_cases q:cr (a-b) (X-b)=0
    .exact q
    .exact absurd ⟨X,hX,dX,q⟩ z
   have k2:∀X∈j,dot m X=e->∀Y∈j,dot m Y=e->cr (X-Y) (a-b)=0:=λX hX dX Y hY dY=>by have t:=k X hX dX;have f:=k Y hY dY;have a1:=ip V.x t;have a2:=ip V.y t;have a3:=ip V.z t;have J:=ip V.x f;have b2:=ip V.y f;have b3:=ip V.z f;simp at a1 a2 a3 J b2 b3;apply ext<;>simp<;>grind
   exact hc (iH ag (k2 B hB eB A hA eA)<|k2 D hD eD A hA eA)
 have mab:dot m (a-b)=0:=by rw[d9];lia
 have mP:dot m (P-b)=0:=by rw[d9];lia
 have par:cr m (cr (a-b)<|P-b)=0:=D4 mab mP;obtain⟨k,l,hk,L⟩:=B1 g.prim.ne par;have dl:∀w,k*i7 (a-b) (P-b) w=l*dot m w:=λw=>by have:=ip (λv=>dot v w) L;simp only[O8,U5]at this;exact this
 have l0:l≠0:=λq=>hP (by rw[q,x6]at L;have t:=ip V.x L;have f:=ip V.y L;have q3:=ip V.z L;simp only[pG,qB,pI,bU,bH,bZ]at t f q3;exact ext ((aAo.mp t).resolve_left (by lia)) ((aAo.mp f).resolve_left (by lia)) ((aAo.mp q3).resolve_left (by lia)))
 have N:∀Q∈j,dot m (Q-b)<=0:=λQ hQ=>by rw[d9];have:=g.sup Q hQ;lia
 obtain⟨Z,hZ,hz⟩:=hs.below s.prim.ne s.sup;by_cases hl:0<l
 .
  right;obtain⟨O,hO,eO⟩:∃O∈n8 (b7 b a j).1 (b7 b a j).2 j,0<i7 (b7 b a j).1 (a-b) (O-b):=I.ac7 J;obtain⟨pO,dO⟩:=c6.mp hO;obtain⟨_,e1b⟩:=c6.mp J.p;obtain⟨_,e1a⟩:=c6.mp J.q;have t1:i7 (a-b) (P-b) (O-b)<=0:=by
   have q:=dl (O-b);have:=aAA (N O pO) (aAH hl);rw[aBQ]at this;by_cases z:i7 (a-b) (P-b) (O-b)<=0
   .exact z
   .have:=aAD hk (show 0<i7 (a-b) (P-b) (O-b)by lia);lia
  have i:cr (b7 b a j).1 (cr (a-b)<|O-b)=0:=D4 (by rw[d9];lia) (by rw[d9];lia);obtain⟨k',u,T,o⟩:=B1 I.prim.ne i;have r:∀w,k'*i7 (a-b) (O-b) w=u*dot (b7 b a j).1 w:=λw=>by have:=ip (λv=>dot v w) o;simp only[O8,U5]at this;exact this
  have jb:0<u:=by
   have q:=ip (dot (b7 b a j).1) o;rw[j1,j1]at q;have f:0<dot (b7 b a j).1 (cr (a-b)<|O-b):=eO;have:=aAD T f;have hn:=n9 I.prim.ne;by_cases z:0<u
   .exact z
   .have:=aAR (show u<=0 by lia) (aAH hn);simp at this;lia
  have t2:i7 (a-b) (O-b) (P-b)<=0:=by
   have q:=r (P-b);have h0:dot (b7 b a j).1 (P-b)<=0:=by rw[d9];have:=I.sup P pP;lia
   have:=aAA h0 (aAH jb);rw[aBQ]at this;by_cases z:i7 (a-b) (O-b) (P-b)<=0
   .exact z
   .have:=aAD T (show 0<i7 (a-b) (O-b) (P-b)by lia);lia
  have t3:i7 (a-b) (O-b) (P-b)=0:=by rw[l5]at t1;lia
  have U:=r (P-b);rw[t3,aBQ]at U;have onP':dot (b7 b a j).1 P=(b7 b a j).2:=by have:=(aAo.mp U.symm).resolve_left (by lia);rw[d9]at this;lia
  obtain⟨Z',E,H⟩:=hs.below g.prim.ne g.sup;obtain⟨t,f⟩:=jI g.prim I.prim g.sup I.sup gb ga eP e1b e1a onP' hP E H;exact aDB t f
 .
  left;have mh:l<0:=by lia
  obtain⟨O,hO,eO⟩:=s.ac7 h;obtain⟨pO,dO⟩:=c6.mp hO;rw[qG]at eO;have t1:0<=i7 (a-b) (P-b) (O-b):=by
   have q:=dl (O-b);have h2:0<=l*dot m (O-b):=by
    have:=aAS (show 0<=-l by lia) (show 0<=-dot m (O-b)by have:=N O pO;lia)
    rwa [aDt]at this
   by_cases z:0<=i7 (a-b) (P-b) (O-b)
   .exact z
   .have:=aAx hk (show i7 (a-b) (P-b) (O-b)<0 by lia);lia
  have i:cr n (cr (b-a)<|O-b)=0:=D4 (by rw[d9];lia) (by rw[d9];lia);obtain⟨k',u,T,o⟩:=B1 s.prim.ne i;have r:∀w,k'*i7 (b-a) (O-b) w=u*dot n w:=λw=>by have:=ip (λv=>dot v w) o;simp only[O8,U5]at this;exact this
  have jb:0<u:=by
   have q:=ip (dot n) o;rw[j1,j1]at q;have f:0<dot n (cr (b-a)<|O-b):=eO;have:=aAD T f;have hn:=n9 s.prim.ne;by_cases z:0<u
   .exact z
   .have:=aAR (show u<=0 by lia) (aAH hn);simp at this;lia
  have t2:i7 (b-a) (O-b) (P-b)<=0:=by
   have q:=r (P-b);have h0:dot n (P-b)<=0:=by rw[d9];have:=s.sup P pP;lia
   have:=aAA h0 (aAH jb);rw[aBQ]at this;by_cases z:i7 (b-a) (O-b) (P-b)<=0
   .exact z
   .have:=aAD T (show 0<i7 (b-a) (O-b) (P-b)by lia);lia
  have e3:i7 (b-a) (O-b) (P-b)=i7 (a-b) (P-b) (O-b):=by simp[i7,dot];grind
  have t3:i7 (b-a) (O-b) (P-b)=0:=by lia
  have U:=r (P-b);rw[t3,aBQ]at U;have onn:dot n P=d:=by have:=(aAo.mp U.symm).resolve_left (by lia);rw[d9]at this;lia
  obtain⟨Z',E,H⟩:=hs.below g.prim.ne g.sup;obtain⟨t,f⟩:=jI g.prim s.prim g.sup s.sup gb ga eP db da onn hP E H;exact aDB t f
end
def zH (k:j8 j)(l:m∈j)(o:∀X∈j,X=m\/f9 (X-m)):
  T8 (b7 m (m+kk) j).1/\m∈n8 (b7 m (m+kk) j).1 (b7 m (m+kk) j).2 j/\∃a∈n8 (b7 m (m+kk) j).1 (b7 m (m+kk) j).2 j,m≠a:=by
 have C:ConeM (m+kk-m) (λw=>0<w.x\/(w.x=0/\0<w.y)):=by rw[M9];exact HQ
 have p:m+kk-m≠0:=by rw[M9];intro e;have:=ip V.z e;simp[kk]at this
 have b:∀P∈j,(0<(P-m).x\/((P-m).x=0/\0<(P-m).y))\/cr (m+kk-m) (P-m)=0:=λP r=>by
  rw[M9];rcases o P r with e|e
  .right;subst e;rw[v5];apply ext<;>simp
  .unfold f9 at e;rcases e with e|⟨f,e|⟨s,H⟩⟩
   .exact .inl (.inl e)
   .exact .inl (.inr ⟨f,e⟩)
   .right;apply ext
    .simp[kk];simp at s;lia
    .simp[kk];simp at f;lia
    .simp[kk]
 have t:∃P∈j,0<(P-m).x\/((P-m).x=0/\0<(P-m).y):=by
  by_cases z:∃P∈j,0<(P-m).x\/((P-m).x=0/\0<(P-m).y)
  .exact z
  .exfalso;obtain⟨Z,h,e⟩:=k.off (n:=⟨1,0,0⟩) (d:=m.x) (λe=>by have:=ip V.x e;simp at this);have w:=(b Z h).resolve_left λq=>z ⟨Z,h,q⟩;rw[M9]at w;have:=ip V.y w;simp[kk]at this;simp[dot]at e
   lia
 obtain⟨a,g,u,i,I,J,v,A,B,L,E,N⟩:=W9 C p b t;refine⟨v,c6.mpr ⟨l,A.symm⟩,a,c6.mpr ⟨u,E⟩,λe=>?_⟩;subst e;rw[v5]at i;simp at i
section
variable{j:List V} (hs:j8 j) (ho:j.Pairwise (λa b=>f9 (b-a)))
include hs ho
theorem CK (d:IsFace j f.1 f.2)(e:IsFace j g.1 g.2)(l:(a,b)∈z6 (c7 j f))(m:(a,b)∈z6 (c7 j g)):f=g:=by
 have i:=(d.aa2 ho).aa1.mp l;have h:=(e.aa2 ho).aa1.mp m;obtain⟨n,k⟩:=aG hs ho d i;rcases KP hs ho d e i (c6.mp h.p).2 (c6.mp h.q).2 with q|q
 .exact q.symm
 .exfalso;have:g=b7 b a j:=q;rw[<-this]at k;exact cH hs ho e h k
theorem KJ (h:l.Nodup):(z6 l).Nodup:=by
 have:((z6 l).map (·.1)).Nodup:=by
  unfold z6;rw[aFz]
  .exact h
  .simp;lia
 exact(aBb.mp this).imp λ{a b} h e=>h (by rw[e])
def iT (j:List V)(fs:List (V×Int)):List (V×V):=fs.flatMap λf=>z6 (c7 j f)
omit hs ho in
theorem PJ (fs:List (V×Int)):(iT j fs).length=(fs.map λf=>(c7 j f).length).sum:=by
 induction fs with
 |nil=>rfl
 |cons f fs a=>show(z6 (c7 j f)++iT j fs).length=_;rw[aAB,a,aAi,aAJ];congr 1;unfold z6;simp;lia
theorem iF:∀{fs:List (V×Int)},fs.Nodup->(∀f∈fs,IsFace j f.1 f.2)->(iT j fs).Nodup
 |[],_,_=>aDk
 |f::fs,l,h=>by have i:=aAF.mp l;have k:=h f (.head _);show(z6 (c7 j f)++iT j fs).Nodup;rw[aCX];refine⟨KJ hs ho ((k.aa2 ho).aa3),iF i.2 λg d=>h g (.tail _ d),λe m p n q=>?_⟩;subst q;obtain⟨g,d,o⟩:=aBl.mp n;exact i.1 (CK hs ho k (h g<|.tail _ d) (a:=e.1) (b:=e.2) m o▸d)
theorem uB {fs:List (V×Int)}(t:fs.Nodup)(m:∀f∈fs,IsFace j f.1 f.2):(fs.map λf=>(c7 j f).length).sum+j.length<=j.length*j.length:=by
 have i:j.Nodup:=ho.imp λ{a b} h e=>by subst e;exact K0 h
 have u:=iF hs ho t m;have v:(iT j fs++j.map λa=>(a,a)).Nodup:=by rw[aCX];refine⟨u,aBb.mpr (i.imp λ{a b} h e=>h (Prod.mk.inj e).1),λe d A w q=>?_⟩;subst q;obtain⟨g,n,k⟩:=aBl.mp d;obtain⟨a,_,rfl⟩:=aAk.mp w;exact(((m g n).aa2 ho).aa1.mp k).ne rfl
 have x:∀e∈iT j fs++j.map (λa=>(a,a)),e∈j.flatMap λa=>j.map λb=>(a,b):=λe d=>by
  rcases aAP.mp d with d|d
  .obtain⟨g,n,k⟩:=aBl.mp d;have k:(e.1,e.2)∈z6 (c7 j g):=k;have o:=((m g n).aa2 ho).aa1.mp k;exact aBl.mpr ⟨e.1,(c6.mp o.p).1,aAk.mpr ⟨e.2,(c6.mp o.q).1,rfl⟩⟩
  .obtain⟨a,r,rfl⟩:=aAk.mp d;exact aBl.mpr ⟨a,r,aAk.mpr ⟨a,r,rfl⟩⟩
 have s:=u6 v x;have y:(j.flatMap λa=>j.map λb=>(a,b)).length=j.length*j.length:=by
  have:∀l:List V,(l.flatMap λa=>j.map λb=>(a,b)).length=l.length*j.length:=λl=>by
   induction l with
   |nil=>simp
   |cons a l z=>rw[aFg,aAB,z,aAf,aAp,Nat.succ_mul];lia
  exact this j
 rw[aAB,PJ,aAf,y]at s;exact s
theorem nG {fs:List (V×Int)}(a:∀f∈fs,IsFace j f.1 f.2):3*fs.length<=(fs.map λf=>(c7 j f).length).sum:=by
 induction fs with
 |nil=>simp
 |cons f fs b=>
  have:=b λg d=>a g (.tail _ d);obtain⟨r,s,t,l,e⟩:=C7 ho (a f<|.head _);have h:(c7 j f).length=l.length+3:=by show(j6 f.1 (n8 f.1 f.2 j)).length=_;rw[e];simp
  rw[aAi,aAJ,aAp,h]
  lia
end
theorem lJ:∀(j:List V) (d b:V),(G7 a A j d b).2∈j\/(G7 a A j d b).2=b
 |[],d,b=>.inr rfl
 |P::e,d,b=>by
  unfold G7;split
  .rcases lJ e (cr a (P-A)) P with h|h
   .exact .inl (.tail _ h)
   .exact .inl (by rw[h];exact .head _)
  .rcases lJ e d b with h|h
   .exact .inl (.tail _ h)
   .exact .inr h
section
variable{j c:List V} (hs:j8 j) (ho:j.Pairwise (λa b=>f9 (b-a))) (bo:c.Pairwise (λa b=>f9 (b-a))) (hc:∀X,X∈c↔∃f:V×Int,IsFace j f.1 f.2/\X∈c7 j f)
include hs ho bo hc
theorem az (h:X∈c):X∈j:=by obtain⟨f,a,b⟩:=(hc X).mp h;exact(c6.mp<|(a.aa2 ho).aa4 b).1
theorem iS (a:IsFace j n d)(h:X∈c7 j (n,d)):X∈n8 n d c:=by have b:=(c6.mp<|(a.aa2 ho).aa4 h).2;exact c6.mpr ⟨(hc X).mpr ⟨(n,d),a,h⟩,b⟩
theorem YR (h:X∈n8 n d c):X∈n8 n d j:=c6.mpr ⟨az hs ho bo hc (c6.mp h).1,(c6.mp h).2⟩
theorem gQ (a:IsFace j n d):IsFace c n d:=by
 have S:=a.aa2 ho;obtain⟨r,s,t,l,e⟩:=C7 ho a;have i:r∈j6 n (n8 n d j):=by rw[e];simp
 have m:s∈j6 n (n8 n d j):=by rw[e];simp
 have f:t∈j6 n (n8 n d j):=by rw[e];simp
 have b:=S.aa3;rw[e]at b;simp only[aAF,aAd,not_or]at b;have g:EdgeOf n (λX=>X∈n8 n d j) r s:=S.aa1.mp (by rw[e];simp[z6]);have st:=S.strict g f (λq=>b.1.2.1 q.symm) (λq=>b.2.1.1 q.symm);have k:=λ{X} (h:X∈j6 n (n8 n d j))=>iS hs ho bo hc a (X:=X) h;refine⟨a.prim,λX o=>a.sup X (az hs ho bo hc o),r,(c6.mp<|k i).1,s,(c6.mp<|k m).1,t,(c6.mp<|k f).1,(c6.mp<|k i).2,(c6.mp<|k m).2,(c6.mp<|k f).2,λq=>?_⟩;unfold i7 at st;rw[q,D5]at st
 lia
theorem wQ (e:IsFace j n d)(h:EdgeOf n (λX=>X∈n8 n d j) a b):EdgeOf n (λX=>X∈n8 n d c) a b:=by have S:=e.aa2 ho;have m:=fP S (S.aa1.mpr h);exact⟨iS hs ho bo hc e m.1,iS hs ho bo hc e m.2,h.ne,λX f=>h.left X (YR hs ho bo hc f),λX f=>h.btw X (YR hs ho bo hc f)⟩
omit hs ho bo hc in
theorem pM {R:V->Prop}{E:List (V×V)}(g:∀a b,R a->(a,b)∈E->R b):∀(x:V) (l:List V),R x->(∀e∈j4 (x::l),e∈E)->∀X∈x::l,R X
 |x,[],f,_,X,d=>by rw[aAN.mp d];exact f
 |x,y::l,f,h,X,d=>by
  have i:=g x y f (h (x,y) (by simp[j4]));rcases aAd.mp d with rfl|d
  .exact f
  .exact pM g y l i (λe k=>h e (by simp only[j4,aAd];exact .inr k)) X d
theorem EY (i:IsFace j n d)(h:X∈j6 n (n8 n d c)):X∈j6 n (n8 n d j):=by
 have S:=i.aa2 ho;have p:=(gQ hs ho bo hc i).aa2 bo;obtain⟨m,r,e,u,v⟩:=p.aa7;obtain⟨g,I,s,w,x⟩:=S.aa7;have y:m=g:=by
  have A:g∈n8 n d c:=iS hs ho bo hc i (show g∈j6 n (n8 n d j)by rw[s];simp);rcases v g A with q|q
  .exact q.symm
  .rcases x m (YR hs ho bo hc u)with k|k
   .exact k
   .exact absurd (A5.add q k) (by
     have:(g-m)+(m-g)=0:=by apply ext<;>simp<;>lia
     rw[this];exactλz=>by simp[f9]at z)
 have step:∀a b,a∈j6 n (n8 n d j)->(a,b)∈z6 (j6 n<|n8 n d c)->b∈j6 n (n8 n d j):=λa b B l=>by obtain⟨J,t⟩:=U3 S B;have C:=p.aa1.mp l;have H:=wQ hs ho bo hc i (S.aa1.mp t);rw[C.next H];exact(fP S t).2
 rw[e]at h;refine pM (E:=z6 (j6 n<|n8 n d c)) (R:=λX=>X∈j6 n (n8 n d j)) step m r (by rw[y,s];simp) (λf o=>?_) X h;rw[e,Q6];exact bG r m m f o
theorem nA (f:IsFace j n d)(h:EdgeOf n (λX=>X∈n8 n d c) a b):EdgeOf n (λX=>X∈n8 n d j) a b:=by have S:=f.aa2 ho;have g:=(gQ hs ho bo hc f).aa2 bo;have i:=EY hs ho bo hc f (g.ab1 h);obtain⟨l,k⟩:=U3 S i;have e:=S.aa1.mp k;rw[h.next (wQ hs ho bo hc f e)];exact e
theorem JD (o:IsFace j n d):j8 c:=by
 have S:=o.aa2 ho;obtain⟨r,s,t,l,e⟩:=C7 ho o;have J:r∈j6 n (n8 n d j):=by rw[e];simp
 have A:t∈j6 n (n8 n d j):=by rw[e];simp
 have p:=S.aa3;rw[e]at p;simp only[aAF,aAd,not_or]at p;have i:EdgeOf n (λX=>X∈n8 n d j) r s:=S.aa1.mp (by rw[e];simp[z6]);have st:=S.strict i A (λq=>p.1.2.1 q.symm) (λq=>p.2.1.1 q.symm);obtain⟨x,L⟩:=aG hs ho o i;generalize(b7 s r j).1=m at*
 generalize(b7 s r j).2=f at*
 have T:=x.aa2 ho;obtain⟨a,b,N,l2,y⟩:=C7 ho x;have g:=T.aa3;rw[y]at g;simp only[aAF,aAd,not_or]at g;obtain⟨Y,B,Q,U⟩:∃Y∈j6 m (n8 m f j),Y≠s/\Y≠r:=by
  have q1:a∈j6 m (n8 m f j):=by rw[y];simp
  have q2:b∈j6 m (n8 m f j):=by rw[y];simp
  have q3:N∈j6 m (n8 m f j):=by rw[y];simp
  by_cases C:a≠s/\a≠r
  .exact⟨a,q1,C⟩
  .by_cases E:b≠s/\b≠r
   .exact⟨b,q2,E⟩
   .refine⟨N,q3,λz=>?_,λz=>?_⟩
    .subst z;have H:a=r:=by
      by_cases h:a=r
      .exact h
      .exact absurd ⟨g.1.2.1,h⟩ C
     have I:b=r:=by
      by_cases h:b=r
      .exact h
      .exact absurd ⟨g.2.1.1,h⟩ E
     exact g.1.1 (H.trans I.symm)
    .subst z;have H:a=s:=by
      by_cases h:a=s
      .exact h
      .exact absurd ⟨h,g.1.2.1⟩ C
     have I:b=s:=by
      by_cases h:b=s
      .exact h
      .exact absurd ⟨h,g.2.1.1⟩ E
     exact g.1.1 (H.trans I.symm)
 have sY:=T.strict L B Q U;have lt:=TC hs x o L i (T.aa4 B) sY;have k:=λ{X} (h:X∈j6 n (n8 n d j))=>iS hs ho bo hc o (X:=X) h;have kY:=iS hs ho bo hc x B;have O:s∈j6 n (n8 n d j):=by rw[e];simp
 have dr:=(c6.mp<|k J).2;have dss:=(c6.mp<|k O).2;have dt:=(c6.mp<|k A).2;refine⟨r,(c6.mp<|k J).1,s,(c6.mp<|k O).1,t,(c6.mp<|k A).1,Y,(c6.mp kY).1,λz=>?_⟩;have p1:dot n (s-r)=0:=by rw[d9];lia
 have p2:dot n (t-r)=0:=by rw[d9];lia
 have pY:dot n (Y-r)<0:=by rw[d9];lia
 have id:i7 (s-r) (t-r) (Y-r)*dot n n=i7 n (s-r) (t-r)*dot n (Y-r)+dot n (s-r)*(dot n (t-r)*0)+(dot n (s-r)*i7 n (t-r) (Y-r)+dot n (t-r)*i7 n (Y-r) (s-r)):=by generalize s-r=u;generalize t-r=v;generalize Y-r=w;have:=TZ n n u v w;simp[i7,dot]at this⊢;grind
 rw[z,p1,p2]at id;have:i7 n (s-r) (t-r)*dot n (Y-r)<0:=aAx st pY
 lia
theorem WT (fs:List (V×Int))(l:fs≠[])(e:∀f,f∈fs↔IsFace j f.1 f.2):IsFace c n d↔IsFace j n d:=by
 refine⟨λh=>?_,gQ hs ho bo hc⟩;obtain⟨p,g⟩:=aFb fs l;have q:=JD hs ho bo hc ((e p).mp g);have:=uO q bo fs l (λf i=>gQ hs ho bo hc ((e f).mp i)) (λf i a b k=>?_) h
 .exact(e _).mp this
 .have m:=(e f).mp i;obtain⟨o,r⟩:=aG hs ho m (nA hs ho bo hc m k);exact⟨b7 b a j,(e _).mpr o,wQ hs ho bo hc o r⟩
theorem QL (b:X∈c):∃f:V×Int,IsFace c f.1 f.2/\X∈c7 c f:=by obtain⟨⟨n,d⟩,a,h⟩:=(hc X).mp b;have S:=a.aa2 ho;obtain⟨Q,e⟩:=U3 S h;exact⟨(n,d),gQ hs ho bo hc a,((gQ hs ho bo hc a).aa2 bo).ab1 (wQ hs ho bo hc a<|S.aa1.mp e)⟩
end
def my {Pos:V->Prop}(C:Cone Pos){n m p v q u:V}(g:n≠0)(r:dot n p=0)(d:dot n v=0)(f:dot n q=0)(s:dot n u=0)(B:Pos p)(i:Pos v)(j:Pos q)(E:Pos u)(H:0<dot m p)(mv:dot m v<0)(k:0<dot m q)(mu:dot m u<0)(t:0<=i7 n v p)(w:0<=i7 n q u):False:=by
 have id:∀{a b c:V},dot n a=0->dot n b=0->dot n c=0->i7 n a b*dot m c+i7 n b c*dot m a+i7 n c a*dot m b=0:=λ{a b c} I J L=>by have:=TZ m n a b c;rw[A3 g I J L,aGA]at this;exact this
 have N:=id d r f;have O:=id f s d;rcases aDu 0 (i7 n q v)with h|h
 .
  have l:=C.tr j i B (A3 g f d r) h t;have o:i7 n p q=-i7 n q p:=l5 n q p;rw[o]at N;have Q:0<=i7 n v p*dot m q:=aAS t (aAH k);have T:0< -i7 n q p*dot m v:=by have:=aAD l (show 0< -dot m v by lia);grind
  have U:0<i7 n q v*dot m p:=aAD h H
  lia
 .rcases aDu (i7 n q v) 0 with h'|h'
  .have e0:i7 n v q=-i7 n q v:=l5 n q v;have A:0<i7 n v q:=by lia
   have l:=C.tr i j E (A3 g d f s) A w;have o:i7 n u v=-i7 n v u:=l5 n v u;rw[o]at O;have Q:i7 n q u*dot m v<=0:=by have:=aAS w (show 0<=-dot m v by lia);grind
   have T:-i7 n v u*dot m q<0:=by have:=aAD l k;grind
   have U:i7 n v q*dot m u<0:=by have:=aAD A (show 0< -dot m u by lia);grind
   lia
  .have z:i7 n q v=0:=by lia
   have c0:=X0 g f d z;have e:dot m q*v+(-dot m v)*q=0:=by have Y:=ip V.x c0;have hy:=ip V.y c0;have hz:=ip V.z c0;simp at Y hy hz;apply ext<;>simp[dot]<;>grind
   have:=C.add (C.mul k i) (C.mul (show 0< -dot m v by lia) j);rw[e]at this;exact C.irr this
section
variable{n:V} {ts:List V} (S:Sheet n ts)
include S
theorem Sheet.ac9 (h:X∈y8 n ts\/X∈y8 n ts.reverse):X∈j6 n ts:=by
 obtain⟨m,M,c,d,j,k,f,l,o,b,e,g,i,p,q⟩:=S.ends;unfold j6;rw[aAP,b,e,aAO,aAO,aBq,aBq,aCz,aCz];rw[b,e]at h;have a:m≠M:=λz=>by subst z;exact K0 f
 rcases h with h|h
 .rcases aAd.mp h with rfl|h
  .right;have:=aCW i;rcases aAd.mp this with z|z
   .exact absurd z.symm a
   .exact z
  .exact .inl h
 .rcases aAd.mp h with rfl|h
  .left;have:=aCW g;rcases aAd.mp this with z|z
   .exact absurd z a
   .exact z
  .exact .inr h
theorem Sheet.top (d:X∈ts)(h:∀Y∈ts,Y≠X->dot m Y<dot m X):X∈j6 n ts:=by
 obtain⟨s,n1,t1⟩:=S.ab3;obtain⟨t,n2,t2⟩:=S.ab2;have w:∀u,f9 u->f9 (-u)->False:=λu x y=>by have:=A5.add x y;have A:u+-u=0:=ext (by simp;lia) (by simp;lia) (by simp;lia);rw[A]at this;exact A5.irr this
 have B:∀u,P1 u->P1 (-u)->False:=λu x y=>by have:=aT.add x y;have A:u+-u=0:=ext (by simp;lia) (by simp;lia) (by simp;lia);rw[A]at this;exact aT.irr this
 rcases pJ X (y8 n ts) (λY _=>L8 X Y) (λq C=>t1 X q C d) (λz E=>s.last X d z E) n1 w with H|⟨a,b,j,O,Q⟩
 .exact S.ac9 (.inl H)
 .rcases pJ X (y8 n ts.reverse) (λY _=>by
    rcases L8 X Y with z|z|z
    .exact .inl z
    .exact .inr (.inr (t7.mpr z))
    .exact .inr (.inl (t7.mpr z))) (λq C=>t2 X q C d) (λz E=>t.last X d z E) n2 B with H|⟨k,r,f,I,jg⟩
  .exact S.ac9 (.inr H)
  .exfalso;have T:=M7 S j;have U:=M7 S f;have J:=s.mem _ T.1;have L:=s.mem _ T.2;have g:=t.mem _ U.1;have i:=t.mem _ U.2;have E1:=(S.ad9 j J L).1.left X d;have E2:=(S.ae0 f g i).1.left X d;have l:=t7.mp I;have xi:=t7.mp jg;have ne:∀{Y},f9 (X-Y)->Y≠X:=λN z=>by subst z;exact K0 N
   have o:∀{Y},f9 (Y-X)->Y≠X:=λN z=>by subst z;exact K0 N
   have va:=h a J (ne O);have vb:=h b L (o Q);have va':=h k g (o l);have vb':=h r i (ne xi);refine my A5 (n:=n) (m:=m) (p:=X-a) (v:=b-X) (q:=X-r) (u:=k-X) S.nz (S.pl _ d _ J) (S.pl _ L _ d) (S.pl _ d _ i) (S.pl _ g _ d) O Q xi l (by rw[d9];lia) (by rw[d9];lia) (by rw[d9];lia) (by rw[d9];lia) ?_ ?_
   .have e:i7 n (b-a) (X-a)=i7 n (b-X) (X-a):=by simp[i7,dot];grind
    rw[<-e];exact E1
   .have e:i7 n (r-k) (X-k)=i7 n (X-r) (k-X):=by simp[i7,dot];grind
    rw[<-e];exact E2
end
section
variable{j:List V} (hs:j8 j)
include hs
theorem aW (a:IsFace j n d)(b:IsFace j m e)(i:dot n X=d)(o:dot m X=e)(h:cr m n=0):(n,d)=(m,e):=by
 obtain⟨k,l,f,g⟩:=B1 b.prim.ne h;obtain⟨Z,p,u⟩:=hs.below a.prim.ne a.sup;have r:0<l:=by
  have q:=ip (λv=>dot v (Z-X)) g;rw[O8,O8]at q;have s:dot n (Z-X)<0:=by rw[d9];lia
  have w:dot m (Z-X)<=0:=by rw[d9];have:=b.sup Z p;lia
  have x:k*dot n (Z-X)<0:=aAx f s;by_cases z:0<l
  .exact z
  .exfalso;have:0<=l*dot m (Z-X):=by
    have:=aAS (show 0<=-l by lia) (show 0<=-dot m (Z-X)by lia)
    rwa [aDt]at this
   lia
 have t:=yD a.prim b.prim f r g;subst t;rw[<-i,<-o]
theorem DG {a b c:Int}(l:IsFace j n d)(o:IsFace j m e)(p:IsFace j k f)(hX:dot n X=d)(ni:dot m X=e)(r:dot k X=f)(hc:0<c)(s:0<a)(t:0<b)(h:c*k=a*n+b*m)(u:cr n m≠0):False:=by
 obtain⟨A,w,B,x,C,y,E,H,I,g⟩:=p.three;have on:∀Y∈j,dot k Y=f->dot n Y=d/\dot m Y=e:=λY i hy=>by
  have h1:=l.sup Y i;have h2:=o.sup Y i;have q:=ip (λv=>dot v (Y-X)) h;have q:c*dot k (Y-X)=a*dot n (Y-X)+b*dot m (Y-X):=by
   have J:dot (c*k) (Y-X)=c*dot k (Y-X):=O8 ..;have L:dot (a*n+b*m) (Y-X)=a*dot n (Y-X)+b*dot m (Y-X):=by simp[dot];grind
   rw[<-J,<-L];exact q
  have N:dot k (Y-X)=0:=by rw[d9];lia
  rw[N,aBQ]at q;have O:dot n (Y-X)<=0:=by rw[d9];lia
  have Q:dot m (Y-X)<=0:=by rw[d9];lia
  have a0:a*dot n (Y-X)<=0:=aAt (aAH s) O;have b0:b*dot m (Y-X)<=0:=aAt (aAH t) Q;have T:a*dot n (Y-X)=0:=by lia
  have U:b*dot m (Y-X)=0:=by lia
  have y1:dot n (Y-X)=0:=by rcases aAo.mp T with z|z;lia;exact z
  have y2:dot m (Y-X)=0:=by rcases aAo.mp U with z|z;lia;exact z
  rw[d9]at y1 y2;exact⟨by lia,by lia⟩
 obtain⟨a1,a2⟩:=on A w E;obtain⟨b1,b2⟩:=on B x H;obtain⟨c1,c2⟩:=on C y I;have p1:cr n (cr (B-A)<|C-A)=0:=D4 (by rw[d9];lia) (by rw[d9];lia);have p2:cr m (cr (B-A)<|C-A)=0:=D4 (by rw[d9];lia) (by rw[d9];lia);exact u (iH g p1 p2)
theorem fW (p:IsFace j n d)(A:IsFace j m e)(i:IsFace j k f)(C:dot n X=d)(E:dot m X=e)(H:dot k X=f)(uo:(n,d)≠(m,e))(n13:(n,d)≠(k,f))(n23:(m,e)≠(k,f)):i7 n m k≠0:=λz=>by
 have I:cr n m≠0:=λq=>uo (aW hs A p E C q).symm;have J:cr n k≠0:=λq=>n13 (aW hs i p H C q).symm;have L:cr m k≠0:=λq=>n23 (aW hs i A H E q).symm;have l:∀{u v:V},cr u v≠0->cr v u≠0:=λ{u v} h q=>h (by have N:=ip V.x q;have g:=ip V.y q;have B:=ip V.z q;simp at N g B;apply ext<;>simp<;>grind)
 obtain⟨w,ew⟩:∃w,w=cr n m:=⟨_,rfl⟩;have r:=DR w n m k;rw[z]at r;have O:0<i7 w n m:=by
  have:i7 w n m=dot w w:=by rw[ew];rfl
  rw[this,ew];exact n9 I
 obtain⟨c,ec⟩:∃c,c=i7 w n m:=⟨_,rfl⟩;obtain⟨a,ea⟩:∃a,a=-i7 w m k:=⟨_,rfl⟩;obtain⟨b,eb⟩:∃b,b=-i7 w k n:=⟨_,rfl⟩;have T:c*k=a*n+b*m:=by rw[ec,ea,eb];have N:=ip V.x r;have g:=ip V.y r;have B:=ip V.z r;simp at N g B;apply ext<;>simp<;>lia
 rw[<-ec]at O;have U:=ip V.x T;have Y:=ip V.y T;have vz:=ip V.z T;simp at U Y vz;have o:∀{u v:V} {s t:Int},s≠0->s*u=t*v->cr u v=0:=λ{u v s t} ke h=>by
  have N:=ip V.x h;have g:=ip V.y h;have B:=ip V.z h;simp at N g B;have go:∀y:Int,s*y=0->y=0:=λy g=>by rcases aAo.mp g with q|q;exact absurd q ke;exact q
  apply ext<;>simp<;>apply go<;>grind
 rcases aDu 0 a with ha|ha
 .rcases aDu 0 b with Q|Q
  .exact DG hs p A i C E H O ha Q T I
  .rcases aDu b 0 with jg|jg
   .
    refine DG hs i A p H E C ha O (show 0< -b by lia) (c:=a) (a:=c) (b:=-b) ?_ (l L);apply ext<;>simp<;>lia
   .have b0:b=0:=by lia
    refine J (o (u:=n) (v:=k) (s:=a) (t:=c) (by lia) ?_);rw[b0]at U Y vz;apply ext<;>simp<;>lia
 .rcases aDu a 0 with ha'|ha'
  .rcases aDu 0 b with Q|Q
   .refine DG hs i p A H C E Q O (show 0< -a by lia) (c:=b) (a:=c) (b:=-a) ?_ (l J);apply ext<;>simp<;>lia
   .
    obtain⟨Z,hZ,B⟩:=hs.below i.prim.ne i.sup;have q:c*dot k (Z-X)=a*dot n (Z-X)+b*dot m (Z-X):=by simp[dot];grind
    have k0:dot k (Z-X)<0:=by rw[d9];lia
    have n0:dot n (Z-X)<=0:=by rw[d9];have:=p.sup Z hZ;lia
    have m0:dot m (Z-X)<=0:=by rw[d9];have:=A.sup Z hZ;lia
    have t1:c*dot k (Z-X)<0:=aAx O k0;have t2:0<=a*dot n (Z-X):=by
     have:=aAS (show 0<=-a by lia) (show 0<=-dot n (Z-X)by lia)
     rwa [aDt]at this
    have t3:0<=b*dot m (Z-X):=by
     have:=aAS (show 0<=-b by lia) (show 0<=-dot m (Z-X)by lia)
     rwa [aDt]at this
    lia
  .have a0:a=0:=by lia
   by_cases b0:b=0
   .rw[a0,b0]at U Y vz;have k0:k=0:=by
     have go:∀y:Int,c*y=0->y=0:=λy g=>by rcases aAo.mp g with q|q;lia;exact q
     apply ext<;>simp<;>apply go<;>lia
    exact i.prim.ne k0
   .refine L (o (u:=m) (v:=k) (s:=b) (t:=c) b0 ?_);rw[a0]at U Y vz;apply ext<;>simp<;>lia
theorem iL (u:j.Pairwise (λa b=>f9 (b-a)))(v:X∈j)(g:IsFace j n d)(p:IsFace j m e)(r:IsFace j k f)(s:dot n X=d)(w:dot m X=e)(x:dot k X=f)(z:(n,d)≠(m,e))(h:(n,d)≠(k,f))(i:(m,e)≠(k,f)):X∈c7 j (n,d):=by
 have l:=fW hs g p r s w x z h i;refine(g.aa2 u).top (m:=n+m+k) (c6.mpr ⟨v,s⟩) λY A B=>?_;have o:=(c6.mp A).1;have L:=g.sup Y o;have N:=p.sup Y o;have O:=r.sup Y o;have t:∀Z,dot (n+m+k) Z=dot n Z+dot m Z+dot k Z:=λZ=>by simp[dot];grind
 rw[t,t];rcases aDu (dot n Y+dot m Y+dot k Y) (dot n X+dot m X+dot k X)with q|q
 .exact q
 .exfalso;have C:dot n (Y-X)=0:=by rw[d9];lia
  have E:dot m (Y-X)=0:=by rw[d9];lia
  have H:dot k (Y-X)=0:=by rw[d9];lia
  refine B (V0 ?_);generalize Y-X=y at*
  have I:∀y:Int,i7 n m k*y=0->y=0:=λy J=>by rcases aAo.mp J with q|q;exact absurd q l;exact q
  simp[dot]at C E H;apply ext<;>simp<;>apply I<;>simp[i7,dot]<;>grind
end
def Up (j:List V)(A B C:V):Prop:=(∀X∈j,dot (cr (B-A)<|C-A) (X-A)<=0)/\∃X∈j,dot (cr (B-A)<|C-A) (X-A)<0
def Dn (j:List V)(A B C:V):Prop:=(∀X∈j,0<=dot (cr (B-A)<|C-A) (X-A))/\∃X∈j,0<dot (cr (B-A)<|C-A) (X-A)
abbrev T3:=V×V×V
def Q3 (r:T3)(v:V):V:=⟨dot r.1 v,dot r.2.1 v,dot r.2.2 v⟩
def tr (r:T3):T3:=(⟨r.1.x,r.2.1.x,r.2.2.x⟩,⟨r.1.y,r.2.1.y,r.2.2.y⟩,⟨r.1.z,r.2.1.z,r.2.2.z⟩)
def PQ (r:T3):T3:=(cr r.2.1 r.2.2,cr r.2.2 r.1,cr r.1 r.2.1)
def uH (k:Int)(v:V):V:=⟨v.x*k,v.y*k,v.z*k⟩
def QX (f:V->V)(r:T3):T3:=(f r.1,f r.2.1,f r.2.2)
def J2 (r:T3):Int:=dot r.1 (cr r.2.1 r.2.2)
def a4r:T3:=(⟨1,0,0⟩,⟨0,1,0⟩,⟨0,0,1⟩)
def kT (r:T3):T3:=tr (QX (uH<|J2 r)<|PQ r)
def a5p (r:T3):tr (tr r)=r:=rfl
def xw (r:T3):J2 (tr r)=J2 r:=by obtain⟨⟨a,b,c⟩,⟨d,e,f⟩,⟨g,h,i⟩⟩:=r;simp[J2,tr,dot];grind
def WN (k:Int)(r:T3):J2 (QX (uH k) r)=k*k*k*J2 r:=by obtain⟨⟨a,b,c⟩,⟨d,e,f⟩,⟨g,h,i⟩⟩:=r;simp[J2,QX,uH,dot];grind
def YI (r:T3):J2 (PQ r)=J2 r*J2 r:=by obtain⟨⟨a,b,c⟩,⟨d,e,f⟩,⟨g,h,i⟩⟩:=r;simp[J2,PQ,dot];grind
def ZE (r:T3)(h:J2 r=1\/J2 r=-1):J2 (kT r)=J2 r:=by unfold kT;rw[xw,WN,YI];rcases h with h|h<;>rw[h]<;>rfl
def YD (r:T3)(v:V):Q3 (kT r) (Q3 r v)=uH (J2 r*J2 r) v:=by obtain⟨⟨a,b,c⟩,⟨d,e,f⟩,⟨g,h,i⟩⟩:=r;obtain⟨x,y,z⟩:=v;simp[kT,J2,PQ,QX,uH,tr,Q3,dot];refine⟨?_,?_,?_⟩<;>grind
def HC (r:T3)(v:V):Q3 r (Q3 (kT r) v)=uH (J2 r*J2 r) v:=by obtain⟨⟨a,b,c⟩,⟨d,e,f⟩,⟨g,h,i⟩⟩:=r;obtain⟨x,y,z⟩:=v;simp[kT,J2,PQ,QX,uH,tr,Q3,dot];refine⟨?_,?_,?_⟩<;>grind
def yP (v:V):uH 1 v=v:=by simp[uH]
def EX (h:J2 r=1\/J2 r=-1):J2 r*J2 r=1:=by rcases h with h|h<;>rw[h]<;>rfl
def XC (r:T3)(u v:V):Q3 r (u-v)=Q3 r u-Q3 r v:=by apply ext<;>simp[Q3,dot]<;>grind
def HG (r:T3)(u v:V):Q3 r (u+v)=Q3 r u+Q3 r v:=by apply ext<;>simp[Q3,dot]<;>grind
def VV (r:T3)(k:Int)(v:V):Q3 r (uH k v)=uH k (Q3 r v):=by obtain⟨⟨a,b,c⟩,⟨d,e,f⟩,⟨g,h,i⟩⟩:=r;simp[Q3,dot,uH];refine⟨?_,?_,?_⟩<;>grind
abbrev Mv:=T3×V
def z7 (m:Mv)(P:V):V:=Q3 m.1 P+m.2
def WB (m:Mv):Mv:=(kT m.1,uH (-1) (Q3 (kT m.1) m.2))
def ZR:Mv:=(a4r,0)
def M3 (r:T3):Prop:=J2 r=1\/J2 r=-1
def BB (h:M3 r):M3 (kT r):=by unfold M3;rw[ZE r h];exact h
def oU (m:Mv)(P Q:V):z7 m P-z7 m Q=Q3 m.1 (P-Q):=by rw[XC];apply ext<;>simp[z7]<;>lia
def jR (h:M3 m.1)(P:V):z7 (WB m) (z7 m P)=P:=by show Q3 (kT m.1) (Q3 m.1 P+m.2)+uH (-1) (Q3 (kT m.1) m.2)=P;rw[HG,YD,EX h,yP];apply ext<;>simp[uH]<;>lia
def QQ (h:M3 m.1)(P:V):z7 m (z7 (WB m) P)=P:=by show Q3 m.1 (Q3 (kT m.1) P+uH (-1) (Q3 (kT m.1) m.2))+m.2=P;rw[HG,VV,HC,HC,EX h,yP,yP];apply ext<;>simp[uH]<;>lia
def UA (h:M3 m.1)(e:z7 m P=z7 m Q):P=Q:=by rw[<-jR h P,e,jR h]
section
variable{j ri:List V} {m:Mv} {n:V} {d:Int}
def nR (m:Mv)(n:V):V:=uH (J2 m.1) (Q3 (PQ m.1) n)
def IF (r:T3)(n v:V):dot (Q3 (PQ r) n) (Q3 r v)=J2 r*dot n v:=by obtain⟨⟨a,b,c⟩,⟨e,f,g⟩,⟨h,i,k⟩⟩:=r;simp[Q3,PQ,J2,dot,cr];grind
def wL (h:M3 m.1)(n v:V):dot (nR m n) (Q3 m.1 v)=dot n v:=by
 have e:dot (nR m n) (Q3 m.1 v)=J2 m.1*dot (Q3 (PQ m.1) n) (Q3 m.1 v):=by simp[nR,uH,dot];grind
 rw[e,IF,<-aGm,EX h,aGh]
def aR (h:M3 m.1)(n P:V):dot (nR m n) (z7 m P)=dot n P+dot (nR m n) m.2:=by
 have:dot (nR m n) (Q3 m.1 P+m.2)=dot (nR m n) (Q3 m.1 P)+dot (nR m n) m.2:=by simp[dot];grind
 unfold z7;rw[this,wL h]
def MY (r:T3)(u v:V):cr (Q3 r u) (Q3 r v)=Q3 (PQ r) (cr u v):=by obtain⟨⟨a,b,c⟩,⟨e,f,g⟩,⟨h,i,k⟩⟩:=r;apply ext<;>simp[Q3,PQ,dot,cr]<;>grind
def jY (h:M3 m.1):Q3 (tr m.1) (nR m n)=n:=by
 have e:=wL (m:=m) h n;have a:=e ⟨1,0,0⟩;have b:=e ⟨0,1,0⟩;have f:=e ⟨0,0,1⟩;apply ext
 .rw[show n.x=dot n ⟨1,0,0⟩by simp[dot],<-a];simp[Q3,tr,dot];grind
 .rw[show n.y=dot n ⟨0,1,0⟩by simp[dot],<-b];simp[Q3,tr,dot];grind
 .rw[show n.z=dot n ⟨0,0,1⟩by simp[dot],<-f];simp[Q3,tr,dot];grind
def NB (h:M3 m.1)(a:T8 n):T8 (nR m n):=by
 have b:=jY (n:=n) h;have ne:nR m n≠0:=λz=>a.ne (by rw[<-b,z];apply ext<;>simp[Q3,dot]);obtain⟨i,f,k⟩:=fS ne;have e:n=(x4 (nR m n):Int)*Q3 (tr m.1) (iK (nR m n)<|x4<|nR m n):=by
  conv=>lhs;rw[<-b,f]
  generalize iK (nR m n) _=w;generalize(x4 (nR m n):Int)=g;apply ext<;>simp[Q3,dot]<;>grind
 have q:=ip x4 e;rw[kJ,a]at q;simp only[Int.natAbs_natCast]at q;exact Nat.eq_one_of_mul_eq_one_right q.symm
def rz (h:M3 m.1)(a:n≠0):nR m n≠0:=λz=>a (by rw[<-jY (n:=n) h,z];apply ext<;>simp[Q3,dot])
def wD (h:M3 m.1)(f:∀Y,Y∈ri↔∃X∈j,Y=z7 m X)(g:IsFace j n d):IsFace ri (nR m n) (d+dot (nR m n) m.2):=by
 obtain⟨A,i,B,k,C,l,a,b,c,e⟩:=g.three;refine⟨NB h g.prim,λY o=>?_,z7 m A,(f _).mpr ⟨A,i,rfl⟩,z7 m B,(f _).mpr ⟨B,k,rfl⟩,z7 m C,(f _).mpr ⟨C,l,rfl⟩,?_,?_,?_,?_⟩
 .obtain⟨X,p,rfl⟩:=(f Y).mp o;have:=g.sup X p;rw[aR h];lia
 .rw[aR h];lia
 .rw[aR h];lia
 .rw[aR h];lia
 .rw[oU,oU,MY];intro z;refine e ?_;have w:=rz (n:=cr (B-A) (C-A)) h;by_cases q:cr (B-A) (C-A)=0
  .exact q
  .refine absurd ?_ (w q);unfold nR;rw[z];apply ext<;>simp[uH]
def OT (h:M3 m.1)(a:∀Y,Y∈ri↔∃X∈j,Y=z7 m X):∀Y,Y∈j↔∃X∈ri,Y=z7 (WB m) X:=λY=>by
 constructor
 .intro b;exact⟨z7 m Y,(a _).mpr ⟨Y,b,rfl⟩,(jR h Y).symm⟩
 .rintro⟨X,e,rfl⟩;obtain⟨Z,f,rfl⟩:=(a X).mp e;rw[jR h];exact f
end
section
def oD {u:V}(h:f9 u):¬f9 (-u):=λa=>by simp[f9]at h a;lia
end
section
variable{j ri:List V} {n:V} {d:Int}
def bA (t:Int)(v:V):V:=⟨t*v.x,t*v.y,t*v.z⟩
def vN (t:Int)(n:V):V:=if 0<t then n else-n
def RX (h:T8 n):T8 (-n):=by unfold T8 x4 at*;simpa using h
def IY (t:Int)(h:T8 n):T8 (vN t n):=by unfold vN;split<;>first|exact h|exact RX h
def eF {t:Int}(a:t≠0)(n P:V):dot (vN t n) (bA t P)=t.natAbs*dot n P:=by
 unfold vN;split
 .have:(t.natAbs:Int)=t:=by lia
  rw[this];simp[bA,dot];grind
 .have:(t.natAbs:Int)=-t:=by lia
  rw[this];simp[bA,dot];grind
def tU {t:Int}(a:t≠0)(n:V):vN t (vN t n)=n:=by
 unfold vN;split
 .rfl
 .apply ext<;>simp
def PX (t:Int)(A B C:V):cr (bA t B-bA t A) (bA t C-bA t A)=(t*t)*cr (B-A) (C-A):=by apply ext<;>simp[bA]<;>grind
def IG {t:Int}(f:t≠0)(g:∀Y,Y∈ri↔∃X∈j,Y=bA t X)(i:IsFace j n d):IsFace ri (vN t n) (t.natAbs*d):=by
 obtain⟨A,l,B,m,C,o,a,b,c,e⟩:=i.three;have p:(0:Int)<t.natAbs:=by lia
 refine⟨IY t i.prim,λY q=>?_,bA t A,(g _).mpr ⟨A,l,rfl⟩,bA t B,(g _).mpr ⟨B,m,rfl⟩,bA t C,(g _).mpr ⟨C,o,rfl⟩,?_,?_,?_,?_⟩
 .obtain⟨X,r,rfl⟩:=(g Y).mp q;rw[eF f];exact aAA (i.sup X r) (aAH p)
 .rw[eF f,a]
 .rw[eF f,b]
 .rw[eF f,c]
 .rw[PX];intro z;refine e ?_;have s:t*t≠0:=λw=>by rcases aAo.mp w with w|w<;>exact f w
  have k:∀{a:Int},t*t*a=0->a=0:=λ{a} h=>by
   rcases aAo.mp h with h|h
   .exact absurd h s
   .exact h
  exact ext (by simp only[bU];apply k;simpa using ip V.x z) (by simp only[bH];apply k;simpa using ip V.y z) (by simp only[bZ];apply k;simpa using ip V.z z)
def VI {t:Int}(h:t≠0)(f:∀Y,Y∈ri↔∃X∈j,Y=bA t X)(g:IsFace ri n d):∃k,IsFace j (vN t n) k/\d=t.natAbs*k:=by
 obtain⟨A,l,B,m,C,o,a,b,c,e⟩:=g.three;obtain⟨A,p,rfl⟩:=(f A).mp l;obtain⟨B,q,rfl⟩:=(f B).mp m;obtain⟨C,r,rfl⟩:=(f C).mp o;have s:(0:Int)<t.natAbs:=by lia
 have i:∀X,dot n (bA t X)=t.natAbs*dot (vN t n) X:=λX=>by have:=eF h (vN t n) X;rw[tU h]at this;exact this
 rw[i]at a b c;refine⟨dot (vN t n) A,⟨IY t g.prim,λX u=>?_,A,p,B,q,C,r,rfl,?_,?_,?_⟩,a.symm⟩
 .have:=g.sup _ ((f _).mpr ⟨X,u,rfl⟩);rw[i,<-a]at this;exact aDI this s
 .exact aBh (show(t.natAbs:Int)≠0 by lia) (by rw[b,a])
 .exact aBh (show(t.natAbs:Int)≠0 by lia) (by rw[c,a])
 .intro z;refine e ?_;rw[PX,z];apply ext<;>simp
end
structure Sl where
 a:Int
 b:Int
 c:Int
 w:V
 t:Bool
def Sl.put (s:Sl)(P:V):V:=
 let x:=P.x+s.a*P.y
 let y:=P.y+s.b*P.z
 let z:=P.z+s.c*x
 if s.t then⟨y+s.w.x,x+s.w.y,z+s.w.z⟩else⟨x+s.w.x,y+s.w.y,z+s.w.z⟩
def Sl.mv (s:Sl):Mv:=
 let d:V:=⟨1,s.a,0⟩
 let e:V:=⟨0,1,s.b⟩
 let f:V:=⟨s.c,s.c*s.a,1⟩
 (if s.t then(e,d,f)else(d,e,f),s.w)
def KC {t:Int}(b:t≠0){j d:List V}(a:∀X∈j,bA t X∈d)(S:j8 j):j8 d:=by
 obtain⟨A,f,B,g,C,h,D,i,e⟩:=S;refine⟨_,a A f,_,a B g,_,a C h,_,a D i,?_⟩;have:i7 (bA t B-bA t A) (bA t C-bA t A) (bA t D-bA t A)=t*t*t*i7 (B-A) (C-A) (D-A):=by simp[bA,i7,dot,cr];grind
 rw[this];intro z;rcases aAo.mp z with z|z
 .rcases aAo.mp z with z|z
  .rcases aAo.mp z with z|z<;>exact b z
  .exact b z
 .exact e z
def R3 {n m k y:V}(a:i7 n m k≠0)(d:dot n y=0)(g:dot m y=0)(h:dot k y=0):y=0:=by
 have i:∀t:Int,i7 n m k*t=0->t=0:=λt j=>by
  rcases aAo.mp j with q|q
  .exact absurd q a
  .exact q
 have e:∀f:V->Int,(f=(·.x)\/f=(·.y)\/f=(·.z))->i7 n m k*f y=dot n y*f (cr m k)+dot m y*f (cr k n)+dot k y*f (cr n m):=λf b=>by rcases b with rfl|rfl|rfl<;>simp[i7,dot,cr]<;>grind
 have z:∀f:V->Int,(f=(·.x)\/f=(·.y)\/f=(·.z))->f y=0:=λf b=>i _ (by rw[e f b,d,g,h];simp);exact ext (z _<|.inl rfl) (z _<|.inr (.inl rfl)) (z _<|.inr (.inr rfl))
def VS {a b p q d:Int}(f:0<a)(g:0<b)(i:p<=d)(j:q<=d)(e:(a+b)*d=a*p+b*q):p=d:=by
 have k:=aAS (aAH f) (show 0<=d-p by lia);have l:=aAS (aAH g) (show 0<=d-q by lia);have m:a*(d-p)+b*(d-q)=0:=by
  have:a*(d-p)+b*(d-q)=(a+b)*d-(a*p+b*q):=by grind
  lia
 have h:a*(d-p)=0:=by
  clear e;generalize a*(d-p)=u at*
  generalize b*(d-q)=v at*
  lia
 rcases aAo.mp h with q|q<;>lia
section
variable{j:List V} (hs:j8 j) (ho:j.Pairwise (λa b=>f9 (b-a)))
include hs ho
theorem rH (f:IsFace j n d)(r:X∈c7 j (n,d))(s:P∈j)(t:Q∈j){a b:Int}(u:0<a)(v:0<b)(e:(a+b)*X=a*P+b*Q):P=X:=by
 obtain⟨z,A,g,i,w,x,y,k,l,o⟩:=K5 hs ho f r;have on:∀{m:V} {c:Int},IsFace j m c->dot m X=c->dot m (P-X)=0:=λ{m c} h p=>by have q:=ip (dot m) e;rw[j1,show dot m (a*P+b*Q)=a*dot m P+b*dot m Q by simp[dot];grind,p]at q;rw[d9,p,VS u v (h.sup P s) (h.sup Q t) q];lia
 exact V0 (R3 (fW hs f g i k l o w x y) (on f k) (on g l)<|on i o)
end
section
variable{j:List V} (hs:j8 j) (ho:j.Pairwise (λa b=>f9 (b-a)))
include hs ho
theorem oQ {a b n:V}{d:Int}(g:IsFace j n d)(h:EdgeOf n (λX=>X∈n8 n d j) a b):∃m e,IsFace j m e/\(n,d)≠(m,e)/\dot m a=e/\dot m b=e:=by obtain⟨i,f⟩:=aG hs ho g h;refine⟨_,_,i,λe=>?_,(c6.mp f.q).2,(c6.mp f.p).2⟩;have:(n,d)=b7 b a j:=e;rw[<-this]at f;exact cH hs ho g h f
theorem YG {n m k X Y:V}{d e f:Int}(g:IsFace j n d)(h:IsFace j m e)(i:IsFace j k f)(r:dot n X=d)(t:dot m X=e)(u:dot k X=f)(v:(n,d)≠(m,e))(l:(n,d)≠(k,f))(o:(m,e)≠(k,f))(p:Y∈j)(ne:Y≠X):dot n Y<d\/dot m Y<e\/dot k Y<f:=by
 have q:=fW hs g h i r t u v l o;have a:=g.sup Y p;have b:=h.sup Y p;have c:=i.sup Y p;by_cases z:dot n Y<d\/dot m Y<e\/dot k Y<f
 .exact z
 .have s:∀{n:V} {d:Int},dot n X=d->dot n Y=d->dot n (Y-X)=0:=λ{n d} g h=>by
   have:dot n (Y-X)=dot n Y-dot n X:=by simp[dot];grind
   lia
  have:=R3 q (s r (by lia)) (s t (by lia)) (s u (by lia));exact absurd (by have g:=ip V.x this;have h:=ip V.y this;have i:=ip V.z this;simp at g h i;exact ext (by lia) (by lia) (by lia)) ne
end
section
theorem tK {E:V->V->Prop}(g:∀a b c,E a b->E a c->b=c){z:V}:∀(l h:List V) (a:V),(∀e∈j4 (a::l++[z]),E e.1 e.2)->(∀e∈j4 (a::h++[z]),E e.1 e.2)->z∉l->z∉h->l=h
 |[],[],_,_,_,_,_=>rfl
 |[],b::r,a,d,f,_,i=>absurd (g a z b (d (a,z) (by simp[j4])) (f (a,b) (by simp[j4]))) (λe=>i (by rw[e];exact .head _))
 |b::r,[],a,d,f,j,_=>absurd (g a z b (f (a,z) (by simp[j4])) (d (a,b) (by simp[j4]))) (λe=>j (by rw[e];exact .head _))
 |b::r,m::n,a,d,f,j,i=>by have e:=g a b m (d (a,b) (by simp[j4])) (f (a,m) (by simp[j4]));subst e;rw[tK g r n b (λe k=>d e (by simp only[aAG,j4];exact .tail _ k)) (λe k=>f e (by simp only[aAG,j4];exact .tail _ k)) (λq=>j (.tail _ q)) (λq=>i (.tail _ q))]
def TK {E:V->V->Prop}(f:∀a b c,E a b->E a c->b=c){a:V}{l d:List V}(g:(a::l).Nodup)(h:(a::d).Nodup)(e1:∀e∈z6 (a::l),E e.1 e.2)(e2:∀e∈z6 (a::d),E e.1 e.2):l=d:=by rw[Q6]at e1 e2;exact tK f l d a e1 e2 (aAF.mp g).1 (aAF.mp h).1
variable{j ri:List V} {n:V} {d:Int} {m:Mv}
end
section
variable{p o:List V} (hs:j8 o) (ho:o.Pairwise (λa b=>f9 (b-a))) (sub:∀X∈p,X∈o) (ex:∀Y∈o,Y∈p\/∃a∈p,∃b∈p,(2:Int)*Y=a+b)
include hs ho sub ex
end
section
variable{j c:List V} (hs:j8 j) (ho:j.Pairwise (λa b=>f9 (b-a))) (bo:c.Pairwise (λa b=>f9 (b-a))) (hc:∀X,X∈c↔∃f:V×Int,IsFace j f.1 f.2/\X∈c7 j f)
include hs ho bo hc
theorem gj {n:V}{d:Int}(f:IsFace j n d):c7 c (n,d)=c7 j (n,d):=by
 have S:=f.aa2 ho;have g:=(gQ hs ho bo hc f).aa2 bo;obtain⟨m,r,e,B,v⟩:=S.aa7;obtain⟨o,C,w,h,i⟩:=g.aa7;have k:=iS hs ho bo hc f (X:=m) (show m∈j6 n (n8 n d j)by rw[e];exact .head _);have em:o=m:=by
  rcases v o (YR hs ho bo hc h)with q|q
  .exact q
  .rcases i m k with z|z
   .exact z.symm
   .exact(oD q (by rw[t5];exact z)).elim
 subst em;have p:=S.aa3;have s:=g.aa3;have t:∀x∈z6 (j6 n<|n8 n d j),EdgeOf n (λX=>X∈n8 n d j) x.1 x.2:=λx l=>S.aa1.mp l;have u:∀x∈z6 (j6 n<|n8 n d c),EdgeOf n (λX=>X∈n8 n d j) x.1 x.2:=λx l=>nA hs ho bo hc f (g.aa1.mp l);show j6 n (n8 n d c)=j6 n (n8 n d j);rw[e]at p t⊢;rw[w]at s u⊢;rw[TK (E:=EdgeOf n (λX=>X∈n8 n d j)) (λa b c y A=>y.next A) p s t u]
end
def OW {n a b x:V}(d:n≠0)(e:dot n a=0)(f:dot n b=0)(nx:dot n x=0):i7 n a b*x=i7 n x b*a+i7 n a x*b:=by
 have z:=A3 d e f nx;have g:=ip (λt=>t*n.x) z;have h:=ip (λt=>t*n.y) z;have i:=ip (λt=>t*n.z) z;simp only[i7,dot,cr]at g h i;apply ext
 .simp[i7,dot];grind
 .simp[i7,dot];grind
 .simp[i7,dot];grind
def LG:∀ds:List V,∃w:V,∀v∈ds,f9 v->0<dot w v:=by
 intro ds;obtain⟨N,g⟩:∃N:Int,0<N/\∀v∈ds,-N<v.x/\v.x<N/\-N<v.y/\v.y<N/\-N<v.z/\v.z<N:=by
  induction ds with
  |nil=>exact⟨1,by decide,λv d=>nomatch d⟩
  |cons u ds i=>
   obtain⟨N,f,h⟩:=i;refine⟨N+u.x.natAbs+u.y.natAbs+u.z.natAbs+1,by lia,λv d=>?_⟩;rcases aAd.mp d with rfl|d
   .lia
   .have:=h v d;lia
 obtain⟨f,h⟩:=g;refine⟨⟨2*N*(2*N),2*N,1⟩,λv d p=>?_⟩;obtain⟨j,k,l,m,n,o⟩:=h v d;simp only[dot,aGh];unfold f9 at p;rcases p with p|⟨p,q|⟨q,r⟩⟩
 .have a:2*N*(2*N)*1<=2*N*(2*N)*v.x:=aAA (by lia) (aAS (by lia) (by lia));have b:2*N*(-N+1)<=2*N*v.y:=aAA (by lia) (by lia);have e:2*N*(-N+1)+2*N*(2*N)*1=2*(N*N)+2*N:=by grind
  have s:0<N*N:=aAD f f
  lia
 .rw[p,aBQ];have b:2*N*1<=2*N*v.y:=aAA (by lia) (by lia)
  lia
 .rw[p,q,aBQ,aBQ];lia
section
variable{j:List V} (hs:j8 j) (ho:j.Pairwise (λa b=>f9 (b-a)))
include hs ho
theorem fR {n:V}{d:Int}{P v Q:V}(b:IsFace j n d)(a:EdgeOf n (λX=>X∈n8 n d j) P v)(f:EdgeOf n (λX=>X∈n8 n d j) v Q):0<i7 n (Q-v) (P-v)/\∀x:V,dot n x=0->i7 n (Q-v) (P-v)*x=i7 n x (P-v)*(Q-v)+i7 n (Q-v) x*(P-v):=by
 have S:=b.aa2 ho;have g:P≠Q:=λe=>cH hs ho b a (e▸f);have on:∀{X:V},X∈n8 n d j->dot n (X-v)=0:=λh=>by rw[d9,(c6.mp h).2,(c6.mp a.q).2];lia
 refine⟨S.strict f (S.ab1 a) a.ne g,λx i=>OW b.prim.ne (on f.q) (on a.p) i⟩
theorem CP {n w:V}{d:Int}{P v Q:V}(i:IsFace j n d)(f:EdgeOf n (λX=>X∈n8 n d j) P v)(h:EdgeOf n (λX=>X∈n8 n d j) v Q)(p:0<=dot w (P-v))(q:0<=dot w (Q-v)){X:V}(g:X∈n8 n d j):0<=dot w (X-v):=by
 obtain⟨k,c⟩:=fR hs ho i f h;have e:=ip (dot w) (c (X-v) (by rw[d9,(c6.mp g).2,(c6.mp f.q).2];lia));rw[j1,A2,j1,j1]at e;have b:=h.left X g;have a:=f.left X g;have l:i7 n (X-v) (P-v)=i7 n (v-P) (X-P):=by simp[i7,dot];grind
 have u:=aAS (show 0<=i7 n (X-v) (P-v)by lia) q;have m:=aAS b p;by_cases z:0<=dot w (X-v)
 .exact z
 .have:=aAx k (show dot w (X-v)<0 by lia)
  lia
theorem GG {n w y:V}{d:Int}{P v Q:V}(C:IsFace j n d)(E:EdgeOf n (λX=>X∈n8 n d j) P v)(H:EdgeOf n (λX=>X∈n8 n d j) v Q)(I:dot n y=0)(J:y≠0)(L:dot w y=0)(i:0<=i7 n y (P-v))(l:0<=i7 n (Q-v) y)(N:dot w (P-v)≠0)(m:dot w (Q-v)≠0):(0<dot w (P-v)/\dot w (Q-v)<0)\/(dot w (P-v)<0/\0<dot w (Q-v)):=by
 obtain⟨D0,c⟩:=fR hs ho C E H;have a:=c y I;have e:=ip (dot w) a;rw[j1,A2,j1,j1,L,aBQ]at e;have o:¬(i7 n y (P-v)=0/\i7 n (Q-v) y=0):=λ⟨O,T⟩=>J (by rw[O,T]at a;have r:=ip V.x a;have s:=ip V.y a;have u:=ip V.z a;simp only[pG,qB,pI,NH,NO,QN,aGA,aGB]at r s u;have k:∀t:Int,i7 n (Q-v) (P-v)*t=0->t=0:=λt U=>(aAo.mp U).resolve_left (by lia);exact ext (k _ r) (k _ s) (k _ u))
 generalize i7 n y (P-v)=A at*
 generalize i7 n (Q-v) y=B at*
 generalize dot w (P-v)=p at*
 generalize dot w (Q-v)=q at*
 rcases aCw N with f|f
 .rcases aCw m with b|b
  .exfalso;have Y:A*q<=0:=aAt i (by lia);have u2:B*p<=0:=aAt l (by lia);have g:A=0:=by
    rcases aAo.mp (show A*q=0 by lia)with z|z
    .exact z
    .lia
   have h:B=0:=by
    rcases aAo.mp (show B*p=0 by lia)with z|z
    .exact z
    .lia
   exact o ⟨g,h⟩
  .exact .inr ⟨f,b⟩
 .rcases aCw m with b|b
  .exact .inl ⟨f,b⟩
  .exfalso;have Y:0<=A*q:=aAS i (by lia);have u2:0<=B*p:=aAS l (by lia);have g:A=0:=by
    rcases aAo.mp (show A*q=0 by lia)with z|z
    .exact z
    .lia
   have h:B=0:=by
    rcases aAo.mp (show B*p=0 by lia)with z|z
    .exact z
    .lia
   exact o ⟨g,h⟩
end
def OA {w a b d n1 n2 n:V}(t:w≠0)(a1:dot w a=0)(a2:dot w b=0)(a3:dot w d=0)(b1:dot n1 a=0)(b2:dot n2 b=0)(y:dot n d=0)(o:dot n1 b<0)(f:dot n1 d<0)(g:dot n2 a<0)(i:dot n2 d<0)(j:dot n a<0)(l:dot n b<0):False:=by
 have e:=OW t a1 a2 a3;have u:=ip (dot n1) e;have v:=ip (dot n2) e;have x:=ip (dot n) e;rw[j1,A2,j1,j1]at u v x;rw[b1]at u;rw[b2]at v;rw[y]at x;have p:a≠0:=λz=>by rw[z]at g;simp[dot]at g
 by_cases z:i7 w a b=0
 .have E:=X0 t a1 a2 z;obtain⟨k,m,H,q⟩:=B1 p E;have I:=ip (dot n1) q;rw[j1,j1,b1]at I;have:=aAx H o
  lia
 .generalize i7 w a b=A at*
  generalize i7 w d b=B at*
  generalize i7 w a d=C at*
  rcases aCw z with h|h
  .have J:=aBE h f;have L:=aBE h i;have r:C<0:=by
    by_cases q:C<0
    .exact q
    .have:=aAt (show 0<=C by lia) (show dot n1 b<=0 by lia);lia
   have s:B<0:=by
    by_cases q:B<0
    .exact q
    .have:=aAt (show 0<=B by lia) (show dot n2 a<=0 by lia);lia
   have:=aBE s j;have:=aBE r l
   lia
  .have J:=aAx h f;have L:=aAx h i;have r:0<C:=by
    by_cases q:0<C
    .exact q
    .have:=aDU (show C<=0 by lia) (show dot n1 b<=0 by lia);lia
   have s:0<B:=by
    by_cases q:0<B
    .exact q
    .have:=aDU (show B<=0 by lia) (show dot n2 a<=0 by lia);lia
   have:=aAx s j;have:=aAx r l
   lia
section
variable{j:List V} (hs:j8 j)
include hs
theorem HI {n w v A B:V}{d:Int}(k:IsFace j n d)(f:A∈n8 n d j)(g:B∈n8 n d j)(i:dot n v=d)(c:cr (A-v) (B-v)≠0)(a:0<dot w (A-v))(b:dot w (B-v)<0):∃y,dot w y=0/\dot n y=0/\∀m e,IsFace j m e->dot m v=e->(m,e)≠(n,d)->dot m y<0:=by
 have on:∀{X:V},X∈n8 n d j->dot n (X-v)=0:=λl=>by rw[d9,(c6.mp l).2,i];lia
 refine⟨(-dot w (B-v))*(A-v)+dot w (A-v)*(B-v),by rw[A2,j1,j1];grind,by rw[A2,j1,j1,on f,on g];simp,λm e h mv ne=>?_⟩;rw[A2,j1,j1];have o:dot m (A-v)<=0:=by have:=h.sup A (c6.mp f).1;rw[d9];lia
 have p:dot m (B-v)<=0:=by have:=h.sup B (c6.mp g).1;rw[d9];lia
 have x:=aAt (show 0<=-dot w (B-v)by lia) o;have C:=aAt (show 0<=dot w (A-v)by lia) p;by_cases z:dot m (A-v)=0/\dot m (B-v)=0
 .exfalso;have r:=D4 z.1 z.2;have s:=D4 (on f) (on g);exact ne (aW hs h k mv i<|iH c s r)
 .by_cases t:dot m (A-v)=0
  .have u:dot m (B-v)<0:=by
    have:dot m (B-v)≠0:=λq=>z ⟨t,q⟩
    lia
   have:=aAx a u
   lia
  .have:=aAx (show 0< -dot w (B-v)by lia) (show dot m (A-v)<0 by lia)
   lia
end
def kP (w:V)(j:List V)(v:V)(f:V×Int):Prop:=∃P Q,EdgeOf f.1 (λX=>X∈n8 f.1 f.2 j) P v/\EdgeOf f.1 (λX=>X∈n8 f.1 f.2 j) v Q/\((0<dot w (P-v)/\dot w (Q-v)<0)\/(dot w (P-v)<0/\0<dot w (Q-v)))
section
variable{j:List V} (hs:j8 j) (ho:j.Pairwise (λa b=>f9 (b-a)))
include hs ho
theorem kP.way {w v:V}{f:V×Int}(g:IsFace j f.1 f.2)(h:kP w j v f):dot f.1 v=f.2/\∃y,dot w y=0/\dot f.1 y=0/\∀m e,IsFace j m e->dot m v=e->(m,e)≠f->dot m y<0:=by
 obtain⟨P,Q,d,i,c⟩:=h;have k:=(c6.mp d.q).2;have l:=(fR hs ho g d i).1;have n:cr (Q-v) (P-v)≠0:=λz=>by unfold i7 at l;rw[z,D5]at l;lia
 have o:cr (P-v) (Q-v)≠0:=λz=>n (by have r:=ip V.x z;have s:=ip V.y z;have t:=ip V.z z;simp at r s t;apply ext<;>simp<;>grind)
 refine⟨k,?_⟩;rcases c with⟨a,b⟩|⟨a,b⟩
 .exact HI hs g d.p i.q k o a b
 .exact HI hs g i.q d.p k n b a
theorem XR {w v:V}{f g k:V×Int}(p:w≠0)(a:IsFace j f.1 f.2)(b:IsFace j g.1 g.2)(d:IsFace j k.1 k.2)(q:kP w j v f)(mg:kP w j v g)(mk:kP w j v k)(e:f≠g)(h:f≠k)(i:g≠k):False:=by obtain⟨v1,z,r,s,l⟩:=q.way hs ho a;obtain⟨m,A,t,u,n⟩:=mg.way hs ho b;obtain⟨v3,B,x,y,o⟩:=mk.way hs ho d;exact OA p r t x s u y (n _ _ a v1 e) (o _ _ a v1 h) (l _ _ b m e.symm) (o _ _ b m i) (l _ _ d v3 h.symm) (n _ _ d v3 i.symm)
end
theorem uN {α:Type}(a b:α->Int):∀l:List α,l≠[]->(∀x∈l,0<b x)->∃x∈l,∀y∈l,a x*b y<=a y*b x
 |[x],_,_=>⟨x,.head _,λy d=>by rw[aAN.mp d];exact aBJ _⟩
 |x::z::l,_,h=>by
  obtain⟨u,e,m⟩:=uN a b (z::l) (by simp) λy d=>h y (.tail _ d);by_cases q:a x*b u<=a u*b x
  .refine⟨x,.head _,λy d=>?_⟩;rcases aAd.mp d with rfl|d
   .exact aBJ _
   .have g:=aAR q (aAH<|h y<|.tail _ d);have i:=aAR (m y d) (aAH<|h x<|.head _);have f:b u*(a x*b y)<=b u*(a y*b x):=by
     have j:b u*(a x*b y)=a x*b u*b y:=by grind
     have k:b u*(a y*b x)=a y*b u*b x:=by grind
     have n:a u*b x*b y=a u*b y*b x:=by grind
     lia
    exact aDI f (h u<|.tail _ e)
  .refine⟨u,.tail _ e,λy d=>?_⟩;rcases aAd.mp d with rfl|d
   .lia
   .exact m y d
section
variable{j:List V} (hs:j8 j) (ho:j.Pairwise (λa b=>f9 (b-a)))
include hs ho
theorem CL {v:V}(r:∃f:V×Int,IsFace j f.1 f.2/\v∈c7 j f){n:V}{d:Int}(s:IsFace j n d)(e:dot n v=d):v∈c7 j (n,d):=by
 obtain⟨f,h,o⟩:=r;obtain⟨i,l,p,q,t,u,w,x,y,z⟩:=K5 hs ho h o;have A:=(c6.mp<|(h.aa2 ho).aa4 o).1;refine(s.aa2 ho).top (m:=f.1+i.1+l.1) (c6.mpr ⟨A,e⟩) λY g ne=>?_;have g:=(c6.mp g).1;have a:=h.sup Y g;have b:=p.sup Y g;have c:=q.sup Y g;have k:=YG hs ho h p q x y z t u w g ne;have ad:∀Z:V,dot (f.1+i.1+l.1) Z=dot f.1 Z+dot i.1 Z+dot l.1 Z:=λZ=>by simp[dot];grind
 rw[ad,ad]
 lia
theorem fy {w v y:V}{g:V×Int}(hc:∃f:V×Int,IsFace j f.1 f.2/\v∈c7 j f)(i:∀X∈j,X≠v->dot w (X-v)≠0)(h:IsFace j g.1 g.2)(o:dot g.1 v=g.2)(u:dot g.1 y=0)(wy:dot w y=0)(y0:y≠0)(C:∀m e,IsFace j m e->dot m v=e->dot m y<=0):kP w j v g:=by
 have S:=h.aa2 ho;have E:=CL hs ho hc h o;obtain⟨Q,hQ⟩:=U3 S E;obtain⟨P,hP⟩:=qC S (l:=j6 g.1 (n8 g.1 g.2 j)) E;have b:=S.aa1.mp hQ;have d:=S.aa1.mp hP;obtain⟨k,c⟩:=fR hs ho h d b;have H:=c y u;have a:∀{A B:V} {m:V} {e:Int},IsFace j m e->dot m A=e->dot m v=e->(m,e)≠g->A∈n8 g.1 g.2 j->B∈n8 g.1 g.2 j->cr (A-v) (B-v)≠0->dot m (A-v)=0/\dot m (B-v)<0:=λ{A B m e} I mA mv ne hA J cn=>by
  have n:dot m (A-v)=0:=by rw[d9];lia
  refine⟨n,?_⟩;have mB:dot m (B-v)<=0:=by have:=I.sup B (c6.mp J).1;rw[d9];lia
  by_cases r:dot m (B-v)=0
  .exfalso;have on:∀{X:V},X∈n8 g.1 g.2 j->dot g.1 (X-v)=0:=λhX=>by rw[d9,(c6.mp hX).2,o];lia
   exact ne (aW hs I h mv o<|iH cn (D4 (on hA)<|on J)<|D4 n r)
  .lia
 have L:cr (Q-v) (P-v)≠0:=λz=>by unfold i7 at k;rw[z,D5]at k;lia
 have c2:cr (P-v) (Q-v)≠0:=λz=>L (by have x1:=ip V.x z;have x2:=ip V.y z;have x3:=ip V.z z;simp at x1 x2 x3;apply ext<;>simp<;>grind)
 obtain⟨N,e1,O,s,p1,v1⟩:=oQ hs ho h d;obtain⟨T,e2,U,t,Y,q2⟩:=oQ hs ho h b;obtain⟨n,l1⟩:=a O p1 v1 (λq=>s q.symm) d.p b.q c2;obtain⟨r,l2⟩:=a U q2 Y (λq=>t q.symm) b.q d.p L;have k1:=ip (dot N) H;have k2:=ip (dot T) H;rw[j1,A2,j1,j1]at k1 k2;rw[n,aBQ,aGB]at k1;rw[r,aBQ,Int.zero_add]at k2;have y1:=C N e1 O v1;have y2:=C T e2 U Y;have A:0<=i7 g.1 y (P-v):=by
  by_cases q:0<=i7 g.1 y (P-v)
  .exact q
  .have u1:=aBE (show i7 g.1 y (P-v)<0 by lia) l1;have u2:=aAt (aAH k) y1
   lia
 have B:0<=i7 g.1 (Q-v) y:=by
  by_cases q:0<=i7 g.1 (Q-v) y
  .exact q
  .have u1:=aBE (show i7 g.1 (Q-v) y<0 by lia) l2;have u2:=aAt (aAH k) y2
   lia
 exact⟨P,Q,d,b,GG hs ho h d b u y0 wy A B (i P (c6.mp d.p).1 d.ne) (i Q (c6.mp b.q).1 (aCa b.ne))⟩
theorem VH {w v p r:V}(w0:w≠0){fs:List (V×Int)}(o:∀f,f∈fs↔IsFace j f.1 f.2)(hc:∃f:V×Int,IsFace j f.1 f.2/\v∈c7 j f)(Q:∀X∈j,X≠v->dot w (X-v)≠0)(h1:p∈j)(h2:r∈j)(a:0<dot w (p-v))(b:dot w (r-v)<0):∃g∈fs,kP w j v g:=by
 obtain⟨f,L,hr⟩:=id hc;obtain⟨g1,g2,f1,f2,n1,n2,n3,x1,x2,x3⟩:=K5 hs ho L hr;have T:=fW hs L f1 f2 x1 x2 x3 n1 n2 n3;obtain⟨d,B⟩:∃y,y=(-dot w (r-v))*(p-v)+dot w (p-v)*(r-v):=⟨_,rfl⟩;have wy:dot w d=0:=by rw[B,A2,j1,j1];grind
 have up:∀{m:V} {e:Int},IsFace j m e->dot m v=e->dot m d<=0:=λ{m e} E mv=>by
  rw[B,A2,j1,j1];have mA:dot m (p-v)<=0:=by have:=E.sup p h1;rw[d9];lia
  have mB:dot m (r-v)<=0:=by have:=E.sup r h2;rw[d9];lia
  have u1:=aAt (show 0<=-dot w (r-v)by lia) mA;have u2:=aAt (show 0<=dot w (p-v)by lia) mB
  lia
 have H:d≠0:=λz=>by
  have e:=rH hs ho L hr h1 h2 (a:=-dot w (r-v)) (b:=dot w (p-v)) (by lia) a (by
   rw[z]at B;have A:=ip V.x B;have N:=ip V.y B;have O:=ip V.z B;simp only[NH,NO,QN,pG,qB,pI,ID,IW,HN]at A N O;have z1:(0:V).x=0:=rfl;have z2:(0:V).y=0:=rfl;have z3:(0:V).z=0:=rfl;apply ext
   .simp only[NH,pG];grind
   .simp only[NO,qB];grind
   .simp only[QN,pI];grind)
  rw[e,v5,D5]at a;lia
 obtain⟨i,U⟩:∃t,t=cr w d:=⟨_,rfl⟩;have Y:dot w i=0:=by rw[U];simp[dot];grind
 have yt:dot d i=0:=by rw[U];simp[dot];grind
 have tne:i≠0:=λz=>by
  rw[U]at z;obtain⟨k,m,hk,q⟩:=B1 w0 z;have A:=ip (dot w) q;rw[j1,j1,wy,aBQ]at A;have ww:=n9 w0;rcases aAo.mp A.symm with s|s
  .rw[s]at q;have p1:=ip V.x q;have p2:=ip V.y q;have p3:=ip V.z q;simp only[pG,qB,pI,aGA]at p1 p2 p3;have kk:∀t:Int,k*t=0->t=0:=λt ht=>(aAo.mp ht).resolve_left (by lia);exact H (ext (kk _ p1) (kk _ p2) (kk _ p3))
  .lia
 have some:∃t,dot w t=0/\dot d t=0/\∃h:V×Int,IsFace j h.1 h.2/\dot h.1 v=h.2/\0<dot h.1 t:=by
  have n:∀{h:V×Int},IsFace j h.1 h.2->dot h.1 v=h.2->dot h.1 i≠0->∃t,dot w t=0/\dot d t=0/\∃h:V×Int,IsFace j h.1 h.2/\dot h.1 v=h.2/\0<dot h.1 t:=λ{h} C hv q=>by
   have ng:∀u:V,dot u (-i)=-dot u i:=λu=>by simp[dot];grind
   rcases aCw q with l|l
   .exact⟨-i,by rw[ng];lia,by rw[ng];lia,h,C,hv,by rw[ng];lia⟩
   .exact⟨i,Y,yt,h,C,hv,l⟩
  by_cases A:dot f.1 i=0
  .by_cases N:dot g1.1 i=0
   .by_cases O:dot g2.1 i=0
    .exact absurd (R3 T A N O) tne
    .exact n f2 x3 O
   .exact n f1 x2 N
  .exact n L x1 A
 obtain⟨t,Y,yt,h0,hh0,hv0,ht0⟩:=some;obtain⟨h,E,mn⟩:=uN (λh:V×Int=>-dot h.1 d) (λh=>dot h.1 t) (fs.filter λh=>decide (dot h.1 v=h.2)&&decide (0<dot h.1 t)) (λz=>by
  have:h0∈fs.filter λh=>decide (dot h.1 v=h.2)&&decide (0<dot h.1 t):=aAU.mpr ⟨(o h0).mpr hh0,by simp[hv0,ht0]⟩;rw[z]at this;cases this) λx hx=>by have:=(aAU.mp hx).2;simp at this;exact this.2
 have C:=(o h).mp (aAU.mp E).1;have I:=(aAU.mp E).2;simp only[aAQ,decide_eq_true_eq]at I;refine⟨h,(o h).mpr C,fy hs ho hc Q C I.1 (y:=dot h.1 t*d+(-dot h.1 d)*t) (by rw[A2,j1,j1];grind) (by rw[A2,j1,j1,wy,Y];simp) (λz=>?_) λm e J mv=>?_⟩
 .have q:=ip (dot d) z;rw[A2,j1,j1,yt,D5,aBQ,aGB]at q;have yy:=n9 H;have:=aAD I.2 yy
  lia
 .rw[A2,j1,j1];have u:=up J mv;have un:=up C I.1;by_cases l:0<dot m t
  .have k:=mn (m,e) (aAU.mpr ⟨(o (m,e)).mpr J,by simp[mv,l]⟩);dsimp only at k;have e1:-dot m d*dot h.1 t=-(dot h.1 t*dot m d):=by grind
   lia
  .have k1:=aAt (aAH I.2) u;have k2:=aAt (show 0<=-dot h.1 d by lia) (show dot m t<=0 by lia)
   lia
end
section
open Classical
def cnt {α:Type} (p:α->Prop) (l:List α):Nat:=(l.filter λy=>decide (p y)).length
def V6 {α:Type}{p q:α->Prop}{l:List α}(h:∀x∈l,p x↔q x):cnt p l=cnt q l:=by unfold cnt;rw[List.filter_congr λx a=>decide_eq_decide.mpr (h x a)]
def WU {α:Type}{p:α->Prop}{l:List α}(h:∀x∈l,p x):cnt p l=l.length:=by unfold cnt;rw[List.filter_eq_self.mpr λx a=>decide_eq_true (h x a)]
def jy {α:Type}{p:α->Prop}{l:List α}(h:∀x∈l,¬p x):cnt p l=0:=by unfold cnt;rw[List.filter_eq_nil_iff.mpr λx a=>by rw[decide_eq_true_eq];exact h x a];rfl
def oN {α:Type}{l:List α}{p:α->Prop}{x:α}(e:l.Nodup)(f:x∈l)(g:p x)(u:∀y∈l,p y->y=x):cnt p l=1:=by
 have sub:∀y,y∈l.filter (λy=>decide (p y))↔y∈[x]:=λy=>by rw[aAU,aAN,decide_eq_true_eq];exact⟨λh=>u y h.1 h.2,λh=>by rw[h];exact⟨f,g⟩⟩
 have a:=u6 (e.sublist aBp) (m:=[x]) λy d=>(sub y).mp d;have b:=u6 (l:=[x]) (by simp) (m:=l.filter λy=>decide (p y)) λy d=>(sub y).mpr d;rw[aFJ]at a b;unfold cnt
 lia
def cnt_cons {α:Type}{p:α->Prop}(x:α)(l:List α):cnt p (x::l)=(if p x then 1 else 0)+cnt p l:=by
 unfold cnt;by_cases h:p x
 .rw[aDe (by rw[decide_eq_true_eq];exact h),hV h,aAp];lia
 .rw[aDf (by rw[decide_eq_true_eq];exact h),h9 h];lia
theorem bC {α:Type}{p q:α->Prop}:∀l:List α,cnt p l=cnt (λy=>p y/\q y) l+cnt (λy=>p y/\¬q y) l
 |[]=>rfl
 |x::l=>by
  have d:=bC (p:=p) (q:=q) l;rw[cnt_cons,cnt_cons,cnt_cons,d];by_cases a:p x
  .by_cases b:q x
   .simp[a,b];lia
   .simp[a,b];lia
  .simp[a]
theorem pT (h:V->Int):∀l:List V,l≠[]->∃x∈l,∀y∈l,h y<=h x
 |[x],_=>⟨x,.head _,λy a=>by rw[aAN.mp a];exact aBJ _⟩
 |x::z::l,_=>by
  obtain⟨u,b,m⟩:=pT h (z::l) (by simp);by_cases q:h u<=h x
  .refine⟨x,.head _,λy a=>?_⟩;rcases aAd.mp a with rfl|a
   .exact aBJ _
   .have:=m y a;lia
  .refine⟨u,.tail _ b,λy a=>?_⟩;rcases aAd.mp a with rfl|a
   .lia
   .exact m y a
def LA {α β:Type}(R:α->β->Prop)(e:List α):∀bs:List β,(e.map λa=>cnt (R a) bs).sum=(bs.map λb=>cnt (λa=>R a b) e).sum:=by
 intro bs;induction e with
 |nil=>
  induction bs with
  |nil=>rfl
  |cons b bs d=>rw[aAi,aAJ,<-d];rfl
 |cons a e d=>
  rw[aAi,aAJ,d];clear d;induction bs with
  |nil=>rfl
  |cons b bs d=>
   simp only[aAi,aAJ,cnt_cons]at d⊢
   lia
def Nu (w:V)(j:List V)(v:V)(f:V×Int):Prop:=∃Q,EdgeOf f.1 (λX=>X∈n8 f.1 f.2 j) v Q/\0<dot w (Q-v)
def Pu (w:V)(j:List V)(v:V)(f:V×Int):Prop:=∃P,EdgeOf f.1 (λX=>X∈n8 f.1 f.2 j) P v/\0<dot w (P-v)
structure Hgt (w:V)(j:List V):Prop where
 ne:w≠0
 inj:∀X∈j,∀Y∈j,X≠Y->dot w (X-Y)≠0
section
variable{j:List V} {w:V} (hs:j8 j) (ho:j.Pairwise (λa b=>f9 (b-a))) (hw:Hgt w j)
include hs ho hw
theorem aQ {f:V×Int}(h:IsFace j f.1 f.2){v:V}(d:v∈c7 j f):∃P Q,EdgeOf f.1 (λX=>X∈n8 f.1 f.2 j) P v/\EdgeOf f.1 (λX=>X∈n8 f.1 f.2 j) v Q/\(Nu w j v f↔0<dot w (Q-v))/\(Pu w j v f↔0<dot w (P-v))/\dot w (P-v)≠0/\dot w (Q-v)≠0:=by have S:=h.aa2 ho;obtain⟨Q,i⟩:=U3 S d;obtain⟨P,k⟩:=qC S (l:=j6 f.1 (n8 f.1 f.2 j)) d;have b:=S.aa1.mp i;have a:=S.aa1.mp k;have g:=(c6.mp a.q).1;refine⟨P,Q,a,b,⟨λ⟨n,e,l⟩=>by rw[<-e.next b];exact l,λl=>⟨Q,b,l⟩⟩,⟨λ⟨m,e,l⟩=>?_,λl=>⟨P,a,l⟩⟩,hw.inj P (c6.mp a.p).1 v g a.ne,hw.inj Q (c6.mp b.q).1 v g (aCa b.ne)⟩;have:m=P:=e.prev a;rw[<-this];exact l
theorem jE {f:V×Int}(d:IsFace j f.1 f.2){v:V}(e:v∈c7 j f):kP w j v f↔(Nu w j v f↔¬Pu w j v f):=by
 obtain⟨P,Q,a,b,n,p,i,k⟩:=aQ hs ho hw d e;rw[n,p];constructor
 .rintro⟨l,m,g,h,c⟩;rw[g.prev a,h.next b]at c
  lia
 .intro c;exact⟨P,Q,a,b,by lia⟩
theorem DP {f:V×Int}(d:IsFace j f.1 f.2):(c7 j f).length=2+cnt (λv=>kP w j v f) (c7 j f):=by
 have S:=d.aa2 ho;have H:(c7 j f).Nodup:=S.aa3;obtain⟨J,L,N,_,_⟩:=S.aa7;have ne:c7 j f≠[]:=λz=>by rw[show c7 j f=J::L from N]at z;cases z
 have sub:∀v∈c7 j f,v∈n8 f.1 f.2 j:=λv o=>S.aa4 o;have m:∀X Y:V,dot w (X-Y)=dot w X-dot w Y:=λX Y=>d9 ..;have t:∀X Y:V,dot (-w) (X-Y)=-dot w (X-Y):=λX Y=>by simp[dot];grind
 obtain⟨a,r,u⟩:=pT (λv=>-dot w v) _ ne;obtain⟨b,s,A⟩:=pT (λv=>dot w v) _ ne;have O:cnt (λv=>Nu w j v f/\Pu w j v f) (c7 j f)=1:=by
  refine oN H r ?_ λy g z=>?_
  .obtain⟨P,Q,i,l,n,p,B,C⟩:=aQ hs ho hw d r;have T:=u P (S.ab1 i);have E:=u Q (fP S<|S.aa1.mpr l).2;rw[n,p];have:=m P a;have:=m Q a
   lia
  .obtain⟨P,Q,i,l,n,p,B,C⟩:=aQ hs ho hw d g;have k:=CP hs ho d i l (w:=w) (by have:=p.mp z.2;lia) (by have:=n.mp z.1;lia) (sub a r);have E:=u y g;by_cases e:y=a
   .exact e
   .have:=hw.inj a (c6.mp<|sub a r).1 y (c6.mp<|sub y g).1 (aCa e);have:=m a y
    lia
 have I:cnt (λv=>¬Nu w j v f/\¬Pu w j v f) (c7 j f)=1:=by
  refine oN H s ?_ λy g z=>?_
  .obtain⟨P,Q,i,l,n,p,B,C⟩:=aQ hs ho hw d s;have T:=A P (S.ab1 i);have E:=A Q (fP S<|S.aa1.mpr l).2;rw[n,p];have:=m P b;have:=m Q b
   lia
  .obtain⟨P,Q,i,l,n,p,B,C⟩:=aQ hs ho hw d g;rw[n,p]at z;have k:=CP hs ho d i l (w:=-w) (by rw[t];lia) (by rw[t];lia) (sub b s);rw[t]at k;have E:=A y g;by_cases e:y=b
   .exact e
   .have:=hw.inj b (c6.mp<|sub b s).1 y (c6.mp<|sub y g).1 (aCa e);have:=m b y
    lia
 have U:=bC (p:=λv=>True) (q:=λv=>kP w j v f) (c7 j f);have c2:=bC (p:=λv=>True/\¬kP w j v f) (q:=λv=>Nu w j v f) (c7 j f);have e0:cnt (λ_=>True) (c7 j f)=(c7 j f).length:=WU λ_ _=>trivial;have e1:cnt (λy=>True/\kP w j y f) (c7 j f)=cnt (λv=>kP w j v f) (c7 j f):=V6 λv _=>⟨λh=>h.2,λh=>⟨trivial,h⟩⟩;have e2:cnt (λy=>(True/\¬kP w j y f)/\Nu w j y f) (c7 j f)=cnt (λv=>Nu w j v f/\Pu w j v f) (c7 j f):=V6 λv o=>by rw[jE hs ho hw d o];by_cases x:Nu w j v f<;>by_cases y:Pu w j v f<;>simp[x,y]
 have e3:cnt (λy=>(True/\¬kP w j y f)/\¬Nu w j y f) (c7 j f)=cnt (λv=>¬Nu w j v f/\¬Pu w j v f) (c7 j f):=V6 λv o=>by rw[jE hs ho hw d o];by_cases x:Nu w j v f<;>by_cases y:Pu w j v f<;>simp[x,y]
 lia
omit hs ho hw in
theorem GZ {α β:Type}(T:α->β->Prop){l:List α}{m:List β}(f:l.Nodup)(h:∀a∈l,∃b∈m,T a b)(inj:∀a∈l,∀o∈l,∀b,T a b->T o b->a=o):l.length<=m.length:=by
 match l,f,h,inj with
 |[],_,_,_=>exact aAX _
 |x::l,f,h,inj=>
  obtain⟨p,_,_⟩:=h x (.head _)
  let φ:α->β:=λa=>if q:∃b∈m,T a b then q.choose else p
  have g:∀a∈x::l,φ a∈m/\T a (φ a):=λa i=>by have q:=h a i;have e:φ a=q.choose:=dif_pos q;rw[e];exact q.choose_spec
  have r:((x::l).map φ).Nodup:=by
   have n:∀k:List α,(∀a∈k,a∈x::l)->k.Nodup->(k.map φ).Nodup:=λk=>by
    induction k with
    |nil=>intro _ _;exact .nil
    |cons a k s=>intro sub t;obtain⟨u,v⟩:=aAF.mp t;refine aAF.mpr ⟨λz=>?_,s (λb d=>sub b (.tail _ d)) v⟩;obtain⟨b,d,e⟩:=aAk.mp z;have:=inj a (sub a<|.head _) b (sub b<|.tail _ d) (φ a) (g a<|sub a<|.head _).2 (by rw[<-e];exact(g b<|sub b<|.tail _ d).2);exact u (this▸d)
   exact n _ (λ_ h=>h) f
  have:=u6 r (m:=m) λb d=>by obtain⟨a,i,rfl⟩:=aAk.mp d;exact(g a i).1
  rw[aAf]at this;exact this
theorem AG {f:V×Int}(a:IsFace j f.1 f.2){P Q:V}(h:EdgeOf f.1 (λX=>X∈n8 f.1 f.2 j) P Q):P∈c7 j f/\Q∈c7 j f:=by have S:=a.aa2 ho;exact fP S (S.aa1.mpr h)
theorem sZ {f g:V×Int}(a:IsFace j f.1 f.2)(b:IsFace j g.1 g.2){P Q:V}(d:EdgeOf f.1 (λX=>X∈n8 f.1 f.2 j) P Q)(e:EdgeOf g.1 (λX=>X∈n8 g.1 g.2 j) P Q):f=g:=CK hs ho a b ((a.aa2 ho).aa1.mpr d) ((b.aa2 ho).aa1.mpr e)
theorem a2k {fs:List (V×Int)}(u:fs.Nodup)(d:∀f,f∈fs↔IsFace j f.1 f.2)(v:V):cnt (λf=>v∈c7 j f/\Nu w j v f) fs=cnt (λf=>v∈c7 j f/\Pu w j v f) fs:=by
 have h:∀{p:V×Int->Prop} {f:V×Int},f∈fs.filter (λy=>decide (p y))↔f∈fs/\p f:=λ{p f}=>by rw[aAU,decide_eq_true_eq]
 unfold cnt;refine aFK ?_ ?_
 .refine GZ (λf g=>∃Q,EdgeOf f.1 (λX=>X∈n8 f.1 f.2 j) v Q/\EdgeOf g.1 (λX=>X∈n8 g.1 g.2 j) Q v/\IsFace j g.1 g.2) (u.sublist aBp) (λf i=>?_) λf i o k g ⟨Q,a,b,_⟩ ⟨q,r,s,_⟩=>?_
  .obtain⟨t,x,Q,e,l⟩:=h.mp i;obtain⟨m,n⟩:=aG hs ho ((d f).mp t) e;exact⟨_,h.mpr ⟨(d _).mpr m,(AG hs ho hw m n).2,Q,n,l⟩,Q,e,n,m⟩
  .have:Q=q:=b.prev s;subst this;exact sZ hs ho hw ((d f).mp (h.mp i).1) ((d o).mp (h.mp k).1) a r
 .refine GZ (λf g=>∃P,EdgeOf f.1 (λX=>X∈n8 f.1 f.2 j) P v/\EdgeOf g.1 (λX=>X∈n8 g.1 g.2 j) v P/\IsFace j g.1 g.2) (u.sublist aBp) (λf i=>?_) λf i o k g ⟨Q,a,b,_⟩ ⟨q,r,s,_⟩=>?_
  .obtain⟨t,x,P,e,l⟩:=h.mp i;obtain⟨m,n⟩:=aG hs ho ((d f).mp t) e;exact⟨_,h.mpr ⟨(d _).mpr m,(AG hs ho hw m n).1,P,n,l⟩,P,e,n,m⟩
  .have:Q=q:=b.next s;subst this;exact sZ hs ho hw ((d f).mp (h.mp i).1) ((d o).mp (h.mp k).1) a r
omit hs ho hw in
theorem XG {α:Type}{p:α->Prop}{l:List α}(i:l.Nodup)(h:∀a∈l,∀b∈l,∀c∈l,p a->p b->p c->a≠b->a≠c->b≠c->False):cnt p l<=2:=by
 have f:∀k:List α,k.Nodup->(∀a∈k,a∈l/\p a)->k.length<=2:=λk d e=>by
  match k,d,e with
  |[],_,_=>simp
  |[_],_,_=>simp
  |[_,_],_,_=>simp
  |a::b::c::k,d,e=>
   exfalso;obtain⟨m,n⟩:=e a (by simp);obtain⟨o,q⟩:=e b (by simp);obtain⟨r,s⟩:=e c (by simp);refine h a m b o c r n q s ?_ ?_ ?_
   .rintro rfl;simp at d
   .rintro rfl;simp at d
   .rintro rfl;simp at d
 exact f _ (i.sublist aBp) λa g=>by rw[aAU,decide_eq_true_eq]at g;exact g
omit hs ho hw in
theorem XU {α:Type}{p:α->Prop}{l:List α}{x:α}(b:x∈l)(d:p x):1<=cnt p l:=aDl (a:=x) (aAU.mpr ⟨b,decide_eq_true d⟩)
theorem DY {fs:List (V×Int)}(n:fs.Nodup)(d:∀f,f∈fs↔IsFace j f.1 f.2){v o r:V}(s:∃f:V×Int,IsFace j f.1 f.2/\v∈c7 j f)(t:o∈j)(u:r∈j)(a:0<dot w (o-v))(b:dot w (r-v)<0):cnt (λf=>v∈c7 j f/\kP w j v f) fs=2:=by
 have z:v∈j:=by obtain⟨f,i,A⟩:=s;exact(c6.mp<|(i.aa2 ho).aa4 A).1
 have e:=a2k hs ho hw n d v;have O:=bC (p:=λf=>v∈c7 j f/\Nu w j v f) (q:=λf=>Pu w j v f) fs;have T:=bC (p:=λf=>v∈c7 j f/\Pu w j v f) (q:=λf=>Nu w j v f) fs;have U:=bC (p:=λf=>v∈c7 j f/\kP w j v f) (q:=λf=>Nu w j v f) fs;have Y:cnt (λf=>(v∈c7 j f/\Nu w j v f)/\Pu w j v f) fs=cnt (λf=>(v∈c7 j f/\Pu w j v f)/\Nu w j v f) fs:=V6 λf _=>⟨λh=>⟨⟨h.1.1,h.2⟩,h.1.2⟩,λh=>⟨⟨h.1.1,h.2⟩,h.1.2⟩⟩;have e2:cnt (λf=>(v∈c7 j f/\kP w j v f)/\Nu w j v f) fs=cnt (λf=>(v∈c7 j f/\Nu w j v f)/\¬Pu w j v f) fs:=V6 λf i=>by
  by_cases q:v∈c7 j f
  .rw[jE hs ho hw ((d f).mp i) q];by_cases x:Nu w j v f<;>by_cases y:Pu w j v f<;>simp[x,y,q]
  .simp[q]
 have e3:cnt (λf=>(v∈c7 j f/\kP w j v f)/\¬Nu w j v f) fs=cnt (λf=>(v∈c7 j f/\Pu w j v f)/\¬Nu w j v f) fs:=V6 λf i=>by
  by_cases q:v∈c7 j f
  .rw[jE hs ho hw ((d f).mp i) q];by_cases x:Nu w j v f<;>by_cases y:Pu w j v f<;>simp[x,y,q]
  .simp[q]
 have le:cnt (λf=>v∈c7 j f/\kP w j v f) fs<=2:=XG n λf i g l k B C E H I J L=>XR hs ho hw.ne ((d f).mp i) ((d g).mp l) ((d k).mp B) C.2 E.2 H.2 I J L;have ge:1<=cnt (λf=>v∈c7 j f/\kP w j v f) fs:=by obtain⟨g,l,m⟩:=VH hs ho hw.ne d s (λX N ne=>hw.inj X N v z ne) t u a b;obtain⟨P,Q,p,q,_⟩:=id m;exact XU l ⟨(AG hs ho hw ((d g).mp l) p).2,m⟩
 lia
end
end
section
open Classical
def YA {α:Type}{p:α->Prop}{l m:List α}(f:l.Nodup)(g:m.Nodup)(sub:∀x∈l,x∈m):cnt p l=cnt (λx=>x∈l/\p x) m:=by
 have a:∀{q:α->Prop} {k:List α} {x:α},x∈k.filter (λy=>decide (q y))↔x∈k/\q x:=λ{q k x}=>by rw[aAU,decide_eq_true_eq]
 unfold cnt;refine aFK (u6 (f.sublist aBp) λx d=>?_) (u6 (g.sublist aBp) λx d=>?_)
 .obtain⟨b,e⟩:=a.mp d;exact a.mpr ⟨sub x b,b,e⟩
 .obtain⟨_,b,e⟩:=a.mp d;exact a.mpr ⟨b,e⟩
theorem JF {α:Type}(g:α->Nat)(p:α->Prop):∀l:List α,(∀x∈l,p x->g x=0)->(∀x∈l,¬p x->g x=2)->(l.map g).sum+2*cnt p l=2*l.length
 |[],_,_=>rfl
 |x::l,b,d=>by
  have e:=JF g p l (λy a=>b y (.tail _ a)) λy a=>d y (.tail _ a);rw[aAi,aAJ,cnt_cons,aAp];by_cases q:p x
  .rw[b x (.head _) q,hV q];lia
  .rw[d x (.head _) q,h9 q];lia
def gq (j:List V)(d:j8 j):∃w,Hgt w j:=by
 obtain⟨w,h⟩:=LG (j.flatMap λX=>j.map λY=>X-Y);have k:∀X∈j,∀Y∈j,f9 (X-Y)->0<dot w (X-Y):=λX a Y b p=>h _ (aBl.mpr ⟨X,a,aBL b⟩) p;have inj:∀X∈j,∀Y∈j,X≠Y->dot w (X-Y)≠0:=λX a Y b ne=>by
  have l:dot w (X-Y)=-dot w (Y-X):=by simp[dot];grind
  rcases L8 X Y with e|e|e
  .exact absurd e ne
  .have:=k X a Y b e;lia
  .have:=k Y b X a e;lia
 refine⟨w,λz=>?_,inj⟩;obtain⟨A,f,B,g,C,m,E,n,e⟩:=d;have i:B≠A:=λq=>e (by rw[q,v5];simp[i7,dot]);exact inj B g A f i (by rw[z];simp[dot])
variable{j:List V} (hs:j8 j) (ho:j.Pairwise (λa b=>f9 (b-a)))
include hs ho
theorem KL {fs:List (V×Int)}(U:fs.Nodup)(d:∀f,f∈fs↔IsFace j f.1 f.2)(ne:fs≠[]){c:List V}(nc:c.Nodup)(J:∀X,X∈c↔∃f:V×Int,IsFace j f.1 f.2/\X∈c7 j f):(fs.map λf=>(c7 j f).length).sum+4=2*fs.length+2*c.length:=by
 obtain⟨w,B⟩:=gq j hs;have E:∀X∈c,X∈j:=λX hX=>by obtain⟨f,A,hr⟩:=(J X).mp hX;exact(c6.mp<|(A.aa2 ho).aa4 hr).1
 have I:∀X Y:V,dot w (X-Y)=dot w X-dot w Y:=λX Y=>d9 ..;obtain⟨o,hf0⟩:∃o,o∈fs:=by
  match fs,ne with
  |f::_,_=>exact⟨f,.head _⟩
 have C:=(d o).mp hf0;obtain⟨r,s,t,l,er⟩:=C7 ho C;have L:r∈c:=(J r).mpr ⟨o,C,by show r∈j6 o.1 (n8 o.1 o.2 j);rw[er];simp⟩;have sc:s∈c:=(J s).mpr ⟨o,C,by show s∈j6 o.1 (n8 o.1 o.2 j);rw[er];simp⟩;have rs:r≠s:=λq=>by have:=(C.aa2 ho).aa3;rw[er,q]at this;simp at this
 have cne:c≠[]:=λz=>by rw[z]at L;cases L
 obtain⟨a,ha,N⟩:=pT (λv=>-dot w v) c cne;obtain⟨b,hb,O⟩:=pT (λv=>dot w v) c cne;have ab:a≠b:=λq=>by
  have e:∀x∈c,dot w x=dot w a:=λx u=>by
   have:=N x u;have:=O x u;rw[<-q]at this
   lia
  exact B.inj r (E r L) s (E s sc) rs (by rw[I,e r L,e s sc];lia)
 have ur:∀f∈fs,∀x∈c7 j f,x∈c:=λf A x u=>(J x).mpr ⟨f,(d f).mp A,u⟩;have s1:(fs.map λf=>(c7 j f).length).sum=2*fs.length+(fs.map λf=>cnt (λv=>v∈c7 j f/\kP w j v f) c).sum:=by
  have key:∀H:List (V×Int),(∀f∈H,f∈fs)->(H.map λf=>(c7 j f).length).sum=2*H.length+(H.map λf=>cnt (λv=>v∈c7 j f/\kP w j v f) c).sum:=λH=>by
   induction H with
   |nil=>intro _;rfl
   |cons f H ih=>
    intro h;have i:=ih λg hg=>h g (.tail _ hg);have A:=(d f).mp (h f<|.head _);have k:=DP hs ho B A;have U:(c7 j f).Nodup:=(A.aa2 ho).aa3;rw[YA (l:=c7 j f) (p:=λv=>kP w j v f) U nc (ur f<|h f<|.head _)]at k;rw[aAi,aAJ,aAi,aAJ,aAp,i,k]
    lia
  exact key fs λ_ h=>h
 have s2:=LA (λ(f:V×Int) v=>v∈c7 j f/\kP w j v f) fs c;have no:∀x∈c,(x=a\/x=b)->cnt (λf=>x∈c7 j f/\kP w j x f) fs=0:=λx u q=>jy λf A ⟨h1,h2⟩=>by
  have T:=(d f).mp A;obtain⟨P,Q,e1,e2,n,p,p0,q0⟩:=aQ hs ho B T h1;have hP:=ur f A P (AG hs ho B T e1).1;have hQ:=ur f A Q (AG hs ho B T e2).2;have m:=(jE hs ho B T h1).mp h2;rw[n,p]at m;have d1:=I P x;have d2:=I Q x;rcases q with rfl|rfl
  .have:=N P hP;have:=N Q hQ;lia
  .have:=O P hP;have:=O Q hQ;lia
 have yes:∀x∈c,¬(x=a\/x=b)->cnt (λf=>x∈c7 j f/\kP w j x f) fs=2:=λx u q=>by have n1:=B.inj b (E b hb) x (E x u) (λz=>q (.inr z.symm));have n2:=B.inj a (E a ha) x (E x u) (λz=>q (.inl z.symm));have:=O x u;have:=N x u;rw[I]at n1 n2;exact DY hs ho B U d ((J x).mp u) (E b hb) (E a ha) (by rw[I];lia) (by rw[I];lia)
 have s3:=JF (λv=>cnt (λf=>v∈c7 j f/\kP w j v f) fs) (λx=>x=a\/x=b) c no yes;have two:cnt (λx=>x=a\/x=b) c=2:=by
  have k:=bC (p:=λx=>x=a\/x=b) (q:=λx=>x=a) c;have k1:cnt (λy=>(y=a\/y=b)/\y=a) c=1:=oN nc ha ⟨.inl rfl,rfl⟩ λy _ h=>h.2;have k2:cnt (λy=>(y=a\/y=b)/\¬y=a) c=1:=oN nc hb ⟨.inr rfl,λq=>ab q.symm⟩ λy _ h=>h.1.resolve_left h.2
  lia
 lia
end
section
open Classical
variable{j:List V} (hs:j8 j) (ho:j.Pairwise (λa b=>f9 (b-a))) {fs:List (V×Int)} (hfs:∀f,f∈fs↔IsFace j f.1 f.2)
include hs ho hfs
theorem zA {P Q:V}:(P,Q)∈iT j fs↔∃f:V×Int,IsFace j f.1 f.2/\EdgeOf f.1 (λX=>X∈n8 f.1 f.2 j) P Q:=by
 unfold iT;rw[aBl];constructor
 .rintro⟨f,a,h⟩;exact⟨f,(hfs f).mp a,(((hfs f).mp a).aa2 ho).aa1.mp h⟩
 .rintro⟨f,a,h⟩;exact⟨f,(hfs f).mpr a,(a.aa2 ho).aa1.mpr h⟩
theorem tO {P Q:V}(h:(P,Q)∈iT j fs):(Q,P)∈iT j fs:=by obtain⟨f,a,e⟩:=(zA hs ho hfs).mp h;obtain⟨b,d⟩:=aG hs ho a e;exact(zA hs ho hfs).mpr ⟨_,b,d⟩
theorem JW (a:fs.Nodup)(ne:fs≠[]){c:List V}(b:c.Nodup)(d:∀X,X∈c↔∃f:V×Int,IsFace j f.1 f.2/\X∈c7 j f):fs.length+4<=2*c.length/\(fs.map λf=>(c7 j f).length).sum+12<=6*c.length:=by have g:=KL hs ho a hfs ne b d;have h:=nG hs ho (fs:=fs) λf e=>(hfs f).mp e;constructor<;>lia
end
section
open Classical
variable{j:List V} (hs:j8 j) (ho:j.Pairwise λa b=>f9 (b-a)) {fs:List (V×Int)} (hfs:∀f,f∈fs↔IsFace j f.1 f.2)
include hs ho hfs
theorem iY (d:fs.Nodup)(ne:fs≠[]):fs.length+4<=2*j.length/\(fs.map λf=>(c7 j f).length).sum+12<=6*j.length:=by
 have e:j.Nodup:=ho.imp λ{a b} h q=>by rw[q]at h;exact v9 h h
 have g:∀X,X∈j.filter (λX=>decide (∃f:V×Int,IsFace j f.1 f.2/\X∈c7 j f))↔∃f:V×Int,IsFace j f.1 f.2/\X∈c7 j f:=λX=>by rw[aAU,decide_eq_true_eq];exact⟨λh=>h.2,λh=>⟨by obtain⟨f,i,k⟩:=h;exact(c6.mp<|(i.aa2 ho).aa4 k).1,h⟩⟩
 have l:=JW hs ho hfs d ne (e.sublist aBp) g;have:=aFL (λX=>decide (∃f:V×Int,IsFace j f.1 f.2/\X∈c7 j f)) j;constructor<;>lia
end
def jZ:List V->V
 |[]=>0
 |a::l=>a+jZ l
def XD (l m:List V):jZ (l++m)=jZ l+jZ m:=by
 induction l with
 |nil=>apply ext<;>simp[jZ]
 |cons a l b=>rw[aAG,jZ,jZ,b];apply ext<;>simp<;>lia
def AV {l m:List V}(h:l.Perm m):jZ l=jZ m:=by
 induction h with
 |nil=>rfl
 |cons a _ d=>rw[jZ,jZ,d]
 |swap a b l=>simp only[jZ];apply ext<;>simp<;>lia
 |trans _ _ e f=>exact e.trans f
def ar (o:V)(l:List (V×V)):V:=jZ (l.map λe=>cr (e.1-o) (e.2-o))
def G9 (o:V)(e:V×V)(l:List (V×V)):ar o (e::l)=cr (e.1-o) (e.2-o)+ar o l:=rfl
def yk (o:V)(l m:List (V×V)):ar o (l++m)=ar o l+ar o m:=by unfold ar;rw[aBA,XD]
def vO {o:V}{l m:List (V×V)}(h:l.Perm m):ar o l=ar o m:=AV (h.map _)
def lw (o:V)(l:List (V×V)):ar o l=ar 0 l+(jZ (l.map λe=>cr o e.1)-jZ (l.map λe=>cr o e.2)):=by
 induction l with
 |nil=>apply ext<;>simp[ar,jZ]
 |cons e l a=>rw[G9,G9,a];simp only[aAi,jZ];apply ext<;>simp<;>grind
def xM (l:List V):(z6 l).map (·.1)=l:=by
 unfold z6;rw[aFz];match l with
 |[]=>simp
 |a::r=>simp
def JB (l:List V):((z6 l).map (·.2)).Perm l:=by
 unfold z6;match l with
 |[]=>exact List.Perm.refl _
 |a::r=>rw[List.map_snd_zip (by simp)];simp only[List.tail_cons,List.take_succ_cons,List.take_zero];exact List.perm_append_singleton a r
def xE (o:V)(l:List V):ar o (z6 l)=ar 0 (z6 l):=by
 have a:(z6 l).map (λe=>cr o e.1)=((z6 l).map (·.1)).map (cr o):=by rw[aAV];rfl
 have b:(z6 l).map (λe=>cr o e.2)=((z6 l).map (·.2)).map (cr o):=by rw[aAV];rfl
 rw[lw,a,b,xM,AV ((JB l).map (cr o))];apply ext<;>simp
def QF (a:V)(r:List V):ar a (z6 (a::r))=ar a (j4 r):=by
 match r with
 |[]=>simp[z6,j4,ar,jZ];apply ext<;>simp
 |b::r=>
  have e:z6 (a::b::r)=j4 (a::b::r++[a]):=by rw[<-cG];rfl
  have d:j4 (a::b::r++[a])=(a,b)::j4 (b::r++[a]):=rfl;have g:∀(x:V) (l:List V),ar a (j4 (x::l++[a]))=ar a (j4 (x::l)):=λx l=>by
   induction l generalizing x with
   |nil=>simp[j4,ar,jZ];apply ext<;>simp
   |cons y l f=>show ar a ((x,y)::j4 (y::l++[a]))=ar a ((x,y)::j4 (y::l));rw[G9,G9,f]
  rw[e,d,G9,g];apply ext<;>simp
def YN {α:Type}(o:V)(f:α->List (V×V))(l:List α):ar o (l.flatMap f)=jZ (l.map λx=>ar o (f x)):=by
 induction l with
 |nil=>rfl
 |cons a l b=>rw[aFg,yk,b];rfl
def IX (w:V)(l:List V):dot (jZ l) w=(l.map λv=>dot v w).sum:=by
 induction l with
 |nil=>simp[jZ,dot]
 |cons a l b=>rw[aAi,aAJ,<-b,jZ];simp[dot];grind
def BA {n u v:V}(a:dot n u=0)(b:dot n v=0)(w:V):dot n n*dot (cr u v) w=dot n (cr u v)*dot n w:=by
 have z:=D4 a b;have e:dot n n*dot (cr u v) w-dot n (cr u v)*dot n w=dot (cr n<|cr u v) (cr n w):=by simp[dot];grind
 rw[z]at e;have:dot (0:V) (cr n w)=0:=by simp[dot]
 lia
section
variable{n:V} {d:Int} {l:List (V×V)} {a:V}
def UK (m:dot n a=d)(b:∀e∈l,dot n e.1=d/\dot n e.2=d)(w:V):dot n n*dot (ar a l) w=dot n (ar a l)*dot n w:=by
 induction l with
 |nil=>simp[ar,jZ,dot]
 |cons e l f=>
  have h:=b e (.head _);have i:=f λe g=>b e (.tail _ g);have c:=BA (n:=n) (u:=e.1-a) (v:=e.2-a) (by rw[d9];lia) (by rw[d9];lia) w;rw[G9];have j:∀x y:V,dot (x+y) w=dot x w+dot y w:=λx y=>by simp[dot];grind
  have k:∀x y:V,dot n (x+y)=dot n x+dot n y:=λx y=>by simp[dot];grind
  rw[j,k];grind
end
section
open Classical
variable{j:List V} (hs:j8 j) (ho:j.Pairwise (λa b=>f9 (b-a)))
include hs ho
theorem xS {f:V×Int}(s:IsFace j f.1 f.2):0<dot f.1 (ar 0 (z6 (c7 j f)))/\∀w,dot f.1 f.1*dot (ar 0 (z6 (c7 j f))) w=dot f.1 (ar 0 (z6 (c7 j f)))*dot f.1 w:=by
 have S:=s.aa2 ho;obtain⟨a,b,c,r,e⟩:=C7 ho s;have e:c7 j f=a::b::c::r:=e;have on:∀X∈c7 j f,dot f.1 X=f.2:=λX n=>(c6.mp<|S.aa4 n).2;have t:(c7 j f).Nodup:=S.aa3;have v:∀p∈z6 (c7 j f),EdgeOf f.1 (λX=>X∈n8 f.1 f.2 j) p.1 p.2:=λp d=>S.pair d;have g:∀p∈z6 (c7 j f),p.1∈c7 j f/\p.2∈c7 j f:=λp d=>by
  constructor
  .rw[<-xM (c7 j f)];exact aBL d
  .exact(JB<|c7 j f).mem_iff.mp (aBL d)
 rw[<-xE a];refine⟨?_,UK (on a (by rw[e];exact .head _)) λp d=>⟨on _ (g p d).1,on _ (g p d).2⟩⟩;rw[e,QF];rw[e]at t;have u:∀X∈b::c::r,a≠X:=λX n z=>(aAF.mp t).1 (z▸n);have sub:∀p∈j4 (b::c::r),p∈z6 (c7 j f):=λp d=>by
  have A:z6 (a::b::c::r)=j4 (a::b::c::r++[a]):=by rw[<-cG];rfl
  rw[e,A];exact bG _ _ _ _ (aAe _ d)
 have B:∀(x:V) (l:List V) (p:V×V),p∈j4 (x::l)->p.1∈x::l/\p.2∈x::l:=λx l=>by
  induction l generalizing x with
  |nil=>intro p d;cases d
  |cons y l k=>
   intro p d;rcases aAd.mp d with rfl|d
   .exact⟨.head _,.tail _ (.head _)⟩
   .exact⟨.tail _ (k y p d).1,.tail _ (k y p d).2⟩
 have i:∀p∈j4 (b::c::r),0<dot f.1 (cr (p.1-a)<|p.2-a):=λp d=>by
  have m:=B b (c::r) p d;have:=S.strict (v p<|sub p d) (X:=a) (by show a∈c7 j f;rw[e];exact .head _) (u _ m.1) (u _ m.2);have q:i7 f.1 (p.2-p.1) (a-p.1)=dot f.1 (cr (p.1-a)<|p.2-a):=by simp[i7,dot];grind
  lia
 have all:∀l:List (V×V),(∀p∈l,0<dot f.1 (cr (p.1-a)<|p.2-a))->0<=dot f.1 (ar a l):=λl=>by
  induction l with
  |nil=>intro _;simp[ar,jZ,dot]
  |cons p l k=>
   intro h;have o:=h p (.head _);have C:=k λq E=>h q (.tail _ E);rw[G9,show∀x y:V,dot f.1 (x+y)=dot f.1 x+dot f.1 y fromλx y=>by simp[dot];grind]
   lia
 have o:=i (b,c) (.head _);have C:=all (j4 (c::r)) λp d=>i p (.tail _ d);show 0<dot f.1 (ar a ((b,c)::j4 (c::r)));rw[G9,show∀x y:V,dot f.1 (x+y)=dot f.1 x+dot f.1 y fromλx y=>by simp[dot];grind];show 0<dot f.1 (cr (b-a)<|c-a)+_;have o:0<dot f.1 (cr (b-a)<|c-a):=o
 lia
theorem V5 {f:V×Int}(b:IsFace j f.1 f.2){P:V}(d:dot f.1 P=f.2)(w:V):(dot f.1 w<=f.2->0<=-dot (ar 0 (z6 (c7 j f))) (w-P))/\(dot f.1 w<f.2->0< -dot (ar 0 (z6 (c7 j f))) (w-P))/\(dot f.1 w=f.2->dot (ar 0 (z6 (c7 j f))) (w-P)=0):=by
 obtain⟨e,a⟩:=xS hs ho b;have a:=a (w-P);rw[show dot f.1 (w-P)=dot f.1 w-f.2 by rw[d9,d]]at a;have g:=n9 b.prim.ne;generalize dot (ar 0<|z6<|c7 j f) (w-P)=x at*
 generalize dot f.1 (ar 0<|z6<|c7 j f)=k at*
 generalize dot f.1 f.1=m at*
 refine⟨λh=>?_,λh=>?_,λh=>?_⟩
 .by_cases z:0<=-x
  .exact z
  .have:=aAD g (show 0<x by lia);have:=aAS (show 0<=k by lia) (show 0<=f.2-dot f.1 w by lia);grind
 .by_cases z:0< -x
  .exact z
  .have:=aAS (show 0<=m by lia) (show 0<=x by lia);have:=aAD e (show 0<f.2-dot f.1 w by lia);grind
 .have:m*x=0:=by rw[a,h];grind
  rcases aAo.mp this with z|z
  .lia
  .exact z
variable{fs:List (V×Int)} (hfs:∀f,f∈fs↔IsFace j f.1 f.2)
include hfs
theorem DU (i:fs.Nodup):jZ (fs.map λf=>ar 0 (z6 (c7 j f)))=0:=by
 rw[<-YN 0 (λf:V×Int=>z6 (c7 j f))];have e:fs.flatMap (λf=>z6 (c7 j f))=iT j fs:=rfl;rw[e];have g:(iT j fs).Nodup:=iF hs ho i λf k=>(hfs f).mp k;have m:((iT j fs).map λp=>(p.2,p.1)).Nodup:=aBb.mpr (g.imp λ{a b} n q=>n (by injection q with r s;exact aDB s r));have t:(iT j fs).Perm ((iT j fs).map λp=>(p.2,p.1)):=(aBf g m).mpr λp=>by
  rw[aAk];constructor
  .intro h;exact⟨(p.2,p.1),tO hs ho hfs (P:=p.1) (Q:=p.2) h,rfl⟩
  .rintro⟨q,h,rfl⟩;exact tO hs ho hfs (P:=q.1) (Q:=q.2) h
 have d:∀l:List (V×V),ar 0 (l.map λp=>(p.2,p.1))=-ar 0 l:=λl=>by
  induction l with
  |nil=>apply ext<;>simp[ar,jZ]
  |cons p l u=>rw[aAi,G9,G9,u];apply ext<;>simp<;>grind
 have:=vO (o:=0) t;rw[d]at this;have x:=ip V.x this;have y:=ip V.y this;have z:=ip V.z this;simp at x y z;exact ext (by simp;lia) (by simp;lia) (by simp;lia)
end
end G
namespace ST
open PySem PySem.SetTable
def KZ (Y:Array Nat):Prop:=∀(i k:Nat) (a:i<Y.size) (b:k<Y.size),i<k->Y[i]<Y[k]
theorem vW (Y:Array Nat)(j:Nat)(d:KZ Y):∀(a lo b:Nat),lo<=b->b<=Y.size->b-lo<=a->(∀i (h:i<Y.size),i<lo->Y[i]<j)->(∀i (h:i<Y.size),b<=i->j<=Y[i])->
  below.go Y j a lo b<=Y.size/\(∀i (h:i<Y.size),i<below.go Y j a lo b->Y[i]<j)/\(∀i (h:i<Y.size),below.go Y j a lo b<=i->j<=Y[i])
 |0,lo,b,o,f,p,g,k=>by
  have:lo=b:=by lia
  subst this;unfold below.go;exact⟨f,g,k⟩
 |a+1,lo,b,o,f,p,g,k=>by
  unfold below.go;by_cases n:lo<b
  .rw[hV n];have m:(lo+b)/2<Y.size:=by lia
   have e:Y.getD ((lo+b)/2) j=Y[(lo+b)/2]:=by simp[aFi,m]
   dsimp only;rw[e];by_cases l:Y[(lo+b)/2]<j
   .rw[hV l];refine vW Y j d a _ _ (by lia) f (by lia) (λi h r=>?_) k;by_cases q:i=(lo+b)/2
    .subst q;exact l
    .exact aGC (d i _ h m (by lia)) l
   .rw[h9 l];refine vW Y j d a _ _ (by lia) (by lia) (by lia) g (λi h r=>?_);by_cases q:i=(lo+b)/2
    .subst q;lia
    .have:=d _ i m h (by lia);lia
  .rw[h9 n];have:lo=b:=by lia
   subst this;exact⟨f,g,k⟩
def bB (a:KZ Y)(j:Nat):below Y j<=Y.size/\(∀i (h:i<Y.size),i<below Y j->Y[i]<j)/\(∀i (h:i<Y.size),below Y j<=i->j<=Y[i]):=
 vW Y j a Y.size 0 Y.size (aAX _) (aAj _) (by lia) (λi h b=>by lia) (λi h b=>by lia)
def NS (a:KZ Y)(h:Y[i]?=some j):below Y j=i:=by
 obtain⟨b,e⟩:=aCl.mp h;obtain⟨k,f,g⟩:=bB a j;rcases Nat.lt_trichotomy (below Y j) i with q|q|q
 .have d:below Y j<Y.size:=by lia
  have l:=g _ d (aAj _);have m:=a _ _ d b q
  lia
 .exact q
 .have:=f i b q;lia
structure Tab (t:SetTable):Prop where
 asc:KZ t.place
 le:∀j∈t.place.toList,j<=t.mask
 nod:t.dummies=#[]
def M8 (T:Tab t)(h:t.place[i]?=some j):t.slot j=.live i:=by unfold slot;rw[NS T.asc h];dsimp only;rw[h];simp
def EA (T:Tab t)(h:j∉t.place.toList):t.slot j=.empty:=by
 unfold slot;have a:¬(t.place[below t.place j]?==some j)=true:=λz=>h (by have:=beq_iff_eq.mp z;obtain⟨b,e⟩:=aCl.mp this;rw[<-e];simp)
 dsimp only;rw[h9 a,T.nod];rw[h9 (by unfold has;simp)]
def DJ (T:Tab t)(j:Nat):(t.slot j=.empty/\j∉t.place.toList)\/∃i,t.slot j=.live i/\t.place[i]?=some j:=by
 by_cases h:j∈t.place.toList
 .obtain⟨i,a,e⟩:=aBo h;have:t.place[i]?=some j:=by rw[<-aAE,aAh a,e]
  exact .inr ⟨i,M8 T this,this⟩
 .exact .inl ⟨EA T h,h⟩
def UL (mask:Nat)(p:Probe):Probe:=if p.more>0 then{p with j:=p.j+1,more:=p.more-1}else{p with j:=(leap mask p.i p.perturb).1,more:=runEnd mask (leap mask p.i p.perturb).1-(leap mask p.i p.perturb).1,i:=(leap mask p.i p.perturb).1,perturb:=(leap mask p.i p.perturb).2}
def oZ (t:eR)(p:Probe):t.advance p=UL t.mask p:=rfl
def start (mask:Nat)(h:Int):Probe:={j:=bits h%(mask+1),more:=runEnd mask (bits h%(mask+1))-bits h%(mask+1),i:=bits h%(mask+1),perturb:=bits h,dummy:=none}
def o5 (mask:Nat)(h:Int):Nat->Probe
 |0=>start mask h
 |n+1=>UL mask (o5 mask h n)
theorem rB (mask:Nat)(h:Int):∀n,(o5 mask h n).dummy=none
 |0=>rfl
 |n+1=>by have:=rB mask h n;show(UL mask _).dummy=none;unfold UL;split<;>exact this
def F7 (mask:Nat)(h:Int):Nat->Nat×Nat
 |0=>(bits h%(mask+1),bits h)
 |k+1=>leap mask (F7 mask h k).1 (F7 mask h k).2
def len (mask i:Nat):Nat:=runEnd mask i-i
def ez (mask i:Nat):len mask i<=9:=by unfold len runEnd;split<;>lia
def off (mask:Nat)(h:Int):Nat->Nat
 |0=>0
 |k+1=>off mask h k+len mask (F7 mask h k).1+1
theorem OI (mask:Nat)(h:Int):∀k,off mask h k<=10*k
 |0=>aAj _
 |k+1=>by have:=OI mask h k;have:=ez mask (F7 mask h k).1;show off mask h k+_+1<=_;lia
theorem W7 (mask:Nat)(h:Int):∀k r,r<=len mask (F7 mask h k).1->
  o5 mask h (off mask h k+r)={j:=(F7 mask h k).1+r,more:=len mask (F7 mask h k).1-r,i:=(F7 mask h k).1,perturb:=(F7 mask h k).2,dummy:=none}
 |0,0,_=>rfl
 |0,r+1,b=>by
  have a:=W7 mask h 0 r (by lia);have e:off mask h 0+(r+1)=(off mask h 0+r)+1:=by lia
  rw[e,o5,a];unfold UL;rw[hV (show len mask (F7 mask h 0).1-r>0 by lia)];simp
  lia
 |k+1,0,_=>by have a:=W7 mask h k (len mask (F7 mask h k).1) (aAj _);have e:off mask h (k+1)+0=(off mask h k+len mask (F7 mask h k).1)+1:=rfl;rw[e,o5,a];unfold UL;rw[h9 (by simp)];simp[F7,len]
 |k+1,r+1,b=>by
  have a:=W7 mask h (k+1) r (by lia);have e:off mask h (k+1)+(r+1)=(off mask h (k+1)+r)+1:=by lia
  rw[e,o5,a];unfold UL;rw[hV (show len mask (F7 mask h<|k+1).1-r>0 by lia)];simp
  lia
def QD (mask:Nat)(h:Int)(k:Nat):(o5 mask h (off mask h k)).j=(F7 mask h k).1:=by have:=W7 mask h k 0 (aAX _);rw[Nat.add_zero]at this;rw[this];rfl
theorem kN (mask:Nat)(h:Int):∀k,(F7 mask h k).2<2^64/32^k+1
 |0=>by
  show bits h<_;unfold bits;have:=Int.emod_lt_of_pos h (show(0:Int)<2^64 by decide)
  lia
 |k+1=>by
  have a:=kN mask h k;show(F7 mask h k).2/32<_;have e:∀N,N/32^(k+1)=N/32^k/32:=λN=>by rw[Nat.div_div_eq_div_mul];rfl
  rw[e]
  lia
theorem uA (mask:Nat)(h:Int):∀k,(F7 mask h (13+k)).2=0
 |0=>by have:=kN mask h 13;simp at this;exact this
 |k+1=>by have:=uA mask h k;show(F7 mask h<|13+k).2/32=0;rw[this]
def lcg (m:Nat)(i:Nat):Nat:=(i*5+1)%m
def A7 (m:Nat):Nat->Nat->Nat
 |0,i=>i
 |n+1,i=>lcg m (A7 m n i)
theorem pB (mask:Nat)(h:Int):∀k,(F7 mask h (13+k)).1=A7 (mask+1) k (F7 mask h 13).1
 |0=>rfl
 |k+1=>by have a:=pB mask h k;show((F7 mask h<|13+k).1*5+1+(F7 mask h<|13+k).2/32)%(mask+1)=_;rw[uA,a];rfl
theorem jA (m:Nat):∀a b i,A7 m (a+b) i=A7 m a (A7 m b i)
 |0,b,i=>by rw[aFM];rfl
 |a+1,b,i=>by rw[show a+1+b=(a+b)+1 by lia];show lcg m _=lcg m _;rw[jA m a b i]
def nT (m:Nat):Prop:=A7 m m 0=0/\∀j<m,∃n<m,A7 m n 0=j
def vH (F:nT m)(f:i<m)(g:j<m):∃n<m,A7 m n i=j:=by
 obtain⟨a,k,d⟩:=F.2 i f;obtain⟨b,l,e⟩:=F.2 j g;by_cases h:a<=b
 .exact⟨b-a,by lia,by rw[<-d,<-jA,show b-a+a=b by lia,e]⟩
 .refine⟨b+(m-a),by lia,?_⟩;rw[<-d,<-jA,show b+(m-a)+a=b+m by lia,jA,F.1,e]
instance(m:Nat):Decidable (nT m):=inferInstanceAs (Decidable<|_/\_)
def a3e:nT 8:=by decide+kernel
def cw:nT 32:=by decide+kernel
def UV:nT 128:=by decide+kernel
theorem HS (mask:Nat)(h:Int):∀k,(F7 mask h k).1<mask+1
 |0=>aFj _ (by lia)
 |k+1=>aFj _ (by lia)
def DD {mask:Nat}(F:nT (mask+1))(h:Int){j:Nat}(a:j<=mask):∃n,n<=10*(mask+14)/\(o5 mask h n).j=j:=by
 obtain⟨k,b,e⟩:=vH F (HS mask h 13) (show j<mask+1 by lia);refine⟨off mask h (13+k),?_,?_⟩
 .have:=OI mask h (13+k);lia
 .rw[QD,pB,e]
def xC {α β:Type}{l:List α}{m:List β}{p:Nat}{a:α×β}(h:a∈(l.take p).zip (m.take p)):a∈l.zip m:=by
 obtain⟨i,b⟩:=aDv.mp h;rw[aBF]at b;refine aAw (i:=i) ?_;rw[aBF];have q:∀{γ:Type} {l:List γ} {c:γ},(l.take p)[i]?=some c->l[i]?=some c:=λ{γ l c} h=>by
  rw[List.getElem?_take]at h;split at h
  .exact h
  .cases h
 exact⟨q b.1,q b.2⟩
def wO {α β:Type}{l:List α}{m:List β}{p:Nat}{a:α×β}(h:a∈(l.drop p).zip (m.drop p)):a∈l.zip m:=by obtain⟨i,b⟩:=aDv.mp h;rw[aBF,List.getElem?_drop,List.getElem?_drop]at b;refine aAw (i:=p+i) ?_;rw[aBF];exact b
theorem HJ (mask:Nat)(h:Int):∀n,(o5 mask h n).j+(o5 mask h n).more<=mask
 |0=>by have:=aFj (bits h) (show 0<mask+1 by lia);show bits h%(mask+1)+(runEnd mask (bits h%(mask+1))-bits h%(mask+1))<=mask;unfold runEnd;split<;>lia
 |n+1=>by
  have a:=HJ mask h n;show(UL mask<|o5 mask h n).j+(UL mask<|o5 mask h n).more<=mask;unfold UL;split
  .dsimp only;lia
  .dsimp only;have:(leap mask (o5 mask h n).i (o5 mask h n).perturb).1<mask+1:=aFj _ (by lia);unfold runEnd;split<;>lia
def xR (mask:Nat)(h:Int)(n:Nat):(o5 mask h n).j<=mask:=by have:=HJ mask h n;lia
theorem R1 {α:Type}[DecidableEq α]:∀{l m:List α},l.Nodup->(∀x∈l,x∈m)->l.length<=m.length
 |[],_,_,_=>aAX _
 |x::l,m,h,a=>by
  have b:=a x (by simp);have d:=aAF.mp h;have:=R1 (l:=l) (m:=m.erase x) d.2 (λy f=>by
   have ne:y≠x:=λe=>by subst e;exact d.1 f
   exact(aFV ne).mpr (a y<|aAe _ f))
  rw[aFh b]at this;have:0<m.length:=aDl b;simp only[aAp]
  lia
def LM {t:eR}(h:t.place.size<=t.mask):∃j≤t.mask,j∉t.place.toList:=by
 by_cases z:∃j≤t.mask,j∉t.place.toList
 .exact z
 .exfalso;have:=R1 (l:=aBa (t.mask+1)) (m:=t.place.toList) List.nodup_range (λj a=>by
   by_cases q:j∈t.place.toList
   .exact q
   .exact absurd ⟨j,by have:=aBd.mp a;lia,q⟩ z)
  simp at this
  lia
theorem least {P:Nat->Prop}[DecidablePred P]:∀n,P n->∃m≤n,P m/\∀k<m,¬P k
 |0,h=>⟨0,aAj _,h,λk b=>by lia⟩
 |n+1,h=>by
  by_cases z:∃k≤n,P k
  .obtain⟨k,b,a⟩:=z;obtain⟨m,f,d,e⟩:=least k a;exact⟨m,by lia,d,e⟩
  .exact⟨n+1,aAj _,h,λk b a=>z ⟨k,by lia,a⟩⟩
termination_by n=>n
def V4 (t:eR)(h:Int)(n0:Nat):Prop:=n0<=10*(t.mask+14)/\(o5 t.mask h n0).j∉t.place.toList/\∀m<n0,(o5 t.mask h m).j∈t.place.toList
def EG {t:eR}(F:nT (t.mask+1))(a:t.place.size<=t.mask)(h:Int):∃n0,V4 t h n0:=by obtain⟨j,b,d⟩:=LM a;obtain⟨n,l,e⟩:=DD F h b;obtain⟨m,o,f,g⟩:=least (P:=λn=>(o5 t.mask h n).j∉t.place.toList) n (by rw[e];exact d);exact⟨m,by lia,f,λk i=>by have:=g k i;simpa using this⟩
theorem zU (T:Tab t)(hashAt:Nat->Int)(h:Int)(l:V4 t h n0):∀(d n:Nat),n<=n0->n0-n<d->
  ∃f,n<=f/\f<=n0/\(∀m,n<=m->m<f->∃i,t.place[i]?=some (o5 t.mask h m).j/\hashAt i≠h)/\
   ((f=n0/\probe.go t hashAt h d (o5 t.mask h n)=some (.empty (o5 t.mask h n0).j none))\/
    (f<n0/\∃i,t.place[i]?=some (o5 t.mask h f).j/\hashAt i=h/\probe.go t hashAt h d (o5 t.mask h n)=some (.candidate (o5 t.mask h f).j i (o5 t.mask h (f+1)))))
 |0,n,_,o=>by lia
 |d+1,n,w,o=>by
  unfold probe.go;rcases DJ T (o5 t.mask h n).j with⟨e,p⟩|⟨i,e,g⟩
  .have:n=n0:=by
     by_cases q:n<n0
     .exact absurd (l.2.2 n q) p
     .lia
   subst this;refine⟨n,aAj _,aAj _,λm a b=>by lia,.inl ⟨rfl,?_⟩⟩;rw[e];dsimp only;rw[rB]
  .have x:n≠n0:=λq=>by subst q;refine l.2.1 ?_;rw[<-aAE]at g;exact aAw g
   rw[e];dsimp only;by_cases k:hashAt i=h
   . refine⟨n,aAj _,by lia,λm a b=>by lia,.inr ⟨by lia,i,g,k,?_⟩⟩
     rw[hV (by simpa using k),oZ];rfl
   . rw[h9 (by simpa using k),oZ]
     obtain⟨f,y,r,s,u⟩:=zU T hashAt h l d (n+1) (by lia) (by lia);refine⟨f,by lia,r,λm z v=>?_,u⟩;by_cases q:m=n
     .subst q;exact⟨i,g,k⟩
     .exact s m (by lia) v
def NG (T:Tab t)(hashAt:Nat->Int)(h:Int)(b:V4 t h n0)(n:Nat)(d:n<=n0):
  ∃a,n<=a/\a<=n0/\(∀m,n<=m->m<a->∃i,t.place[i]?=some (o5 t.mask h m).j/\hashAt i≠h)/\
   ((a=n0/\t.probe hashAt h (o5 t.mask h n)=some (.empty (o5 t.mask h n0).j none))\/
    (a<n0/\∃i,t.place[i]?=some (o5 t.mask h a).j/\hashAt i=h/\t.probe hashAt h (o5 t.mask h n)=some (.candidate (o5 t.mask h a).j i (o5 t.mask h (a+1))))):=
 zU T hashAt h b _ n d (by have:=b.1;unfold turns;lia)
def Reach (mask:Nat)(a:Nat->Prop)(h:Int)(j:Nat):Prop:=∃n,(o5 mask h n).j=j/\∀m<n,a (o5 mask h m).j
def Reach.mono {mask:Nat}{o a:Nat->Prop}{h:Int}{j:Nat}(r:Reach mask o h j)(i:∀k,o k->a k):Reach mask a h j:=by obtain⟨n,e,q⟩:=r;exact⟨n,e,λm b=>i _ (q m b)⟩
def Reach.before (a:V4 t h n0)(b:j∈t.place.toList)(r:Reach t.mask (λk=>k∈t.place.toList) h j):∃n<n0,(o5 t.mask h n).j=j:=by
 obtain⟨n,e,q⟩:=r;refine⟨n,?_,e⟩;by_cases z:n<n0
 .exact z
 .exfalso;by_cases y:n=n0
  .subst y;exact a.2.1 (by rw[e];exact b)
  .exact a.2.1 (q n0 (by lia))
def gN {α:Type}(Y:Array α)(p:Nat)(x:α):(insertAt Y p x).toList=Y.toList.take p++x::Y.toList.drop p:=by
 unfold insertAt;simp[Array.toList_extract,List.extract_eq_drop_take];have:Y.size-p=(Y.toList.drop p).length:=by simp
 rw[this,List.take_length]
def zJ (t:eR)(es:List (Int×ao)):List (Nat×Int×ao):=t.place.toList.zip es
structure SOk (t:SetTable)(es:List (Int×Value)):Prop where
 tab:Tab t
 full:nT (t.mask+1)
 len:t.place.size=es.length
 room:t.place.size<=t.mask
 reach:∀e∈zJ t es,Reach t.mask (λk=>k∈t.place.toList) e.2.1 e.1
def VP {t:eR}{es:List (Int×ao)}(b:t.place.size=es.length){i:Nat}{e:Int×ao}(h:es[i]?=some e):∃j,t.place[i]?=some j/\(j,e)∈zJ t es:=by
 have d:i<es.length:=(aAC.mp h).1;have a:i<t.place.toList.length:=by simpa[b]using d
 refine⟨t.place.toList[i],by rw[<-aAE,aAh a],?_⟩;unfold zJ;refine aAw (i:=i) ?_;rw[aBF];exact⟨aAh a,h⟩
def qx {t:eR}{es:List (Int×ao)}(S:SOk t es){h:Int}{x:ao}{n0:Nat}(z:V4 t h n0)(E:t.place.size+1<=t.mask):
  SOk (t.put (o5 t.mask h n0).j).1 (es.take (t.put (o5 t.mask h n0).j).2++(h,x)::es.drop (t.put (o5 t.mask h n0).j).2):=by
 have u:=xR t.mask h n0;obtain⟨Y,H,I⟩:=bB S.tab.asc (o5 t.mask h n0).j;generalize A:(o5 t.mask h n0).j=J at*
 have v:J∉t.place.toList:=by rw[<-A];exact z.2.1
 have B:(t.put J).2=below t.place J:=rfl;have em:(t.put J).1.mask=t.mask:=rfl;have d:(t.put J).1.place=insertAt t.place (below t.place J) J:=rfl;have f:=gN t.place (below t.place J) J;have l:∀k,k∈(t.put J).1.place.toList↔k∈t.place.toList\/k=J:=λk=>by
  rw[d,f,aAP,aAd];constructor
  .rintro(q|q|q)
   .exact .inl (aEs q)
   .exact .inr q
   .exact .inl (aDH q)
  .rintro(q|q)
   .rw[<-aFN (below t.place J) t.place.toList,aAP]at q;rcases q with q|q
    .exact .inl q
    .exact .inr (.inr q)
   .exact .inr (.inl q)
 have C:(t.put J).1.place.size=t.place.size+1:=by
  rw[<-aBk,d,f,aAB,aBN,aAp,aDi,aBk]
  lia
 refine⟨⟨?_,λj L=>?_,?_⟩,S.full,?_,by rw[C];exact E,λe s=>?_⟩
 .
  have o:t.place.toList.Pairwise (· <·):=by rw[aCo];intro i j g u N;simpa using S.tab.asc i j (by simpa using g) (by simpa using u) N
  have p:∀a∈t.place.toList.take (below t.place J),a<J:=λa n=>by
   obtain⟨i,g,e⟩:=aBo n;rw[aBN]at g;rw[List.getElem_take]at e;have:=H i (by simp at g;lia) (by lia);simp at e
   lia
  have r:∀a∈t.place.toList.drop (below t.place J),J<a:=λa n=>by
   obtain⟨i,g,e⟩:=aBo n;rw[aDi]at g;rw[List.getElem_drop]at e;have h1:=I (below t.place J+i) (by simp at g;lia) (by lia);simp at e;have h2:J≠a:=λq=>v (by rw[q];exact aDH n)
   lia
  have O:(t.put J).1.place.toList.Pairwise (· <·):=by
   rw[d,f,List.pairwise_append];refine⟨o.sublist (List.take_sublist _ _),aAy.mpr ⟨r,o.sublist (List.drop_sublist _ _)⟩,λa n b Q=>?_⟩;rcases aAd.mp Q with q|q
   .subst q;exact p a n
   .exact aGC (p a n) (r b q)
  intro i k g w y;have:=aCo.mp O i k (by simpa using g) (by simpa using w) y;simpa using this
 .rcases(l j).mp L with q|q
  .exact S.tab.le j q
  .subst q;exact u
 .show(if has t.dummies J then _ else t.dummies)=#[];rw[S.tab.nod,h9 (by unfold has;simp)]
 .rw[C,B,aAB,aBN,aAp,aDi];have:=S.len
  lia
 .have T:e∈zJ t es\/e=(J,h,x):=by
   unfold zJ at s;rw[d,f,B]at s;rw[List.zip_append (by rw[aBN,aBN,aBk,S.len])]at s;rcases aAP.mp s with q|q
   .left;unfold zJ;exact xC q
   .rw[aBZ]at q;rcases aAd.mp q with q|q
    .exact .inr q
    .left;unfold zJ;exact wO q
  rcases T with q|q
  .exact(S.reach e q).mono λk w=>(l k).mpr (.inl w)
  .subst q;exact⟨n0,A,λm U=>(l _).mpr (.inl (z.2.2 m U))⟩
def R6 (owner:Array (Option Nat))(j:Nat):Prop:=(owner.getD j<|some 0).isNone=false
theorem vD {mask:Nat}(h:Int)(owner:Array (Option Nat)):∀(fuel k:Nat),(∃kk,k<=kk/\kk<k+fuel/\¬R6 owner (F7 mask h kk).1)->
  ∃n,off mask h k<=n/\layClean.free mask owner fuel (F7 mask h k).1 (F7 mask h k).2=some (o5 mask h n).j/\¬R6 owner (o5 mask h n).j/\∀m,off mask h k<=m->m<n->R6 owner (o5 mask h m).j
 |0,k,⟨kk,i,l,_⟩=>by lia
 |fuel+1,k,⟨kk,i,l,d⟩=>by
  have o:runEnd mask (F7 mask h k).1+1-(F7 mask h k).1=len mask (F7 mask h k).1+1:=by unfold len runEnd;split<;>lia
  unfold layClean.free;rw[o];cases e:(aBa<|len mask (F7 mask h k).1+1).find? λr=>(owner.getD ((F7 mask h k).1+r)<|some 0).isNone with
  |some r=>
   have q:=List.find?_some e;have f:r<len mask (F7 mask h k).1+1:=aBd.mp (List.mem_of_find?_eq_some e);have g:(o5 mask h<|off mask h k+r).j=(F7 mask h k).1+r:=by rw[W7 mask h k r (by lia)]
   refine⟨off mask h k+r,by lia,by rw[g],by rw[g];unfold R6;rw[q];simp,λm a b=>?_⟩;have em:(o5 mask h m).j=(F7 mask h k).1+(m-off mask h k):=by have:=W7 mask h k (m-off mask h k) (by lia);rw[show off mask h k+(m-off mask h k)=m by lia]at this;rw[this]
   rw[em];unfold R6;rw[List.find?_range_eq_some]at e;have:=e.2.2 (m-off mask h k) (by lia);simpa using this
  |none=>
   have all:∀r<len mask (F7 mask h k).1+1,R6 owner ((F7 mask h k).1+r):=λr f=>by have:=List.find?_eq_none.mp e r (aBd.mpr f);unfold R6;exact Bool.not_eq_true _▸this
   have v:kk≠k:=λq=>by subst q;have:=all 0 (by lia);rw[Nat.add_zero]at this;exact d this
   obtain⟨n,w,p,s,t⟩:=vD h owner fuel (k+1) ⟨kk,by lia,by lia,d⟩;have x:off mask h (k+1)=off mask h k+len mask (F7 mask h k).1+1:=rfl;refine⟨n,by lia,p,s,λm y u=>?_⟩;by_cases q:off mask h (k+1)<=m
   .exact t m q u
   .have em:(o5 mask h m).j=(F7 mask h k).1+(m-off mask h k):=by have:=W7 mask h k (m-off mask h k) (by lia);rw[show off mask h k+(m-off mask h k)=m by lia]at this;rw[this]
    rw[em];exact all _ (by lia)
def oB {mask:Nat}(F:nT (mask+1))(h:Int)(owner:Array (Option Nat)){j:Nat}(i:j<=mask)(a:¬R6 owner j):
  ∃n,layClean.free mask owner (turns mask) (aDX h%(mask+1)) (aDX h)=some (o5 mask h n).j/\¬R6 owner (o5 mask h n).j/\∀m<n,R6 owner (o5 mask h m).j:=by
 obtain⟨k,l,e⟩:=vH F (HS mask h 13) (show j<mask+1 by lia);obtain⟨n,o,b,d,f⟩:=vD h owner (turns mask) 0 ⟨13+k,aAX _,by unfold turns;lia,by rw[pB,e];exact a⟩;exact⟨n,b,d,λm g=>f m (aAX _) g⟩
structure Laid (mask:Nat)(hs:List Int)(owner:Array (Option Nat))(k:Nat):Prop where
 size:owner.size=mask+1
 lt:∀(j i:Nat),owner[j]?=some (some i)->i<k
 inj:∀(j j' i:Nat),owner[j]?=some (some i)->owner[j']?=some (some i)->j=j'
 sur:∀i<k,∃j:Nat,owner[j]?=some (some i)
 reach:∀(j i:Nat) (h:Int),owner[j]?=some (some i)->hs[i]?=some h->Reach mask (λl=>∃i,owner[l]?=some (some i)) h j
def lP {owner:Array (Option Nat)}{mask j:Nat}(b:owner.size=mask+1)(d:j<=mask):R6 owner j↔∃i,owner[j]?=some (some i):=by
 unfold R6;have a:j<owner.size:=by lia
 have e:owner.getD j (some 0)=owner[j]:=by simp[aFi,a]
 rw[e,aAM a];cases owner[j]with
 |none=>simp
 |some i=>simp
def Laid.room {mask k:Nat}{r:List Int}{owner:Array (Option Nat)}(L:Laid mask r owner k)(t:k<=mask):∃j≤mask,¬R6 owner j:=by
 by_cases z:∃j≤mask,¬R6 owner j
 .exact z
 .exfalso;have all:∀j≤mask,∃i,owner[j]?=some (some i):=λj b=>by
   by_cases q:R6 owner j
   .exact(lP L.size b).mp q
   .exact absurd ⟨j,b,q⟩ z
  have d:∀n,n<=mask+1->∃l:List Nat,l.length=n/\l.Nodup/\(∀i∈l,i<k)/\∀i∈l,∃j<n,owner[j]?=some (some i):=λn=>by
   induction n with
   |zero=>exactλ_=>⟨[],rfl,aDk,by simp,by simp⟩
   |succ n s=>
    intro u;obtain⟨l,o,f,g,p⟩:=s (by lia);obtain⟨i,h⟩:=all n (by lia);refine⟨i::l,by simp[o],aAF.mpr ⟨λq=>?_,f⟩,λx a=>?_,λx a=>?_⟩
    .obtain⟨j,b,e⟩:=p i q;have:=L.inj j n i e h
     lia
    .rcases aAd.mp a with q|q
     .subst q;exact L.lt _ _ h
     .exact g x q
    .rcases aAd.mp a with q|q
     .subst q;exact⟨n,by lia,h⟩
     .obtain⟨j,b,e⟩:=p x q;exact⟨j,by lia,e⟩
  obtain⟨l,o,f,g,_⟩:=d (mask+1) (aAj _);have:=R1 (m:=aBa k) f (λx a=>aBd.mpr (g x a));simp at this
  lia
def DN (mask:Nat)(b:List Int):Laid mask b (aEy (mask+1) none) 0:=by
 have a:∀(j i:Nat),(aEy (mask+1) (none:Option Nat))[j]?=some (some i)->False:=λj i h=>by rw[Array.getElem?_replicate]at h;split at h<;>cases h
 exact⟨by simp,λj i h=>(a j i h).elim,λj d i h=>(a j i h).elim,λi e=>by lia,λj i _ h=>(a j i h).elim⟩
def Laid.step {mask k:Nat}{g:List Int}{owner:Array (Option Nat)}(L:Laid mask g owner k){h:Int}(t:g[k]?=some h){n:Nat}(u:¬R6 owner (o5 mask h n).j)(v:∀m<n,R6 owner (o5 mask h m).j):
  Laid mask g (owner.setIfInBounds (o5 mask h n).j (some k)) (k+1):=by
 have w:=xR mask h n;have o:(o5 mask h n).j<owner.size:=by rw[L.size];lia
 have get:∀(j i:Nat),(owner.setIfInBounds (o5 mask h n).j (some k))[j]?=some (some i)↔(j=(o5 mask h n).j/\i=k)\/(j≠(o5 mask h n).j/\owner[j]?=some (some i)):=λj i=>by
  rw[Array.getElem?_setIfInBounds];by_cases q:(o5 mask h n).j=j
  .rw[hV q,hV o];simp[q,eq_comm]
  .rw[h9 q];constructor
   .intro z;exact .inr ⟨λy=>q y.symm,z⟩
   .rintro(⟨z,_⟩|⟨_,z⟩)
    .exact absurd z.symm q
    .exact z
 have x:∀i,owner[(o5 mask h n).j]?≠some (some i):=λi z=>u ((lP L.size w).mpr ⟨i,z⟩);have grow:∀l:Nat,(∃i:Nat,owner[l]?=some (some i))->∃i:Nat,(owner.setIfInBounds (o5 mask h n).j (some k))[l]?=some (some i):=λl A=>by
  obtain⟨i,z⟩:=A;by_cases q:l=(o5 mask h n).j
  .exact⟨k,(get l k).mpr (.inl ⟨q,rfl⟩)⟩
  .exact⟨i,(get l i).mpr (.inr ⟨q,z⟩)⟩
 refine⟨by simp[L.size],λj i z=>?_,λj p i z s=>?_,λi C=>?_,λj i r z e=>?_⟩
 .rcases(get j i).mp z with⟨_,q⟩|⟨_,q⟩
  .lia
  .have:=L.lt j i q;lia
 .rcases(get j i).mp z with⟨d,a⟩|⟨d,a⟩
  .rcases(get p i).mp s with⟨f,b⟩|⟨f,b⟩
   .rw[d,f]
   .subst a;have:=L.lt _ _ b;lia
  .rcases(get p i).mp s with⟨f,b⟩|⟨f,b⟩
   .subst b;have:=L.lt _ _ a;lia
   .exact L.inj j p i a b
 .by_cases q:i=k
  .subst q;exact⟨_,(get _ _).mpr (.inl ⟨rfl,rfl⟩)⟩
  .obtain⟨j,z⟩:=L.sur i (by lia);exact⟨j,(get j i).mpr (.inr ⟨λy=>by subst y;exact x i z,z⟩)⟩
 .rcases(get j i).mp z with⟨d,a⟩|⟨d,a⟩
  .subst d a;have:r=h:=Option.some.inj (e.symm.trans t);subst this;exact⟨n,rfl,λm B=>grow _ ((lP L.size<|xR mask r m).mp (v m B))⟩
  .exact(L.reach j i r a e).mono grow
def AR {mask:Nat}(F:nT (mask+1))(b:Array Int)(z:b.size<=mask):∃owner,layClean mask b=some owner/\Laid mask b.toList owner b.size:=by
 have g:∀(post a:List Int) (owner:Array (Option Nat)),b.toList=a++post->Laid mask b.toList owner a.length->
   ∃d,post.foldl (λB h=>do
    let(owner,k)<-B
    let j<-layClean.free mask owner (turns mask) (aDX h%(mask+1)) (aDX h)
    pure (owner.setIfInBounds j (some k),k+1)) (some (owner,a.length))=some (d,b.size)/\Laid mask b.toList d b.size:=λpost=>by
  induction post with
  |nil=>
   intro a owner e L;have:a.length=b.size:=by rw[<-aBk,e];simp
   exact⟨owner,by rw[List.foldl_nil,this],by rw[<-this];exact L⟩
  |cons h post i=>
   intro a owner e L;have f:a.length<b.size:=by rw[<-aBk,e];simp
   obtain⟨j,l,m⟩:=L.room (by lia);obtain⟨n,o,p,q⟩:=oB F h owner l m;have r:b.toList[a.length]?=some h:=by rw[e];simp
   have s:=L.step r p q;rw[aEz];have t:b.toList=(a++[h])++post:=by rw[e];simp
   obtain⟨d,u,v⟩:=i (a++[h]) _ t (by rw[aAB];exact s);refine⟨d,?_,v⟩;rw[<-u];congr 1;simp[o]
 obtain⟨owner,w,x⟩:=g b.toList [] (aEy (mask+1) none) rfl (DN mask b.toList);refine⟨owner,?_,x⟩;unfold layClean;rw[<-Array.foldl_toList];have y:List.foldl (λB h=>do
    let(owner,k)<-B
    let j<-layClean.free mask owner (turns mask) (aDX h%(mask+1)) (aDX h)
    pure (owner.setIfInBounds j (some k),k+1)) (some (aEy (mask+1) none,0)) b.toList=some (owner,b.size):=w
 rw[y];rfl
def G5 (mask:Nat)(owner:Array (Option Nat)):List (Nat×Nat):=(aBa<|mask+1).filterMap λj=>(owner.getD j none).map (j,·)
def S6 {mask:Nat}{owner:Array (Option Nat)}(g:owner.size=mask+1){j i:Nat}:(j,i)∈G5 mask owner↔owner[j]?=some (some i):=by
 unfold G5;rw[aCb];constructor
 .rintro⟨l,a,e⟩;have f:l<owner.size:=by rw[g];exact aBd.mp a
  have b:owner.getD l none=owner[l]:=by simp[aFi,f]
  rw[b,aDm]at e;obtain⟨k,d,h⟩:=e;cases h;rw[aAM f,d]
 .intro e;obtain⟨a,d⟩:=aCl.mp e;have b:owner.getD j none=owner[j]:=by simp[aFi,a]
  exact⟨j,aBd.mpr (by lia),by rw[b,d];rfl⟩
def zZ (mask:Nat)(owner:Array (Option Nat)):((G5 mask owner).map (·.1)).Pairwise (· <·):=by unfold G5;rw[aBb];have:(aBa<|mask+1).Pairwise (· <·):=List.pairwise_lt_range;refine List.Pairwise.filterMap _ (R:=(· <·)) ?_ this;intro a g f b d h e;rw[aDm]at d e;obtain⟨_,_,rfl⟩:=d;obtain⟨_,_,rfl⟩:=e;exact f
def NJ {mask finger moves:Nat}{led plain:Bool}(F:nT (mask+1))(es:Array (Int×ao))(A:es.size<=mask):
  ∃t' f,laid mask finger moves led plain (es.map (·.1))=some (t',f)/\(f.filterMap (es[·]?)).size=es.size/\(f.filterMap (es[·]?)).toList.Perm es.toList/\SOk t' (f.filterMap (es[·]?)).toList/\
   t'.mask=mask/\t'.dummies=#[]/\t'.led=led/\t'.plain=plain/\t'.moves=moves:=by
 obtain⟨d,J,L⟩:=AR F (es.map (·.1)) (by simpa using A);have m:(es.map (·.1)).size=es.size:=by simp
 rw[m]at L;refine⟨{mask,place:=((G5 mask d).map (·.1)).toArray,dummies:=#[],finger,led,moves,plain},((G5 mask d).map (·.2)).toArray,?_,?_⟩
 .unfold laid;rw[J];rfl
 have n:(G5 mask d).Nodup:=by have:=zZ mask d;rw[aBb]at this;exact aCk.mpr (this.imp λ{a b} h e=>by subst e;exact aBs _ h)
 have o:((G5 mask d).map (·.2)).Nodup:=by rw[aCk,aBb];refine List.Pairwise.imp_of_mem (R:=(· ≠·)) ?_ (aCk.mp n);rintro⟨j,i⟩ ⟨p,r⟩ N O Q e;dsimp only at e;subst e;have:=L.inj j p i ((S6 L.size).mp N) ((S6 L.size).mp O);subst this;exact Q rfl
 have B:((G5 mask d).map (·.2)).Perm (aBa es.size):=by
  rw[aBf o List.nodup_range];intro i;rw[aBd,aAk];constructor
  .rintro⟨⟨j,r⟩,h,rfl⟩;exact L.lt _ _ ((S6 L.size).mp h)
  .intro s;obtain⟨j,t⟩:=L.sur i s;exact⟨(j,i),(S6 L.size).mpr t,rfl⟩
 have C:(((G5 mask d).map (·.2)).toArray.filterMap (es[·]?)).toList=(G5 mask d).filterMap (λx=>es[x.2]?):=by rw[Array.toList_filterMap,aDp];rfl
 have T:((G5 mask d).filterMap (λx=>es[x.2]?)).Perm es.toList:=by
  have U:(G5 mask d).filterMap (λx=>es[x.2]?)=((G5 mask d).map (·.2)).filterMap (λi=>es[i]?):=by rw[aDp];rfl
  rw[U];refine(B.filterMap _).trans (aDw ?_);apply aFk;intro i;have:(aBa es.size).filterMap (λi=>es[i]?)=es.toList:=by
   have q:∀l:List (Int×ao),(aBa l.length).filterMap (λi=>l[i]?)=l:=λl=>by
    induction l with
    |nil=>rfl
    |cons a l u=>
     rw[aAp,aEd,aCK];simp only[aDg];rw[aDp];have:((λi=>(a::l)[i]?)∘Nat.succ)=λi=>l[i]?:=by funext i;simp
     rw[this,u]
   have:=q es.toList;simpa using this
  rw[this]
 have Y:∀l:List (Nat×Nat),(∀x∈l,x.2<es.size)->(l.map (·.1)).zip (l.filterMap<|λx=>es[x.2]?)=l.filterMap (λx=>es[x.2]?.map (x.1,·))/\(l.filterMap<|λx=>es[x.2]?).length=l.length:=λl=>by
  induction l with
  |nil=>intro _;exact⟨rfl,rfl⟩
  |cons x l u=>intro h;obtain⟨i1,i2⟩:=u (λy hy=>h y (aAe _ hy));have w:=h x (by simp);have e:es[x.2]?=some es[x.2]:=aAM w;rw[aAi,aCK,e];dsimp only;rw[aCK,e];dsimp only[Option.map_some];rw[aBZ,i1];exact⟨rfl,by simp[i2]⟩
 obtain⟨z1,E⟩:=Y (G5 mask d) (λx w=>L.lt x.1 x.2 ((S6 L.size).mp w));have H:(G5 mask d).length=es.size:=by have:=B.length_eq;simpa using this
 rw[C];refine⟨by rw[<-aBk,C,E,H],T,⟨⟨?_,λj t=>?_,rfl⟩,F,?_,?_,λe g=>?_⟩,rfl,rfl,rfl,rfl,rfl⟩
 .intro i k s m z;have:=aCo.mp (zZ mask d) i k (by simpa using s) (by simpa using m) z;simpa using this
 .have ua:j∈(G5 mask d).map (·.1):=by simpa using t
  obtain⟨⟨p,i⟩,h,rfl⟩:=aAk.mp ua;have:=(aCl.mp<|(S6 L.size).mp h).1;rw[L.size]at this;show p<=mask
  lia
 .rw[E];simp
 .simp only[aAq,aAf,H];exact A
 .unfold zJ at g;dsimp only at g;rw[z1,aCb]at g;obtain⟨⟨j,i⟩,h,I⟩:=g;rw[aDm]at I;obtain⟨⟨hh,v⟩,e2,rfl⟩:=I;have ho:=(S6 L.size).mp h;have:=L.reach j i hh ho (by rw[aAE,Array.getElem?_map,e2];rfl);refine this.mono λl z9=>?_;obtain⟨r,dc⟩:=z9;show l∈(G5 mask d).map (·.1);exact aAk.mpr ⟨(l,r),(S6 L.size).mpr dc,rfl⟩
end ST
namespace TS
open PySem PyProof.Rows
abbrev tupK:Bool->SortKind:=sortPriv%PySem.Builtin.KeyKind.tuples
structure TB (f:Bool)(a5:Array Keyed)(st:SortSt):Prop where
 perm:(arrOf st).Perm a5
 kind:kindOf st=tupK f
 failed:failedOf st=none
 pend:pendingOf st=#[]
def TB.size {f:Bool}{a5:Array Keyed}{st:SortSt}(h:TB f a5 st):(arrOf st).size=a5.size:=h.perm.size_eq
def TB.setArr {f:Bool}{a5:Array Keyed}{st:SortSt}(h:TB f a5 st){Y:Array Keyed}(a:Y.Perm (arrOf st)):TB f a5 (PyProof.Rows.setArr st Y):=
 ⟨a.trans h.perm,h.kind,h.failed,h.pend⟩
def VM (f:Bool)(A:cf)(s:a9)(κ:KeyKind):Prop:=
 ∀(d:bt) (w:cp) (E:G0) (x y:ao) (a b:κ.α) {Q:BL},
  κ.keyOf x=some a->κ.keyOf y=some b->Q (κ.blt a b) s->aA (be d w) A (keyLt' (tupK f) x y) Q E s
def TB.atK {f:Bool}{κ:KeyKind}{a5:Array Keyed}{st:SortSt}(h:TB f a5 st)(h0:KeysOf κ a5){i:Nat}(d:i<a5.size):∃x p a,(arrOf st)[i]?=some (x,p)/\κ.keyOf x=some a/\KK κ (arrOf st) i=a:=by
 have g:i<(arrOf st).size:=by rw[h.size];exact d
 obtain⟨a,b⟩:=h0 _ ((aEO.mp h.perm).mem_iff.mp (show(arrOf st)[i]∈(arrOf st).toList by simp));have e:(arrOf st)[i]?=some (arrOf st)[i]:=getElem?_pos _ i g;exact⟨(arrOf st)[i].1,(arrOf st)[i].2,a,by rw[e],b,by unfold KK;rw[e];simp[b]⟩
section
def ltT (f:Bool){prog:bt}{w:cp}{A:cf}{E:G0}{s:a9}{a5:Array Keyed}{κ:KeyKind}{st:SortSt}{i j:Nat}{Q:Option Bool->SortSt->Prop}(e:VM f A s κ)(d:TB f a5 st)(h0:KeysOf κ a5)(g:i<a5.size)(k:j<a5.size)
  (h:Q (some (κ.blt (KK κ (arrOf st) i) (KK κ (arrOf st) j))) st):wpS (be prog w) A E s (ltAt' i j) Q st:=by
 obtain⟨x,p,a,l,m,n⟩:=d.atK h0 g;obtain⟨y,q,b,o,r,t⟩:=d.atK h0 k;rw[n,t]at h;rw[ltAt'_eq];refine aBx (wpS_get ?_);show wpS _ _ _ _ (do let x<-elem' (arrOf st) i;let y<-elem' (arrOf st) j;lt' x y) Q st;rw[elem'_eq,elem'_eq,l,o];refine aBx (aCp<|aBx<|aCp ?_);rw[lt'_eq];refine aBx (wpS_get ?_);rw[d.kind];refine aBx (wpS_lift<|aEv<|e prog w _ x y a b m r ⟨rfl,?_⟩);exact aCp h
def up1 (S:SortedToK κ Y x)(h:1<=x->κ.kle (KK κ Y (x-1)) (KK κ Y x)):SortedToK κ Y (x+1):=λi j a b=>by
 rcases aDq (aFl b)with d|rfl
 .exact S i j a d
 .rcases aDq a with e|rfl
  .exact KeyOrd.kle_trans (S i (j-1) (by lia) (by lia)) (h (by lia))
  .exact KeyOrd.kle_refl _
def dn1 (S:NonIncK κ Y x)(h:1<=x->κ.kle (KK κ Y x) (KK κ Y (x-1))):NonIncK κ Y (x+1):=λi j a b=>by
 rcases aDq (aFl b)with d|rfl
 .exact S i j a d
 .rcases aDq a with e|rfl
  .exact KeyOrd.kle_trans (h (by lia)) (S i (j-1) (by lia) (by lia))
  .exact KeyOrd.kle_refl _
def QJ (S:NonIncK κ Y x)(e:∀k,KK κ N k=KK κ Y k):NonIncK κ N x:=λi j a b=>by rw[e,e];exact S i j a b
def EC (κ:KeyKind)(Y:Array Keyed)(x c:Nat):Prop:=c+1<=x/\∀k,x-(c+1)<=k->k<x->KK κ Y k=KK κ Y (x-1)
def EC.one (h:1<=x):EC κ Y x 0:=⟨h,λk a b=>by rw[show k=x-1 by lia]⟩
variable{st:SortSt}
def PK (i:VM f A s κ)(h0:KeysOf κ a5)(l:m<=a5.size)(B:TB f a5 st)(o:1<=a)(b:a<=m)(S:SortedToK κ (arrOf st) a){Q:AscSt->SortSt->Prop}(q:∀n,a<=n->n<=m->SortedToK κ (arrOf st) n->(n<m->κ.klt (KK κ (arrOf st) n) (KK κ (arrOf st) (n-1)))->Q (none,n) st):wpS (be prog w) A E s (ascLoop a m) Q st:=by
 refine aEh (I:=λn r t=>t=st/\r=(none,n)/\SortedToK κ (arrOf st) n) (λn r t j l2 k=>?_) (λr t ⟨g,h,d⟩=>?_) ⟨rfl,rfl,S⟩
 .obtain⟨g,h,d⟩:=k;subst g h;refine aBx (ltT f i B h0 (by lia) (by lia) ?_);cases z:κ.blt (KK κ (arrOf t) n) (KK κ (arrOf t)<|n-1)with
  |true=>exact aCp (q n j (by lia) d λ_=>z)
  |false=>exact aCp ⟨rfl,rfl,up1 d λ_=>z⟩
 .subst g h;have e:max a m=m:=Nat.max_eq_right b;rw[e]at d⊢;exact q m b (aAj _) d λz=>absurd z (aBs _)
abbrev Told (f:Bool)(κ:KeyKind)(a5:Array Keyed)(m:Nat)(Q:Option Nat->SortSt->Prop):Prop:=∀n t,TB f a5 t->1<=n->n<=m->SortedToK κ (arrOf t) n->Q (some n) t
def BC (h:VM f A s κ)(h0:KeysOf κ a5)(a:m<=a5.size)(B:TB f a5 st)(b:1<=n)(d:n<=m)(S:NonIncK κ (arrOf st) n){Q:Option Nat->SortSt->Prop}(q:Told f κ a5 m Q):
  wpS (be prog w) A E s (tail3 n m) Q st:=by
 have g:=B.setArr (aGi (arrOf st) 0 n<|(n-0)/2);have l:n<=(arrOf st).size:=by rw[B.size];exact aAl d a
 refine aBx (aGj<|aBx<|PK h h0 a g b d (λi j v o=>?_) λk p r t _=>aCp (q k _ g (aAl b p) r t));have e:∀k,k<n->KK κ (arrOf<|setArr st<|mirror (arrOf st) 0 n<|(n-0)/2) k=KK κ (arrOf st) (0+n-1-k):=λk u=>(KK_mirror l k).trans (hV ⟨aAX _,u⟩);rw[e i (by lia),e j o];exact S _ _ (by lia) (by lia)
def RK (g:VM f A s κ)(h0:KeysOf κ a5)(C:m<=a5.size)(B:TB f a5 st)(h:1<=n)(j:n<=m)(S:NonIncK κ (arrOf st) n){Q:DescSt->SortSt->Prop}(q:∀k c t,TB f a5 t->1<=k->k<=m->NonIncK κ (arrOf t) k->EC κ (arrOf t) k c->Q (none,k,c) t):wpS (be prog w) A E s (descLoop n m) Q st:=by
 refine aEh (I:=λk r t=>∃c,r=(none,k,c)/\TB f a5 t/\NonIncK κ (arrOf t) k/\EC κ (arrOf t) k c) (λk r t H l2 p=>?_) (λr t ⟨c,e,a,d,b⟩=>?_) ⟨0,rfl,B,S,EC.one h⟩
 .obtain⟨c,e,a,d,b⟩:=p;subst e;have u:k<=(arrOf t).size:=by rw[a.size];lia
  dsimp only;refine aBx (ltT f g a h0 (by lia) (by lia) ?_);cases z:κ.blt (KK κ (arrOf t) k) (KK κ (arrOf t)<|k-1)with
  |true=>
   have l:NonIncK κ (arrOf t) (k+1):=dn1 d λ_=>KeyOrd.kle_of_klt z;show wpS _ _ _ _ (if c>0 then _ else _) _ t;by_cases o:c>0
   .rw[hV o];exact aBx (aGj (aCp ⟨0,rfl,a.setArr (aGi _ _ _ _),QJ l (aFO u b.2),EC.one (by lia)⟩))
   .rw[h9 o];exact aCp ⟨0,rfl,a,l,EC.one (by lia)⟩
  |false=>
   dsimp only;simp only[aAu,if_false];refine aBx (ltT f g a h0 (by lia) (by lia) ?_);cases v:κ.blt (KK κ (arrOf t)<|k-1) (KK κ (arrOf t) k)with
   |true=>exact aCp (q k c t a (by lia) (by lia) d b)
   |false=>
    have e:KK κ (arrOf t) k=KK κ (arrOf t) (k-1):=KeyOrd.kle_antisymm v z;refine aCp ⟨c+1,rfl,a,dn1 d λ_=>by rw[e];exact KeyOrd.kle_refl _,by have:=b.1;lia,λi J x=>?_⟩;show KK κ (arrOf t) i=KK κ (arrOf t) k;rcases aDq (aFl x)with y|rfl
    .rw[e];exact b.2 i (by lia) y
    .rfl
 .subst e;have e:max n m=m:=Nat.max_eq_right j;rw[e]at d b⊢;exact q m c t a (aAl h j) (aAj _) d b
def AD (a:VM f A s κ)(h0:KeysOf κ a5)(b:m<=a5.size)(B:TB f a5 st)(j:n+1<=m)(S:NonIncK κ (arrOf st) (n+1)){Q:Option Nat->SortSt->Prop}(q:Told f κ a5 m Q):
  wpS (be prog w) A E s (descPart n m) Q st:=by
 refine aBx (wpS_lift<|aDC ⟨rfl,aBx (RK a h0 b B (aGD n) j S λk c t d e g h l=>?_)⟩);have o:k<=(arrOf t).size:=by rw[d.size];lia
 show wpS _ _ _ _ (if c>0 then _ else _) _ t;by_cases i:c>0
 .rw[hV i];exact aBx (aGj<|BC a h0 b (d.setArr<|aGi _ _ _ _) e g (QJ h<|aFO o l.2) q)
 .rw[h9 i];exact BC a h0 b d e g h q
def JN (a:VM f A s κ)(h0:KeysOf κ a5)(b:m<=a5.size)(l:1<=m)(B:TB f a5 st){Q:Option Nat->SortSt->Prop}(q:Told f κ a5 m Q):wpS (be prog w) A E s (countRun' 0 m) Q st:=by
 rw[countRun0_eq];refine aBx (PK a h0 b B (aAj 1) l (up1 (λ_ _ _ z=>absurd z (aFP _)) λz=>absurd z (by decide)) λn d e S o=>?_);show wpS _ _ _ _ (if(n==m)=true then _ else _) _ st;by_cases g:n=m
 .rw[hV (beq_iff_eq.mpr g)];exact aCp (q n st B d e S)
 .rw[h9 λz=>g (beq_iff_eq.mp z)];have lt:=o (by lia);by_cases h:n>1
  .rw[hV h];refine aBx (ltT f a B h0 (by lia) (by lia) ?_);cases z:κ.blt (KK κ (arrOf st) 0) (KK κ (arrOf st)<|n-1)with
   |true=>exact aCp (q n st B d e S)
   |false=>
    have p:n<=(arrOf st).size:=by rw[B.size];lia
    have same:∀k,0<=k->k<n->KK κ (arrOf st) k=KK κ (arrOf st) (n-1):=λk _ r=>KeyOrd.kle_antisymm (S k (n-1) (by lia) (by lia)) (KeyOrd.kle_trans z<|S 0 k (aAX _) r);have t:NonIncK κ (arrOf st) n:=λi j v u=>by rw[same i (aAX _) (by lia),same j (aAX _) u];exact KeyOrd.kle_refl _
    exact aBx (aGj (AD a h0 b (B.setArr<|aGi _ _ _ _) (by lia) (QJ (dn1 t λ_=>KeyOrd.kle_of_klt lt)<|aFO p same) q))
  .rw[h9 h];obtain rfl:n=1:=by lia
   exact AD a h0 b B (by lia) (dn1 (dn1 (λ_ _ _ z=>absurd z (aFP _)) λz=>absurd z (by decide)) λ_=>KeyOrd.kle_of_klt lt) q
def rM (hO:VM f A s κ)(h0:KeysOf κ a5)(hn:n<=a5.size)(hk:k<=n)(B:TB f a5 st)(S:SortedToK κ (arrOf st) k){Q:Bool->SortSt->Prop}(q:∀t,TB f a5 t->SortedToK κ (arrOf t) n->Q true t):
  wpS (be prog w) A E s (binarySort' 0 n k) Q st:=by
 rw[binarySort'_eq];simp only[aFM];have S0:SortedToK κ (arrOf st) (min (max k 1) n):=λi j H N=>by
  rcases Nat.eq_or_lt_of_le H with rfl|ah
  .exact KeyOrd.kle_refl _
  .exact S i j H (by lia)
 refine aBx (wpS_mono (Q:=λr t=>r=(none,())/\TB f a5 t/\SortedToK κ (arrOf t) n) (aEh (I:=λx r t=>r=(none,())/\TB f a5 t/\SortedToK κ (arrOf t) (min x n)) (λx r t l1 l2 ⟨e,h,g⟩=>?step) (λr t ⟨e,h,g⟩=>⟨e,h,?fin⟩) ⟨rfl,B,S0⟩) λr t ⟨e,h,g⟩=>?post)
 case step=>
  subst e;rw[aFQ (aDx l2)]at g;have O:x<a5.size:=by lia
  let p (l:Nat):Prop:=∀i,i<l->κ.kle (KK κ (arrOf t) i) (KK κ (arrOf t) x)
  let Top (r:Nat):Prop:=∀i,r<=i->i<x->κ.klt (KK κ (arrOf t) x) (KK κ (arrOf t) i)
  refine aBx (wpS_mono (Q:=λd u=>u=t/\∃l r,d=(none,l,r)/\l<=x/\p l/\Top l) (aEh (I:=λy d u=>u=t/\∃l r,d=(none,l,r)/\l<=r/\r<=x/\r-l<=x-y/\p l/\Top r) (λy d u _ y2 ⟨e,l,r,v,T,J,L,lo,o⟩=>?istep) (λd u ⟨e,l,r,v,T,J,L,lo,o⟩=>?ifin)
   ⟨rfl,0,x,rfl,aAX _,aAj _,aAj _,λ_ z=>absurd z (aFP _),λi a b=>absurd (aCR a b) (aBs _)⟩) λd u ⟨e,l,r,v,lx,lo,o⟩=>?ipost)
  case istep=>
   subst e v;show wpS _ _ _ _ (if l>=r then _ else _) _ u;by_cases m:l>=r
   .rw[hV m];obtain rfl:l=r:=aFK T m;exact aCp ⟨rfl,l,l,rfl,J,lo,o⟩
   .rw[h9 m];dsimp only;refine aBx (ltT f hO h h0 O (by lia) ?_);cases z:κ.blt (KK κ (arrOf u) x) (KK κ (arrOf u)<|(l+r)/2)with
    |true=>exact aCp ⟨rfl,l,(l+r)/2,rfl,by lia,by lia,by lia,lo,λi a b=>KeyOrd.klt_of_klt_of_kle z (g _ i a b)⟩
    |false=>exact aCp ⟨rfl,(l+r)/2+1,r,rfl,by lia,by lia,by lia,λi a=>KeyOrd.kle_trans (g i ((l+r)/2) (by lia) (by lia)) z,o⟩
  case ifin=>
   subst e v;obtain rfl:l=r:=by lia
   exact⟨rfl,l,l,rfl,J,lo,o⟩
  case ipost=>
   subst e v;have hz:x<(arrOf u).size:=by rw[h.size];exact O
   show wpS _ _ _ _ (do moveDown' x l;pure (aCr (none,()))) _ u;rw[moveDown'_eq];refine aBx (wpS_modify<|aCp ⟨rfl,h.setArr (bubble_perm _ _ _),λi j H N=>?_⟩);have e:∀k,KK κ (arrOf<|setArr u<|bubble (arrOf u) x<|x-l) k=if k=l then KK κ (arrOf u) x else if l<k/\k<=x then KK κ (arrOf u) (k-1)else KK κ (arrOf u) k:=λk=>by have:=KK_bubble (κ:=κ) hz (Nat.sub_le x l) k;rw[show x-(x-l)=l by lia]at this;exact this
   have N:j<x+1:=by lia
   rw[e,e];by_cases U:i=l
   .rw[hV U];by_cases C:j=l
    .rw[hV C];exact KeyOrd.kle_refl _
    .rw[h9 C,hV ⟨by lia,by lia⟩];exact KeyOrd.kle_of_klt (o _ (by lia) (by lia))
   .rw[h9 U];by_cases C:j=l
    .rw[hV C,h9 λz=>by lia];exact lo i (by lia)
    .rw[h9 C];by_cases Y:l<i/\i<=x
     .rw[hV Y,hV ⟨by lia,by lia⟩];exact g _ _ (by lia) (by lia)
     .rw[h9 Y];by_cases c4:l<j/\j<=x
      .rw[hV c4];exact g _ _ (by lia) (by lia)
      .rw[h9 c4];exact g _ _ H (by lia)
 case fin=>rw[show min (max (max k 1) n) n=n by lia]at g;exact g
 case post=>subst e;exact aCp (q t h g)
def nP (f:Bool)(h:VM f A s κ)(h0:KeysOf κ a5)(B:TB f a5 st)(y:2<=a5.size)(d:a5.size<64){Q:Unit->SortSt->Prop}(q:∀t,(arrOf t).Perm a5->failedOf t=none->SortedToK κ (arrOf t) a5.size->Q () t):wpS (be prog w) A E s sortRuns' Q st:=by
 have l:minRun' a5.size a5.size 0=a5.size:=by
  generalize C:a5.size=N at*
  cases N with
  |zero=>lia
  |succ N=>rw[minRun'_succ,hV d]
 let ZG (t:SortSt):Prop:=(arrOf t).Perm a5/\failedOf t=none/\pendingOf t=#[(0,a5.size,0)]/\SortedToK κ (arrOf t) a5.size
 have done:∀t,TB f a5 t->SortedToK κ (arrOf t) a5.size->ZG (setPending t<|(pendingOf t).push (0,a5.size,0)):=λt a m=>⟨a.perm,a.failed,(ip (·.push (0,a5.size,0)) a.pend),m⟩;rw[sortRuns'_eq];refine aBx (wpS_get ?_);dsimp only;simp only[B.size,l];refine aBx (wpS_mono (Q:=λr t=>r=(none,a5.size)/\ZG t) (aEh (I:=λx r t=>(x=0/\r=(none,0)/\TB f a5 t)\/(0<x/\r=(none,a5.size)/\ZG t)) (λx r t _ l2 I=>?step) (λr t I=>?fin)<|.inl ⟨rfl,rfl,B⟩) λr t ⟨e,D⟩=>?post)
 case step=>
  rcases I with⟨rfl,rfl,a⟩|⟨H,rfl,D⟩
  .show wpS _ _ _ _ (if 0>=a5.size then _ else _) _ t;rw[h9 (by lia)];simp only[Nat.sub_zero,Nat.min_self,aFM];have fin:∀u,TB f a5 u->(pendingOf u).back?=none:=λu b=>by rw[b.pend];rfl
   refine aBx (JN h h0 (aAj _) (by lia) a λn u b J o i=>?_);show wpS _ _ _ _ (if n<a5.size then _ else _) _ u;by_cases j:n<a5.size
   .rw[hV j];refine aBx (wpS_lift<|aDC ⟨rfl,aBx (rM h h0 (aAj _) o b i λv k p=>?_)⟩);simp only[aDD,aAu,if_false];refine aBx (wpS_get ?_);rw[fin v k];exact aBx (wpS_modify<|aCp<|.inr ⟨aGD _,rfl,done v k p⟩)
   .rw[h9 j];obtain rfl:n=a5.size:=by lia
    refine aBx (wpS_get ?_);rw[fin u b];exact aBx (wpS_modify<|aCp<|.inr ⟨aGD _,rfl,done u b i⟩)
  .show wpS _ _ _ _ (if a5.size>=a5.size then _ else _) _ t;rw[hV (aAj _)];exact aCp ⟨rfl,D⟩
 case fin=>
  rcases I with⟨z,_⟩|⟨_,e,D⟩
  .lia
  .exact⟨e,D⟩
 case post=>
  subst e;refine aBx (wpS_mono (Q:=λr u=>u=t/\r=(none,())) (aEh (I:=λ_ r u=>u=t/\r=(none,())) (λ_ r u _ _ ⟨e,g⟩=>?istep) (λ_ _ z=>z) ⟨rfl,rfl⟩) λr u ⟨e,g⟩=>?ipost)
  case istep=>subst e g;refine aBx (wpS_get ?_);rw[hV (by rw[D.2.2.1];exact aAj 1)];exact aCp ⟨rfl,rfl⟩
  case ipost=>subst e g;exact aCp (q _ D.1 D.2.1 D.2.2.2)
end
section
def Bar (a:bb)(s d:a9):Prop:=∀b o,b≠a->s.heap.get? b=some o->d.heap.get? b=some o
def BY {P:Fin->a9->Prop}(q:s.heap.get? a=some (seqObj "list" L.toArray n))(h0:KeysOf κ (pairsOf L))(y:∀k,Bar a s k->VM f A k κ)(t:2<=L.length->∀k,Bar a s k->∀{Q:SortKind->a9->Prop},Q (tupK f) k->aA (be prog w) A (keyKind' L.toArray) Q E k)(u:L.length<64)(h:∀d:SortSt,(arrOf d).Perm (pairsOf L)->SortedToK κ (arrOf d) (pairsOf L).size->P (.done (.ret .none)) {s with heap:=sortedHeap s.heap a L ((arrOf d).map (·.2))}):
  aA (be prog w) A (Builtin.«list.sort» ⟨[.ref a],[]⟩) P E s:=by
 rw[list_sort_plain];have z:a<s.heap.objs.size:=aAg q;refine aAa (aEi q rfl ?_);refine aAa (listUpdate_at q rfl ?_);obtain⟨v,l⟩:∃v,(s.heap.update a<|aBT λ_=>#[]).get? a=some (seqObj "list" #[] v):=⟨_,get?_update_seq q _⟩;refine aAa (seqEpoch_at l rfl<|aAa<|aGd<|aAa<|wpAny_newList<|aAY ?_);have B:a≠(s.heap.update a<|aBT λ_=>#[]).objs.size:=by rw[Heap.size_update];exact aAn z
 have m:Bar a s {s with heap:=((s.heap.update a<|aBT λ_=>#[]).push (seqObj "tuple" L.toArray 0)).push (seqObj "list" #[] 0)}:=λb o C e=>aAc _ (aAc _<|(aAI _ _<|aCa C).trans e)
 have g:(((s.heap.update a<|aBT λ_=>#[]).push (seqObj "tuple" L.toArray 0)).push (seqObj "list" #[] 0)).get? a=some (seqObj "list" #[] v):=aAc _ (aAc _ l);show aA (be prog w) A _ P E {s with heap:=((s.heap.update a<|aBT λ_=>#[]).push (seqObj "tuple" L.toArray 0)).push (seqObj "list" #[] 0)};dsimp only;have U:L.toArray.size=L.length:=by simp
 have p:=h;by_cases r:L.toArray.size<2
 .rw[hV r,hV r];refine aAa (aAb ?_);rw[StateT.run_pure];refine aAa (aAb ?_);dsimp only;refine aAa (seqEpoch_at g rfl (aAa (listUpdate_at g rfl ?_ (hsz2:=by rw[Array.size_map];show(pairsOf L).size<=_;rw[aEV,aFs];lia))));simp only[bne_self_eq_false,aAu,if_false];refine aAb (p (SortSt.mk' general' (L.toArray.zip L.toArray) #[] 7 none) (aGG _) λi j Y H=>?_);have:i=j:=by rw[aEV]at H;lia
  subst this;exact KeyOrd.kle_refl _
 .rw[h9 r,h9 r];refine aAa (t (by lia) _ m ?_);refine aAa (aCH (nP f (κ:=κ) (y _ m) (a5:=pairsOf L) (st:=SortSt.mk' (tupK f) (L.toArray.zip L.toArray) #[] 7 none) (Q:=λ_ d=>(arrOf d).Perm (pairsOf L)/\failedOf d=none/\SortedToK κ (arrOf d) (pairsOf L).size)
   h0 ⟨aGG _,rfl,rfl,rfl⟩ (by rw[aEV];lia) (by rw[aEV];exact u) λd I J N=>⟨I,J,N⟩) ?_ λ_ _ e=>e)
  rintro⟨⟨⟩,d⟩ s' ⟨rfl,x,O,T⟩;dsimp only;refine aAa (seqEpoch_at g rfl (aAa (listUpdate_at g rfl ?_ (hsz2:=by refine aAl (aEj<|(Array.size_map ..).trans (x.size_eq.trans<|aEV _)) ?_;rw[aFs];lia))));rw[O];simp only[bne_self_eq_false,aAu,if_false];exact aAb (p d x T)
end
end TS
namespace L2
open PySem PySem.Spec PyProof.Rows
abbrev BU:=Sum Int Str
def NV:BU->ao->Bool
 |.inl k,v=>Value.isInt k v
 |.inr x,v=>Value.isStrOf x v
def a3v (w:cp):BU->Int
 |.inl k=>hashInt k
 |.inr x=>hashStr w x
theorem C6:∀{k:BU} {v:ao},NV k v=true->(∃i t,k=aGu i/\v=aGH i t)\/(∃x t,k=aGv x/\v=Value.str x t)
 |.inl i,v,h=>by obtain⟨t,e⟩:=Value.isInt_shape (k:=i) (v:=v) h;exact .inl ⟨i,t,rfl,e⟩
 |.inr x,v,h=>by obtain⟨t,e⟩:=Value.isStrOf_shape (x:=x) (v:=v) h;exact .inr ⟨x,t,rfl,e⟩
def dj (a b:Int):decide ((aGu a:BU)=aGu b)=(a==b):=by
 by_cases e:a=b
 .subst e;simp
 .have h:¬(aGu a:BU)=aGu b:=λq=>e (Sum.inl.inj q);rw[decide_eq_false h];exact(beq_eq_false_iff_ne.mpr e).symm
def kj (a b:Str):decide ((aGv a:BU)=aGv b)=decide (a=b):=by
 by_cases e:a=b
 .subst e;simp
 .have h:¬(aGv a:BU)=aGv b:=λq=>e (Sum.inr.inj q);rw[decide_eq_false h,decide_eq_false e]
def lq (a:Int)(b:Str):decide ((aGu a:BU)=aGv b)=false:=decide_eq_false (λq=>nomatch q)
def kq (a:Str)(b:Int):decide ((aGv a:BU)=aGu b)=false:=decide_eq_false (λq=>nomatch q)
def wY (prog:bt)(w:cp):PySem.KeyKind prog w BU where
 is:=NV
 hash:=a3v w
 inj:=λv a b l g=>by
  rcases C6 l with⟨i,t,rfl,rfl⟩|⟨x,t,rfl,rfl⟩
  .rcases C6 g with⟨j,u,rfl,e⟩|⟨y,u,rfl,e⟩
   .injection e with d _;rw[d]
   .exact nomatch e
  .rcases C6 g with⟨j,u,rfl,e⟩|⟨y,u,rfl,e⟩
   .exact nomatch e
   .injection e with d _;rw[d]
 byValue:=λk v h=>by rcases C6 h with⟨i,t,rfl,rfl⟩|⟨x,t,rfl,rfl⟩<;>rfl
 pyHash:=λf h=>by
  rcases C6 f with⟨i,t,rfl,rfl⟩|⟨x,t,rfl,rfl⟩
  .exact wpAny_pyHash_int h
  .exact wpAny_pyHash_str h
 eqBool:=λm f h=>by
  rcases C6 m with⟨i,t,rfl,rfl⟩|⟨x,t,rfl,rfl⟩
  .rcases C6 f with⟨j,u,rfl,rfl⟩|⟨y,u,rfl,rfl⟩
   .rw[dj]at h;exact wpAny_eqBool_int h
   .rw[lq]at h;exact aGn i t y u _ _ _ _ h
  .rcases C6 f with⟨j,u,rfl,rfl⟩|⟨y,u,rfl,rfl⟩
   .rw[kq]at h;exact aGo x t j u _ _ _ _ h
   .rw[kj]at h;exact wpAny_eqBool_str h
 «strs»:=λk x t v h=>by
  rcases C6 h with⟨i,u,rfl,e⟩|⟨y,u,rfl,e⟩
  .exact nomatch e
  .injection e with d _;subst d;cases v<;>rfl
def lz (prog:bt)(w:cp)(k:BU)(v:ao):(wY prog w).is k v=NV k v:=rfl
inductive V where
 |non|bl (b:Bool)|int (i:Int)|str (x:Str)|byt (b:Array UInt8)|flt (b:UInt64)|ref (a:Addr)|ty (n:String)
 deriving DecidableEq
def RelV:V->ao->Prop
 |.non,u=>u=Value.none
 |.bl b,u=>u=aDE b
 |.int i,u=>∃t,u=aGH i t
 |.str x,u=>∃t,u=Value.str x t
 |.byt b,u=>∃t,u=Value.bytes b t
 |.flt b,u=>∃t,u=Value.float b t
 |.ref a,u=>u=aDJ a
 |.ty n,u=>u=aCx n
abbrev p5:List V->List ao->Prop:=Paired RelV
def p5.length {Y:List V}{a:List ao}(r:p5 Y a):Y.length=a.length:=Paired.length r
theorem p5.get:∀{Y:List V} {a:List ao} {i:Nat} {x:V},p5 Y a->Y[i]?=some x->∃u,a[i]?=some u/\RelV x u
 |_,_,_,_,.nil,e=>by simp at e
 |_,_,0,_,.cons r _,e=>by simp at e;subst e;exact⟨_,rfl,r⟩
 |_,_,i+1,x,.cons _ t,e=>by obtain⟨u,b,d⟩:=p5.get (i:=i) (x:=x) t (by simpa using e);exact⟨u,by simpa using b,d⟩
theorem p5.append:∀{Y N:List V} {a ws:List ao},p5 Y a->p5 N ws->p5 (Y++N) (a++ws)
 |_,_,_,_,.nil,s=>s
 |_,_,_,_,.cons r t,s=>.cons r (p5.append t s)
theorem p5.take:∀{Y:List V} {a:List ao} (n:Nat),p5 Y a->p5 (Y.take n) (a.take n)
 |_,_,0,_=>.nil
 |_,_,_+1,.nil=>.nil
 |_,_,n+1,.cons r t=>.cons r (p5.take n t)
theorem p5.drop:∀{Y:List V} {a:List ao} (n:Nat),p5 Y a->p5 (Y.drop n) (a.drop n)
 |_,_,0,r=>r
 |_,_,_+1,.nil=>.nil
 |_,_,n+1,.cons _ t=>p5.drop n t
def a0q:Option V->Option ao->Prop
 |some v,some u=>RelV v u
 |none,none=>True
 |_,_=>False
def KV {κ:Type}:List (κ×V)->List (κ×ao)->Prop:=Paired λ(p:κ×V) (q:κ×ao)=>p.1=q.1/\RelV p.2 q.2
def kV:BU->V
 |.inl i=>.int i
 |.inr x=>.str x
inductive HO where
 |lst (Y:List V)
 |tup (Y:List V)
 |dK (J:List (BU×V))|dT (J:List (List BU×V))
 |set (S:Int->Bool) (n:Nat)
 |ins (C dx:Addr) (fs:List (Str×V))
 |own (x:Addr)
 |xd (fs:List (Str×V))
 |met (f x:Addr)
 |rng (lo hi:Int)
 |frz (o:Obj) (u:HO)
 |tbl (tb:List (Pos×Str))
 |ext (φ:Heap->Prop)
abbrev Hp:=bb->Option HO
def upd (H:Hp)(a:bb)(o:HO):Hp:=λb=>if b=a then some o else H b
def l4:upd H a o a=some o:=by unfold upd;rw[hV rfl]
def m9 (h:b≠a):upd H a o b=H b:=by unfold upd;rw[h9 h]
def u4 {H:Hp}{a b:bb}{o:HO}(h:H a=some o)(h':H b=none):a≠b:=by intro e;subst e;rw[h]at h';cases h'
section
variable(P:bt) (w:cp)
def ObjOk (H:Hp)(h:cq)(a:bb):HO->Prop
 |.lst Y=>Y.length<=sizeLine/\∃(b:List ao) (n:Nat),p5 Y b/\h.get? a=some {cls:=.type "list",data:=.seq b.toArray n}
 |.tup Y=>Y.length<=sizeLine/\∃b:List ao,p5 Y b/\IsTup h a b.toArray
 |.dK J=>J.length<=sizeLine/\(a==sysModules)=false/\∃L,KV J L/\h.DictOf (wY P w) a L
 |.dT J=>J.length<=sizeLine/\(a==sysModules)=false/\∃Y:List (List BU×bb×ao),
  Paired (λ(p:List BU×V) (q:List BU×bb×ao)=>p.1=q.1/\H q.2.1=some (.tup (p.1.map kV))/\RelV p.2 q.2.2) J Y/\
  ∃o i m,h.get? a=some o/\o.ExactDict/\o.data=.dict i m/\i.toList=Y.map (entryOfKey<|tupleKind<|wY P w)/\(Y.map (·.1)).Nodup
 |.set S n=>h.SetOf (intKind P w) a S n
 |.ins C e fs=>H e=some (.own a)/\fs.length<=1000/\e≠a/\h.get? a=some (PySem.W.instObj C e)/\
  ∃d,h.Ns1 e d/\(∀f,a0q (fs.lookup f) (d f))/\PySem.Within d (fs.map (·.1))
 |.own _=>∃o,h.get? a=some o
 |.xd fs=>∃d,h.Ns1 a d/\∀f,a0q (fs.lookup f) (d f)
 |.rng lo r=>∃t u v,h.get? a=some {cls:=.type "range",data:=.fields #[.int lo t,.int r u,.int 1 v]}
 |.frz o u=>h.get? a=some o/\ObjOk H h a u
 |.tbl s=>∃g:Array ao,h.get? a=some {cls:=.none,data:=.fields g}/\TriplesOk g.toList/\∀p∈s,eV p.1 g.toList=none\/∃c j L t,eV p.1 g.toList=some (.ref c)/\H c=some (.frz j (.own c))/\j.data=.fields L/\L[1]?=some (.str p.2 t)
 |.met f x=>h.get? a=some (PySem.W.methodObj (.ref f)<|.ref x)
 |.ext φ=>φ h/\(∃o,h.get? a=some o)/\∀k l:cq,φ k->(∀o,k.get? a=some o->l.get? a=some o)->φ l
def aq:HO->Prop
 |.tup _=>True
 |.frz o _=>∃L,o.data=.fields L
 |_=>False
def gO (H:Hp)(h:cq):Prop:=∀a o,H a=some o->ObjOk P w H h a o
end
section
variable{P:bt} {w:cp} {H H':Hp} {h h':cq} {a:bb} {o:HO}
def ObjOk.lt (x:ObjOk P w H h a o):a<h.objs.size:=by
 cases o with
 |lst Y=>obtain⟨_,_,_,_,e⟩:=x;exact aAg e
 |tup Y=>obtain⟨_,_,_,p⟩:=x;exact p.lt
 |dK J=>obtain⟨_,_,_,_,o,_,_,e,_⟩:=x;exact aAg e
 |dT J=>obtain⟨_,_,_,_,o,_,_,e,_⟩:=x;exact aAg e
 |set S n=>obtain⟨o,_,_,_,e,_⟩:=x;exact aAg e
 |ins C b fs=>obtain⟨_,_,_,e,_⟩:=x;exact aAg e
 |own y=>obtain⟨_,e⟩:=x;exact aAg e
 |xd fs=>obtain⟨_,⟨_,_,_,e,_⟩,_⟩:=x;exact aAg e
 |rng lo d=>obtain⟨_,_,_,e⟩:=x;exact aAg e
 |frz g u=>obtain⟨e,_⟩:=x;exact aAg e
 |tbl i=>obtain⟨_,e,_⟩:=x;exact aAg e
 |met f y=>exact aAg (show h.get? a=some _ from x)
 |ext φ=>obtain⟨_,⟨_,e⟩,_⟩:=x;exact aAg e
theorem Paired.af5 {α β:Type}{F G:α->β->Prop}:∀{l₁:List α} {l₂:List β},Paired F l₁ l₂->(∀a b,F a b->G a b)->Paired G l₁ l₂
 |_,_,.nil,_=>.nil
 |_,_,.cons r t,f=>.cons (f _ _ r) (Paired.af5 t f)
def ObjOk.ac1 (x:ObjOk P w H h a o)(k:∀b u,(b=a\/H b=some (.own a))->h.get? b=some u->h'.get? b=some u)
  (I:∀b,H b=some (.own a)->H' b=some (.own a)) (B:∀b u,aq u->H b=some u->H' b=some u):ObjOk P w H' h' a o:=by
 induction o with
 |lst Y=>obtain⟨z,l,n,r,e⟩:=x;exact⟨z,l,n,r,k _ _ (.inl rfl) e⟩
 |tup Y=>obtain⟨z,l,r,g,e,c⟩:=x;exact⟨z,l,r,g,k _ _ (.inl rfl) e,c⟩
 |dK J=>obtain⟨z,y,L,r,g,i,j,e,c⟩:=x;exact⟨z,y,L,r,g,i,j,k _ _ (.inl rfl) e,c⟩
 |dT J=>obtain⟨z,y,Y,r,g,i,j,e,c⟩:=x;exact⟨z,y,Y,Paired.af5 r λp q z=>⟨z.1,B _ _ trivial z.2.1,z.2.2⟩,g,i,j,k _ _ (.inl rfl) e,c⟩
 |set S n=>obtain⟨g,i,j,t,e,c⟩:=x;exact⟨g,i,j,t,k _ _ (.inl rfl) e,c⟩
 |ins C dx fs=>obtain⟨d,z,ne,e,m,⟨s,i,j,A,c⟩,r⟩:=x;exact⟨I _ d,z,ne,k _ _ (.inl rfl) e,m,⟨s,i,j,k _ _ (.inr d) A,c⟩,r⟩
 |own y=>obtain⟨g,e⟩:=x;exact⟨g,k _ _ (.inl rfl) e⟩
 |xd fs=>obtain⟨m,⟨s,i,j,e,c⟩,r⟩:=x;exact⟨m,⟨s,i,j,k _ _ (.inl rfl) e,c⟩,r⟩
 |rng lo hi=>obtain⟨t,u,v,e⟩:=x;exact⟨t,u,v,k _ _ (.inl rfl) e⟩
 |frz g u N=>obtain⟨e,q⟩:=x;exact⟨k _ _ (.inl rfl) e,N q⟩
 |tbl tb=>obtain⟨O,e,t,f⟩:=x;exact⟨O,k a _ (.inl rfl) e,t,λp Q=>(f p Q).imp id λ⟨c,T,L,t,U,A,E⟩=>⟨c,T,L,t,U,B _ _ ⟨L,E.1⟩ A,E⟩⟩
 |met f y=>have e:h.get? a=some (PySem.W.methodObj (.ref f)<|.ref y):=x;show h'.get? a=some (PySem.W.methodObj (.ref f)<|.ref y);exact k a _ (.inl rfl) e
 |ext φ=>obtain⟨p,⟨o,e⟩,st⟩:=x;exact⟨st _ _ p λo q=>k _ _ (.inl rfl) q,⟨o,k _ _ (.inl rfl) e⟩,st⟩
def gO.lt (x:gO P w H h)(e:H a=some o):a<h.objs.size:=(x a o e).lt
def gO.fresh (x:gO P w H h)(e:h.objs.size<=a):H a=none:=by
 cases q:H a with
 |none=>rfl
 |some u=>exact absurd (aAv (x.lt q) e) (aBs _)
def gO.kept (x:gO P w H h)(k:∀b u,h.get? b=some u->h'.get? b=some u):gO P w H h':=λa o e=>(x a o e).ac1 (λb u _ q=>k b u q) (λ_ q=>q) λ_ _ _ q=>q
def gO.laid (x:gO P w H h)(k:∀b u,h.get? b=some u->h'.get? b=some u)(i:h.objs.size<=a)(d:ObjOk P w (upd H a o) h' a o):gO P w (upd H a o) h':=λb u e=>by
 have f:=x.fresh i;by_cases g:b=a
 .subst g;rw[l4]at e;cases e;exact d
 .rw[m9 g]at e;exact(x b u e).ac1 (λc v _ q=>k c v q) (λc q=>by rw[m9 (u4 q f)];exact q) λc Y _ q=>by rw[m9 (u4 q f)];exact q
end
def Rd (H:Hp)(a:bb)(u:HO):Prop:=H a=some u\/∃o,H a=some (.frz o u)
def Rd.ok (r:Rd H a u)(x:gO P w H h):ObjOk P w H h a u:=by
 rcases r with r|⟨o,r⟩
 .exact x a u r
 .obtain⟨_,q⟩:=x a _ r;exact q
def Mut:Option HO->Prop
 |some (.lst _)=>True
 |some (.dK _)=>True
 |some (.dT _)=>True
 |some (.set _ _)=>True
 |some (.ins _ _ _)=>True
 |some (.ext _)=>True
 |_=>False
section
variable{P:bt} {w:cp} {H:Hp} {h h':cq} {x e:bb} {o':HO}
def gO.write (ok:gO P w H h)(g:Mut (H x))(o:e=x\/H e=some (.own x))(k:∀b u,b≠e->h.get? b=some u->h'.get? b=some u)(m:∃u,h'.get? e=some u)
  (n:ObjOk P w (upd H x o') h' x o'):gO P w (upd H x o') h':=λb u q=>by
 have a:∀c y,H c=some (.own y)->c≠x:=λc y r z=>by subst z;rw[r]at g;exact g
 have d:∀c u,aq u->H c=some u->c≠x:=λc u f r z=>by subst z;rw[r]at g;cases u<;>first|exact g|exact f
 by_cases i:b=x
 .subst i;rw[l4]at q;cases q;exact n
 .rw[m9 i]at q;by_cases j:b=e
  .have p:H b=some (.own x):=by
    rcases o with z|z
    .exact absurd (j.trans z) i
    .rw[j];exact z
   rw[q]at p;cases p;obtain⟨v,s⟩:=m;exact⟨v,by rw[j];exact s⟩
  .refine(ok b u q).ac1 (λc v l r=>k c v ?_ r) (λc r=>by rw[m9 (a c b r)];exact r) λc Y f r=>by rw[m9 (d c Y f r)];exact r
   rcases l with rfl|l
   .exact j
   .rintro rfl;rcases o with z|z
    .exact a c b l z
    .rw[l]at z;cases z;exact i rfl
end
structure Un (fs ex:List Addr)(H H':Hp)(h h':Heap):Prop where
 keep:∀b o,h.get? b=some o->H b=none->b∉fs->b∉ex->h'.get? b=some o
 slot:∀b o,h.get? b=some o->H b=none->b∈fs->b∉ex->∃sl,h'.get? b=some {o with slots:=sl}
 free:∀b o,h.get? b=some o->H b=none->b∉ex->H' b=none
 there:∀b o,h.get? b=some o->b∉ex->∃o',h'.get? b=some o'
 tups:∀b Y,H b=some (.tup Y)->H' b=some (.tup Y)
 frzs:∀b o u,H b=some (.frz o u)->H' b=some (.frz o u)
 tbls:∀b tb,H b=some (.tbl tb)->H' b=some (.tbl tb)
section
variable{fs xm ex ex':List bb} {H H1 H2:Hp} {h h1 h2 h':cq} {a x e:bb} {o:HO}
def Un.any (u:Un fs ex H H1 h h1)(q:h.get? b=some d)(n:H b=none)(f:b∉ex):∃sl,h1.get? b=some {d with slots:=sl}:=by
 by_cases g:b∈fs
 .exact u.slot b d q n g f
 .exact⟨d.slots,u.keep b d q n g f⟩
def Un.kept (k:∀b u,h.get? b=some u->h'.get? b=some u):Un fs ex H H h h':=
 ⟨λb d q _ _ _=>k b d q,λb d q _ _ _=>⟨d.slots,k b d q⟩,λ_ _ _ n _=>n,λb d q _=>⟨d,k b d q⟩,λ_ _ q=>q,λ_ _ _ q=>q,λ_ _ q=>q⟩
def Un.refl:Un fs ex H H h h:=Un.kept λ_ _ q=>q
def Un.laid (k:∀b u,h.get? b=some u->h'.get? b=some u)(f:h.objs.size<=a)(d:H a=none):Un fs ex H (upd H a o) h h' where
 keep:=λb u q _ _ _=>k b u q
 slot:=λb u q _ _ _=>⟨u.slots,k b u q⟩
 free:=λb u q n _=>by rw[m9 (aAn<|aAv (aAg q) f)];exact n
 there:=λb u q _=>⟨u,k b u q⟩
 tups:=λb Y q=>by rw[m9 (u4 q d)];exact q
 frzs:=λb u Y q=>by rw[m9 (u4 q d)];exact q
 tbls:=λb g q=>by rw[m9 (u4 q d)];exact q
def Un.write (d:Mut (H x))(m:e=x\/H e=some (.own x))(k:∀b u,b≠e->h.get? b=some u->h'.get? b=some u)(f:∃u,h'.get? e=some u):Un fs ex H (upd H x o) h h':=by
 have i:∀b,H b=none->b≠x:=λb n z=>by subst z;rw[n]at d;exact d
 have j:∀b,H b=none->b≠e:=λb n z=>by
  subst z;rcases m with r|r
  .exact i b n r
  .rw[n]at r;cases r
 have g:∀b u,H b=some u->¬Mut (some u)->b≠x:=λb u q p z=>by subst z;rw[q]at d;exact p d
 refine⟨λb u q n _ _=>k b u (j b n) q,λb u q n _ _=>⟨u.slots,k b u (j b n) q⟩,λb u q n _=>by rw[m9 (i b n)];exact n,λb u q _=>?_,
  λb Y q=>by rw[m9 (g b _ q λz=>z)];exact q,λb u Y q=>by rw[m9 (g b _ q λz=>z)];exact q,λb s q=>by rw[m9 (g b _ q λz=>z)];exact q⟩
 by_cases l:b=e
 .subst l;exact f
 .exact⟨u,k b u l q⟩
end
def trk (h:cq)(H:Hp):List bb:=(aBa h.objs.size).filter λa=>(H a).isSome
def rQ (h:cq)(H:Hp):cq:=PySem.W.hideAll h (trk h H)
def LR (h:cq)(H:Hp):(rQ h H).objs.size=h.objs.size:=PySem.W.hideAll_size _ _
def NI (e:h.get? b=some o)(n:H b=none):(rQ h H).get? b=some o:=
 PySem.W.hideAll_get _ e λa=>by have q:(H b).isSome=true:=(aAU.mp a).2;rw[n]at q;simp at q
def YC (e:(rQ h H).get? b=some o):h.get? b=some o/\H b=none:=by
 have a:h.get? b=some o:=PySem.W.of_hideAll (trk h H) e;refine⟨a,?_⟩;cases q:H b with
 |none=>rfl
 |some x=>have d:b∈trk h H:=aAU.mpr ⟨aBd.mpr (aAg a),by simp[q]⟩;have z:(rQ h H).get? b=none:=PySem.W.hideAll_none (trk h H) d;rw[z]at e;cases e
def WD (g h:cq)(L:bb):List (bb×Obj):=(aBa h.objs.size).filterMap λa=>if a=L\/(g.get? a).isSome=true then none else(h.get? a).map λo=>(a,o)
def rest (g h:cq)(L d:bb):List (bb×Obj):=(WD g h L).filter λp=>decide (p.1≠d)
structure Mod (K:PySem.W.Frag)(mg:dS)(base:Heap):Prop where
 kin:K.In base
 glob:base.Ns mainGlobals mg
 blt:∃mb,base.Ns builtinsNs mb/\∀x:Str,x≠ "__name__"->mb x=bootBuiltins x
 nolimit:base.NoLimit
structure Cx where
 prog:Program
 w:World
 K:PySem.W.Frag
 mg:Str->Option Value
 base:Heap
 A:Around
 N:List Str
 s9:Shared
 H9:Hp
 env:Env
 outer:List Env
 stack:List Env
 ex:List Addr
 fn:Str->Bool
 calm:Bool
 pn:List (Addr×Obj)
 xe:Value->Shared->Prop
def AM (l:List Env):List bb:=l.filterMap (·.frame)
abbrev Cx.fs (X:Cx):List bb:=AM X.outer
def HD (sc:gW)(x:Str):Prop:=sc.names.lookup x=some .local\/sc.names.lookup x=some .cell\/sc.names.lookup x=some .free
def Loc (sc:gW)(x:Str):Prop:=sc.names.lookup x=some .local\/sc.names.lookup x=some .cell
def Look (env:Env)(h:cq)(m:dS)(x:Str)(u:ao):Prop:=
 (env.kindOf x=some .local/\m x=some u)\/((env.kindOf x=some .cell\/env.kindOf x=some .free)/\∃c,env.cells.lookup x=some c/\h.IsCell c (some u))
structure Cx.Ok (X:Cx):Prop where
 mod:Mod X.K X.mg X.base
 kind:X.env.scope.kind=.function
 glob:X.env.globals=mainGlobals
 blt:X.env.builtins=builtinsNs
 above:X.s9.heap.objs.size<=X.env.locals
 inj:∀x y c,X.env.cells.lookup x=some c->X.env.cells.lookup y=some c->x=y
 has:∀x,(X.env.kindOf x=some .cell\/X.env.kindOf x=some .free)->∃c,X.env.cells.lookup x=some c
 cab:∀x c,X.fn x=true->X.env.cells.lookup x=some c->X.s9.heap.objs.size<=c
 hd:X.calm=true->X.A.handled=none
 frames:X.A.frames=some X.stack
 stk:X.stack=X.outer\/(X.stack=X.env::X.outer/\X.env.frame=some X.env.locals)
 exf:∀b∈X.ex,b≠X.env.locals/\∀x c,X.env.cells.lookup x=some c->c≠b
 bs:∀b o,X.base.get? b=some o->X.s9.heap.get? b=some o/\X.H9 b=none
 bsz:X.base.objs.size<=X.s9.heap.objs.size
 noex:∀b o,X.base.get? b=some o->b∉X.ex
 exfs:∀b∈X.ex,b∉X.fs
 funs:X.s9.heap.FunFrames X.base X.outer
 frf:∀b∈X.fs,X.H9 b=none
structure Inv (X:Cx)(pins:R4)(σ:List (Option V))(H:Hp)(s:Shared):Prop where
 ok:X.Ok
 os:s.os=X.s9.os
 bare:AllBare s.gens
 base:Un X.fs X.ex X.H9 H X.s9.heap s.heap
 loc:∃m,s.heap.Ns X.env.locals m/\∀(i:Nat) (x:Str) (v:V),X.N[i]?=some x->σ[i]?=some (some v)->HD X.env.scope x->∃u,RelV v u/\Look X.env s.heap m x u
 cell:∀x c,X.env.cells.lookup x=some c->∃v,s.heap.IsCell c v
 free:H X.env.locals=none
 freeC:∀x c,X.env.cells.lookup x=some c->H c=none
 pin:∀p∈X.pn++pins,s.heap.get? p.1=some p.2/\H p.1=none/\p.1≠X.env.locals/\p.1∉X.fs/\∀v,p.2.data≠.cell v
 hok:gO X.prog X.w H s.heap
 len:σ.length=X.N.length
section
variable{X:Cx} {pins:R4} {σ:List (Option V)} {H H':Hp} {s:a9} {h':cq}
def Cx.Ok.nofr (ok:X.Ok)(e:X.base.get? b=some o):b∉X.fs:=λa=>by have:=(ok.funs.mem a).1;rw[e]at this;cases this
def Inv.bs (I:Inv X pins σ H s):∀b o,X.base.get? b=some o->s.heap.get? b=some o/\H b=none:=λb o e=>⟨I.base.keep b o (I.ok.bs b o e).1 (I.ok.bs b o e).2 (I.ok.nofr e) (I.ok.noex b o e),I.base.free b o (I.ok.bs b o e).1 (I.ok.bs b o e).2 (I.ok.noex b o e)⟩
def Inv.bk (I:Inv X pins σ H s):∀b o,X.base.get? b=some o->s.heap.get? b=some o:=λb o e=>(I.bs b o e).1
def Inv.mod (I:Inv X pins σ H s):Mod X.K X.mg X.base:=I.ok.mod
def Inv.kIn (I:Inv X pins σ H s):X.K.In s.heap:=I.ok.mod.kin.keeps I.bk
def Inv.lt (I:Inv X pins σ H s):X.env.locals<s.heap.objs.size:=let⟨_,a,_⟩:=I.loc;a.lt
def Inv.sz (I:Inv X pins σ H s):X.s9.heap.objs.size<=s.heap.objs.size:=aAl I.ok.above (aDx I.lt)
def Inv.ag0 (I:Inv X pins σ H s)(h:s.heap.objs.size<=a):a∉X.fs:=λb=>by obtain⟨_,o,d,_⟩:=I.ok.funs.mem b;exact absurd (aAv (aAg d)<|aAl I.sz h) (aBs _)
def Inv.cne (I:Inv X pins σ H s):∀x c,X.env.cells.lookup x=some c->c≠X.env.locals:=λx c e z=>by obtain⟨v,o,a,b⟩:=I.cell x c e;obtain⟨m,⟨g,h,i,d,f,_⟩,_⟩:=I.loc;rw[z,d]at a;cases a;rw[f]at b;cases b
def Inv.funs (I:Inv X pins σ H s):s.heap.FunFrames X.base X.outer:=by
 have all:∀(l:List Env),(∀b∈AM l,b∈X.fs)->X.s9.heap.FunFrames X.base l->s.heap.FunFrames X.base l:=by
  intro l;induction l with
  |nil=>intro _ _;trivial
  |cons h r i=>intro g j;obtain⟨k,⟨L,o,a,m,n,p⟩,q⟩:=j;have d:L∈X.fs:=g L (by unfold AM;rw[aCK,a];exact aBn);obtain⟨t,e⟩:=I.base.slot L o n (I.ok.frf L d) d λz=>I.ok.exfs L z d;exact⟨k,⟨L,_,a,m,e,p⟩,i (λb f=>g b (by unfold AM;rw[aCK,a];exact aAe _ f)) q⟩
 exact all X.outer (λ_ f=>f) I.ok.funs
def Inv.stack (I:Inv X pins σ H s):s.heap.FunFrames X.base X.stack:=by
 rcases I.ok.stk with e|⟨e,a⟩
 .rw[e];exact I.funs
 .rw[e];obtain⟨m,b,_⟩:=I.loc;refine .cons (by rw[I.ok.kind];decide) a b ?_ I.funs;exact aEt (aAl I.ok.bsz I.ok.above)
def Inv.ab6 (I:Inv X pins σ H s):∀b∈AM X.stack,b∈X.env.locals::X.fs:=λb a=>by
 rcases I.ok.stk with e|⟨e,d⟩
 .rw[e]at a;exact aAe _ a
 .rw[e]at a;unfold AM at a;rw[aCK,d]at a;exact a
def Inv.ad4 (I:Inv X pins σ H s):∀b∈AM X.stack,H b=none:=λb a=>by
 rcases aAd.mp (I.ab6 b a)with e|a
 .rw[e];exact I.free
 .obtain⟨_,o,d,_⟩:=I.ok.funs.mem a;exact I.base.free b o d (I.ok.frf b a) λz=>I.ok.exfs b z a
def Inv.step {g':Array GenState}{t':Nat}{d':Drawn}{ch:List bb}(I:Inv X pins σ H s)
  (E:∀b∈ch,(b∈X.ex\/X.s9.heap.objs.size<=b)/\b≠X.env.locals/\(∀x c,X.env.cells.lookup x=some c->c≠b)/\∀p∈X.pn++pins,p.1≠b)
  (g:∀b o,b≠X.env.locals->b∉X.fs->b∉ch->s.heap.get? b=some o->H b=none->h'.get? b=some o)
  (slot:∀b o,b≠X.env.locals->b∈X.fs->b∉ch->s.heap.get? b=some o->H b=none->∃sl,h'.get? b=some {o with slots:=sl}) (f:∀b o,b∉ch->s.heap.get? b=some o->H b=none->H' b=none)
  (y:∀b o,b∉ch->s.heap.get? b=some o->∃J,h'.get? b=some J)
  (L:∀b Y,H b=some (.tup Y)->H' b=some (.tup Y)) (N:∀b o u,H b=some (.frz o u)->H' b=some (.frz o u)) (O:∀b tb,H b=some (.tbl tb)->H' b=some (.tbl tb))
  (ns:∀m,s.heap.Ns X.env.locals m->h'.Ns X.env.locals m) (T:gO X.prog X.w H' h') (hg:AllBare g'):
  Inv X pins σ H' {s with heap:=h',gens:=g',drawn:=d',toks:=t'}:=by
 have Q:∀b o,X.s9.heap.get? b=some o->b≠X.env.locals:=λb o e=>aAn (aAv (aAg e) I.ok.above);have t:∀b o,X.s9.heap.get? b=some o->b∉X.ex->b∉ch:=λb o e a A=>by
  rcases(E b A).1 with z|z
  .exact a z
  .exact absurd (aAv (aAg e) z) (aBs _)
 have h:∀x c,X.env.cells.lookup x=some c->∀v,s.heap.IsCell c v->h'.IsCell c v:=λx c e v ⟨o,C,U⟩=>by
  have j:c∉ch:=λz=>(E c z).2.2.1 x c e rfl;by_cases hc:c∈X.fs
  .obtain⟨sl,q⟩:=slot c o (I.cne x c e) hc j C (I.freeC x c e);exact⟨_,q,U⟩
  .exact⟨o,g c o (I.cne x c e) hc j C (I.freeC x c e),U⟩
 refine⟨I.ok,I.os,hg,⟨λb o e n A a=>?_,λb o e n A a=>?_,λb o e n a=>?_,λb o e a=>?_,λb Y e=>L b Y (I.base.tups b Y e),λb o Y e=>N b o Y (I.base.frzs b o Y e),λb ps e=>?_⟩,?_,λx c e=>?_,?_,λx c e=>?_,λp hp=>?_,T,I.len⟩
 .exact g b o (Q b o e) A (t b o e a) (I.base.keep b o e n A a) (I.base.free b o e n a)
 .obtain⟨sl,B⟩:=I.base.slot b o e n A a;obtain⟨sl',e2⟩:=slot b _ (Q b o e) A (t b o e a) B (I.base.free b o e n a);exact⟨sl',e2⟩
 .obtain⟨J,B⟩:=I.base.there b o e a;exact f b J (t b o e a) B (I.base.free b o e n a)
 .obtain⟨J,B⟩:=I.base.there b o e a;exact y b J (t b o e a) B
 .exact O b ps (I.base.tbls b ps e)
 .obtain⟨m,hn,hl⟩:=I.loc;refine⟨m,ns m hn,λi x v B e2 e3=>?_⟩;obtain⟨u,r,l⟩:=hl i x v B e2 e3;refine⟨u,r,?_⟩;rcases l with l|⟨k,c,e,z⟩
  .exact .inl l
  .exact .inr ⟨k,c,e,h x c e _ z⟩
 .obtain⟨v,z⟩:=I.cell x c e;exact⟨v,h x c e v z⟩
 .obtain⟨m,⟨o,_,_,C,_⟩,_⟩:=I.loc;exact f _ o (λz=>(E _ z).2.1 rfl) C I.free
 .obtain⟨v,o,C,U⟩:=I.cell x c e;exact f c o (λz=>(E c z).2.2.1 x c e rfl) C (I.freeC x c e)
 .obtain⟨e,n,ne,nf,d⟩:=I.pin p hp;have j:p.1∉ch:=λz=>(E p.1 z).2.2.2 p hp rfl;exact⟨g p.1 p.2 ne nf j e n,f p.1 p.2 j e n,ne,nf,d⟩
def Inv.un {t':Nat}(I:Inv X pins σ H s)(u:Un X.fs [] H H' s.heap h')(a:gO X.prog X.w H' h'):Inv X pins σ H' {s with heap:=h',toks:=t'}:=by
 obtain⟨m,⟨o,p,q,h,r⟩,_⟩:=id I.loc;obtain⟨t,j⟩:=u.any h I.free (by simp);exact I.step (g':=s.gens) (d':=s.drawn) (ch:=[]) (λ_ z=>nomatch z) (λb o _ d _ e n=>u.keep b o e n d (by simp)) (λb o _ d _ e n=>u.slot b o e n d (by simp)) (λb o _ e n=>u.free b o e n (by simp)) (λb o _ e=>u.there b o e (by simp)) u.tups u.frzs u.tbls (λv k=>by obtain⟨x,f,g,i,l⟩:=k;rw[h]at i;cases i;exact⟨_,f,g,j,l⟩) a I.bare
def Inv.call {g':Array GenState}{t':Nat}{d':Drawn}{ch:List bb}(I:Inv X pins σ H s)(u:Un (AM X.stack) ch H H' s.heap h')(d:gO X.prog X.w H' h')(l:AllBare g')
  (i:∀b∈ch,(b∈X.ex\/X.s9.heap.objs.size<=b)/\b≠X.env.locals/\(∀x c,X.env.cells.lookup x=some c->c≠b)/\∀p∈X.pn++pins,p.1≠b):
  Inv X pins σ H' {s with heap:=h',gens:=g',drawn:=d',toks:=t'}:=by
 obtain⟨m,⟨o,y,A,j,r⟩,_⟩:=id I.loc;obtain⟨B,f⟩:=u.any j I.free λz=>(i _ z).2.1 rfl;exact I.step (ch:=ch) i (λb o f q a e n=>u.keep b o e n (λz=>(aAd.mp<|I.ab6 b z).elim f q) a) (λb o _ _ a e n=>u.any e n a) (λb o a e n=>u.free b o e n a) (λb o a e=>u.there b o e a) u.tups u.frzs u.tbls (λC t=>by obtain⟨E,g,h,k,v⟩:=t;rw[j]at k;cases k;exact⟨_,g,h,f,v⟩) d l
def Inv.turned {t':Nat}{it:bb}(I:Inv X pins σ H s)(k:∀b o,b≠it->s.heap.get? b=some o->h'.get? b=some o)(g:H it=none)(f:it≠X.env.locals)
  (h:it∈X.ex\/X.s9.heap.objs.size<=it) (i:∀x c,X.env.cells.lookup x=some c->c≠it) (j:∀p∈X.pn++pins,p.1≠it):Inv X pins σ H {s with heap:=h',toks:=t'}:=by
 have d:∀b u,H b=some u->b≠it:=λb u e z=>by rw[z,g]at e;cases e
 refine I.step (g':=s.gens) (d':=s.drawn) (ch:=[it]) (λb l=>?_) (λb o _ _ a e _=>k b o (λz=>a (by simp[z])) e) (λb o _ _ a e _=>⟨o.slots,k b o (λz=>a (by simp[z])) e⟩) (λ_ _ _ _ n=>n)
  (λb o a e=>⟨o,k b o (λz=>a (by simp[z])) e⟩) (λ_ _ e=>e) (λ_ _ _ e=>e) (λ_ _ e=>e) (λm t=>?_) (λb u e=>?_) I.bare
 .have e:b=it:=by simpa using l
  subst e;exact⟨h,f,i,j⟩
 .obtain⟨o,w,y,A,r⟩:=t;exact⟨o,w,y,k _ o (aCa f) A,r⟩
 .refine(I.hok b u e).ac1 (λc v a q=>k c v ?_ q) (λ_ q=>q) λ_ _ _ q=>q;rcases a with z|z
  .rw[z];exact d b u e
  .exact d c _ z
def Inv.tok (I:Inv X pins σ H s)(t:Nat):Inv X pins σ H {s with toks:=t}:=I.un (h':=s.heap) (t':=t) Un.refl I.hok
def Inv.kept (I:Inv X pins σ H s)(k:∀b u,s.heap.get? b=some u->h'.get? b=some u):Inv X pins σ H {s with heap:=h',toks:=t'}:=I.un (Un.kept k) (I.hok.kept k)
def Inv.laid (I:Inv X pins σ H s)(k:∀b u,s.heap.get? b=some u->h'.get? b=some u)(d:s.heap.objs.size<=a)(e:ObjOk X.prog X.w (upd H a o) h' a o):
 Inv X pins σ (upd H a o) {s with heap:=h',toks:=t'}:=I.un (Un.laid k d<|I.hok.fresh d) (I.hok.laid k d e)
def Inv.write (I:Inv X pins σ H s)(f:Mut (H x))(g:e=x\/H e=some (.own x))(k:∀b u,b≠e->s.heap.get? b=some u->h'.get? b=some u)(a:∃u,h'.get? e=some u)(d:ObjOk X.prog X.w (upd H x o) h' x o):Inv X pins σ (upd H x o) {s with heap:=h',toks:=t'}:=I.un (Un.write f g k a) (I.hok.write f g k a d)
def Inv.ad3 (I:Inv X pins σ H s)(h:∀p∈a,s.heap.get? p.1=some p.2/\H p.1=none/\p.1≠X.env.locals/\p.1∉X.fs/\∀v,p.2.data≠.cell v):Inv X a σ H s:=
 ⟨I.ok,I.os,I.bare,I.base,I.loc,I.cell,I.free,I.freeC,λp b=>(aAP.mp b).elim (λz=>I.pin p (aBr _ z)) (h p),I.hok,I.len⟩
def AK {N:List Str}(d:N.Nodup){i j:Nat}{x:Str}(a:N[i]?=some x)(b:N[j]?=some x):i=j:=by obtain⟨g,e⟩:=aAC.mp a;obtain⟨h,f⟩:=aAC.mp b;exact(List.getElem_inj d).mp (e.trans f.symm)
def uR {M:Model}{A:cf}{E:G0}{i:Nat}{x:Str}{v:V}{u:ao}{Q:Unit->a9->Prop}(I:Inv X pins σ H s)(hN:X.N.Nodup)(U:X.N[i]?=some x)(B:Loc X.env.scope x)(r:RelV v u)
  (h:∀s',Inv X pins (σ.set i (some v)) H s'->(∃a,Heap.SameBut a s.heap s'.heap/\(a=X.env.locals\/X.env.cells.lookup x=some a))->Q () s') (hf:X.fn x=true\/X.env.scope.names.lookup x=some .local:=by first|exact .inl rfl|exact .inr rfl|assumption):aA M A (storeName X.env x u) Q E s:=by
 obtain⟨m,hn,hl⟩:=id I.loc;have Y:(X.env.scope.kind==.class||(X.env.scope.kind==.module&&X.env.locals !=X.env.globals))=false:=by rw[I.ok.kind];rfl
 have J:i<σ.length:=by rw[I.len];exact(aAC.mp U).1
 have cne:=I.cne;have g:∀{a:bb} {h':cq},(∃o,s.heap.get? a=some o/\H a=none)->Heap.SameBut a s.heap h'->gO X.prog X.w H h':=λ{a h'} ha f b ob e=>by
  obtain⟨_,_,jn⟩:=ha;refine(I.hok b ob e).ac1 (λc w' t q=>(f.2 c ?_).trans q) (λ_ q=>q) λ_ _ _ q=>q;rintro rfl;rcases t with rfl|t
  .rw[jn]at e;cases e
  .rw[jn]at t;cases t
 rcases B with L|L
 .refine wpAny_storeName_local L hn (λh' hn' f=>?_) Y;obtain⟨oL,_,_,hoL,_⟩:=id hn;refine h _ ⟨I.ok,I.os,I.bare,⟨λb o e n O B=>?_,λb o e n O B=>?_,I.base.free,λb o e B=>?_,I.base.tups,I.base.frzs,I.base.tbls⟩,⟨_,hn',λj y v' l C e3=>?_⟩,λy c e=>?_,I.free,I.freeC,λp hp=>?_,g ⟨oL,hoL,I.free⟩ f,by simpa using I.len⟩ ⟨_,f,.inl rfl⟩
  .exact(f.2 b (aAn<|aAv (aAg e) I.ok.above)).trans (I.base.keep b o e n O B)
  .obtain⟨sl,l⟩:=I.base.slot b o e n O B;exact⟨sl,(f.2 b (aAn<|aAv (aAg e) I.ok.above)).trans l⟩
  .obtain⟨o',l⟩:=I.base.there b o e B;exact⟨o',(f.2 b (aAn<|aAv (aAg e) I.ok.above)).trans l⟩
  .by_cases T:j=i
   .subst T;rw[U]at l;cases l;rw[aBK J]at C;cases C;exact⟨u,r,.inl ⟨L,by simp⟩⟩
   .rw[aCB (aCa T)]at C;obtain⟨u',r',q⟩:=hl j y v' l C e3;refine⟨u',r',?_⟩;rcases q with⟨k,e⟩|⟨k,c,e,z⟩
    .refine .inl ⟨k,?_⟩;have:y≠x:=λe=>T (AK hN l<|e▸U);simp[this,e]
    .exact .inr ⟨k,c,e,z.sameBut f (cne y c e)⟩
  .obtain⟨w',z⟩:=I.cell y c e;exact⟨w',z.sameBut f (cne y c e)⟩
  .obtain⟨e,n,ne,nf,d⟩:=I.pin p hp;exact⟨(f.2 p.1 ne).trans e,n,ne,nf,d⟩
 .have xo:X.fn x=true:=by
   rcases hf with z|z
   .exact z
   .rw[z]at L;cases L
  obtain⟨c,t⟩:=I.ok.has x (.inl L);obtain⟨w',z⟩:=I.cell x c t;refine wpAny_storeName_cell I.ok.kind L t z (λh' hc' f=>?_);obtain⟨oc,bo,hocd⟩:=id z;refine h {s with heap:=h'} ⟨I.ok,I.os,I.bare,⟨λb o e n O B=>?_,λb o e n O B=>?_,I.base.free,λb o e B=>?_,I.base.tups,I.base.frzs,I.base.tbls⟩,⟨m,hn.sameBut f (aCa<|cne x c t),λj y v' l C e3=>?_⟩,λy c' e=>?_,I.free,I.freeC,λp hp=>?_,g ⟨oc,bo,I.freeC x c t⟩ f,by simpa using I.len⟩ ⟨c,f,.inr t⟩
  .exact(f.2 b (aAn<|aAv (aAg e)<|I.ok.cab x c xo t)).trans (I.base.keep b o e n O B)
  .obtain⟨sl,l⟩:=I.base.slot b o e n O B;exact⟨sl,(f.2 b (aAn<|aAv (aAg e)<|I.ok.cab x c xo t)).trans l⟩
  .obtain⟨o',l⟩:=I.base.there b o e B;exact⟨o',(f.2 b (aAn<|aAv (aAg e)<|I.ok.cab x c xo t)).trans l⟩
  .by_cases T:j=i
   .subst T;rw[U]at l;cases l;rw[aBK J]at C;cases C;exact⟨u,r,.inr ⟨.inl L,c,t,hc'⟩⟩
   .rw[aCB (aCa T)]at C;obtain⟨u',r',q⟩:=hl j y v' l C e3;refine⟨u',r',?_⟩;rcases q with q|⟨k,c',e,z'⟩
    .exact .inl q
    .refine .inr ⟨k,c',e,z'.sameBut f ?_⟩;rintro rfl;exact T (AK hN l<|I.ok.inj _ _ _ e t▸U)
  .by_cases hcc:c'=c
   .subst hcc;exact⟨_,hc'⟩
   .obtain⟨w2,z2⟩:=I.cell y c' e;exact⟨w2,z2.sameBut f hcc⟩
  .obtain⟨e,n,ne,nf,d⟩:=I.pin p hp;refine⟨(f.2 p.1 ?_).trans e,n,ne,nf,d⟩;intro q;rw[q,bo]at e;have q':oc=p.2:=Option.some.inj e;exact d w' (by rw[<-q'];exact hocd)
def R8 {E:G0}{Q:Unit->a9->Prop}(I:Inv X pins σ H s)(a:X.N.Nodup)(b:X.N[i]?=some x)(d:Loc X.env.scope x)(r:RelV v u)(h:∀s',Inv X pins (σ.set i (some v)) H s'->Q () s')(e:X.fn x=true\/X.env.scope.names.lookup x=some .local:=by first|exact .inl rfl|exact .inr rfl|assumption):aA M A (storeName X.env x u) Q E s:=
 uR I a b d r (λs' f _=>h s' f) e
def Inv.af7 (I:Inv X pins σ H s)(d:s'.os=s.os)(u:Un (AM X.stack) ch H H' s.heap s'.heap)(a:gO X.prog X.w H' s'.heap)(f:AllBare s'.gens)(g:∀b∈ch,(b∈X.ex\/X.s9.heap.objs.size<=b)/\b≠X.env.locals/\(∀x c,X.env.cells.lookup x=some c->c≠b)/\∀p∈X.pn++pins,p.1≠b):Inv X pins σ H' s':=by obtain⟨h',g',d',t',h⟩:=s';have e:h=s.os:=d;subst e;exact I.call (g':=g') (t':=t') (d':=d') u a f g
end
abbrev XK:=ao->Option bb->Hp->Prop
abbrev St:=List (Option V)
abbrev VK:=V->Hp->Prop
abbrev TE:=St->Hp->VK->Prop
abbrev TT:=St->Hp->(Bool->Hp->Prop)->Prop
abbrev TA:=St->Hp->(List V->Hp->Prop)->Prop
structure Ends where
 nx:St->Hp->Prop
 rt:VK
 bk:St->Hp->Prop:=λ_ _=>False
 ct:St->Hp->Prop:=λ_ _=>False
abbrev TS:=Ends->St->Hp->Prop
def EP (X:Cx)(a:R4)(σ:St)(Q:VK)(u:ao)(s':a9):Prop:=∃v b,Inv X a σ b s'/\RelV v u/\Q v b
def TP (X:Cx)(a:R4)(σ:St)(Q:Bool->Hp->Prop)(b:Bool)(s':a9):Prop:=∃d,Inv X a σ d s'/\Q b d
def AP (X:Cx)(a:R4)(σ:St)(Q:List V->Hp->Prop)(d:List ao)(s':a9):Prop:=∃L b,Inv X a σ b s'/\p5 L d/\Q L b
def SP (X:Cx)(a:R4)(D:Ends)(f:Flow)(s':a9):Prop:=
 match f with
 |.next=>∃d b,Inv X a d b s'/\D.nx d b
 |.brk=>∃d b,Inv X a d b s'/\D.bk d b
 |.cont=>∃d b,Inv X a d b s'/\D.ct d b
 |.ret u=>∃v d b,Inv X a d b s'/\RelV v u/\D.rt v b
def PE (X:Cx)(e:cu)(t:TE):Prop:=
 ∀(a:R4) (s:a9) (σ:St) (H:Hp) (Q:VK),Inv X a σ H s->t σ H Q->aA (be X.prog X.w) X.A (dm e X.env) (EP X a σ Q) X.xe s
def PT (X:Cx)(e:cu)(t:TT):Prop:=
 ∀(a:R4) (s:a9) (σ:St) (H:Hp) (Q:Bool->Hp->Prop),Inv X a σ H s->t σ H Q->aA (be X.prog X.w) X.A (isTrue e X.env<|dm e X.env) (TP X a σ Q) X.xe s
def PW (X:Cx)(e:cu)(t:TT):Prop:=
 ∀(b:Sem ao) (a:R4) (s:a9) (σ:St) (H:Hp) (Q:Bool->Hp->Prop),Inv X a σ H s->t σ H Q->aA (be X.prog X.w) X.A (isTrue e X.env b) (TP X a σ Q) X.xe s
def PW.pt (h:PW X e t):PT X e t:=h _
def PA (X:Cx)(es:List cu)(t:TA):Prop:=
 ∀(b:Pos) (a:R4) (s:a9) (σ:St) (H:Hp) (Q:List V->Hp->Prop),Inv X a σ H s->t σ H Q->aA (be X.prog X.w) X.A (spliced<|cy b<|ba es X.env) (AP X a σ Q) X.xe s
def PS (X:Cx)(st:cv)(t:TS):Prop:=
 ∀(a:R4) (s:a9) (σ:St) (H:Hp) (D:Ends),Inv X a σ H s->t D σ H->aA (be X.prog X.w) X.A (exec st X.env) (SP X a D) X.xe s
def xG (X:Cx)(st:List cv)(t:TS):Prop:=
 ∀(a:R4) (s:a9) (σ:St) (H:Hp) (D:Ends),Inv X a σ H s->t D σ H->aA (be X.prog X.w) X.A (execs st X.env) (SP X a D) X.xe s
def J7 {α:Type}{t:Sem α}{Q b:α->a9->Prop}{M:Model}{A:cf}{E:G0}{s:a9}(h:aA M A t Q E s)(d:∀a s,Q a s->b a s):aA M A t b E s:=aCH h d λ_ _ x=>x
section
variable{X:Cx}
def a0i (i:Nat):TE:=λσ H Q=>∃v,σ[i]?=some (some v)/\Q v H
def tC (v:V):TE:=λ_ H Q=>Q v H
def W2 (k:X.N[i]?=some x)(n:HD X.env.scope x)(f:(x==ix)=false:=by decide)(o:(x==i3)=false:=by decide):PE X (.Name x p) (a0i i):=by
 intro d s σ H Q I h;obtain⟨v,e,h⟩:=h;obtain⟨m,q,t⟩:=I.loc;obtain⟨u,r,l⟩:=t i x v k e n;have a:EP X d σ Q u s:=⟨v,H,I,r,h⟩;rcases l with⟨b,w⟩|⟨b,c,g,j⟩
 .exact wpAny_Name (wpAny_loadName_local I.ok.kind b q w a) f
 .rcases b with b|b
  .exact wpAny_Name (wpAny_loadName_cell I.ok.kind b g j a) f
  .exact wpAny_Name (wpAny_loadName_free I.ok.kind b g j a o) f
def oj {i j a}:PE X (.Constant (.int i) j a) (tC (.int i)):=λ_ _ _ H _ I h=>wpAny_Constant_int ⟨.int i,H,I.tok _,⟨_,rfl⟩,h⟩
def a1g {b j a}:PE X (.Constant (.bool b) j a) (tC (.bl b)):=λ_ _ _ H _ I h=>Constant_bool ⟨.bl b,H,I,rfl,h⟩
def tq {j a}:PE X (.Constant .none j a) (tC .non):=λ_ _ _ H _ I h=>Constant_none ⟨.non,H,I,rfl,h⟩
def Gl (X:Cx)(x:Str):Prop:=X.env.kindOf x=some .globalImplicit
def wZ {E:G0}{Q:G0}(I:Inv X a σ H s)(b:Gl X x)(d:X.mg x=some u)(h:Q u s)(e:(x==ix)=false:=by decide):aA (be X.prog X.w) X.A (dm (.Name x f) X.env) Q E s:=
 Calls.Name_function_global I.ok.kind b (Calls.loadGlobal_global (by rw[I.ok.glob];exact I.mod.glob.keeps I.bk) d h) e
def X6 {E:G0}{Q:G0}(I:Inv X a σ H s)(b:Gl X x)(d:X.mg x=none)(e:de x=some u)(h:Q u s)(f:x≠ "__name__":=by decide)(g:(x==ix)=false:=by decide):aA (be X.prog X.w) X.A (dm (.Name x i) X.env) Q E s:=by obtain⟨l,j,k⟩:=I.mod.blt;exact Calls.Name_function_global I.ok.kind b (Calls.loadGlobal_builtin (by rw[I.ok.glob];exact I.mod.glob.keeps I.bk) d (by rw[I.ok.blt];exact j.keeps I.bk) ((k x f).trans e) h) g
def WE (a:Gl X x)(b:X.mg x=some u)(r:RelV v u)(d:(x==ix)=false:=by decide):PE X (.Name x e) (tC v):=
 λ_ _ _ H _ I h=>wZ I a b ⟨v,H,I,r,h⟩ d
variable{a b:cu} {ta tb:TE} {pos:Pos}
def tB (t:TE):TT:=λσ H Q=>t σ H λx d=>∃c,x=.bl c/\Q c d
def jx {e:cu}{t:TE}(h:PE X e t)(g:∀whole,isTrue e X.env whole=(do let v<-whole;standAt e.pos;gk [v] (truthy v)):=by intro _;rfl):PT X e (tB t):=by intro f s σ H Q I i;refine isTrue_plain (J7 (h f s σ H _ I i) λv n ⟨x,j,k,l,m⟩=>?_) (g _);obtain⟨d,rfl,q⟩:=m;cases l;exact aBO ⟨j,k,q⟩
variable{tA tB':TT} {rest:List cu}
def a4g (t u:TT):TT:=λσ H Q=>t σ H λc d=>if c=true then u σ d Q else Q false d
def tOr (t u:TT):TT:=λσ H Q=>t σ H λc d=>if c=true then Q true d else u σ d Q
def ZD (f:PT X a tA):PW X (.BoolOp .And [a] pos) tA:=by
 intro g d s σ H Q I h;refine isTrue_and (J7 (f d s σ H Q I h) λc i e=>?_);cases c with
 |true=>exact isTrue_and_nil e
 |false=>exact e
def sk (f:PT X a tA):PW X (.BoolOp .Or [a] pos) tA:=by
 intro g d s σ H Q I h;refine isTrue_or (J7 (f d s σ H Q I h) λc i e=>?_);cases c with
 |false=>exact isTrue_or_nil e
 |true=>exact e
def tj (i:PT X a tA)(j:PW X (.BoolOp .And (b::rest) pos) tB'):PW X (.BoolOp .And (a::b::rest) pos) (a4g tA tB'):=by
 intro k d s σ H Q I h;refine isTrue_and (J7 (i d s σ H _ I h) λc l ⟨e,f,g⟩=>?_);cases c with
 |true=>exact j k d l σ e Q f g
 |false=>exact⟨e,f,g⟩
def a2o (i:PT X a tA)(j:PW X (.BoolOp .Or (b::rest) pos) tB'):PW X (.BoolOp .Or (a::b::rest) pos) (tOr tA tB'):=by
 intro k d s σ H Q I h;refine isTrue_or (J7 (i d s σ H _ I h) λc l ⟨e,f,g⟩=>?_);cases c with
 |true=>exact⟨e,f,g⟩
 |false=>exact j k d l σ e Q f g
def a1m (ta tb:TE):TE:=λσ H Q=>ta σ H λx d=>∃c,x=.bl c/\if c=true then tb σ d Q else Q (.bl false) d
def qy {op}(h:PE X a t):PE X (.BoolOp op [a] pos) t:=λd s σ H Q I e=>BoolOp_one (h d s σ H Q I e)
def pz (i:PE X a ta)(j:PE X (.BoolOp .And (b::rest) pos) tb):PE X (.BoolOp .And (a::b::rest) pos) (a1m ta tb):=by
 intro d s σ H Q I h;refine BoolOp_and (J7 (i d s σ H _ I h) λv k ⟨x,f,g,l,e⟩=>?_);obtain⟨c,rfl,e⟩:=e;cases l;refine aBO ?_;cases c with
 |true=>exact j d k σ f Q g e
 |false=>exact⟨.bl false,f,g,rfl,e⟩
end
def Q8 (K:iu)(H:Hp)(a:bb)(Y:List V):Prop:=
 Rd H a (.lst Y)\/
  ∃(o:Obj) (b:Array ao) (n:Nat),K.lookup a=some o/\o.cls=.type "list"/\o.dict=none/\o.data=.seq b n/\b.size<=sizeLine/\p5 Y b.toList
def Y8 (K:iu)(H:Hp)(a:bb)(Y:List V):Prop:=
 Rd H a (.tup Y)\/
  ∃(o:Obj) (b:Array ao) (n:Nat),K.lookup a=some o/\o.cls=.type "tuple"/\o.data=.seq b n/\b.size<=sizeLine/\p5 Y b.toList
def a4y:ao->Option V
 |.none=>some .non
 |.bool b=>some (.bl b)
 |.int i _=>some (.int i)
 |.str x _=>some (.str x)
 |.bytes b _=>some (.byt b)
 |.float b _=>some (.flt b)
 |.ref a=>some (.ref a)
 |.type n=>some (.ty n)
 |_=>none
def RelV.abs (r:RelV x u):a4y u=some x:=by
 cases x with
 |non=>cases r;rfl
 |bl _=>cases r;rfl
 |int _=>obtain⟨t,rfl⟩:=r;rfl
 |str _=>obtain⟨t,rfl⟩:=r;rfl
 |byt _=>obtain⟨t,rfl⟩:=r;rfl
 |flt _=>obtain⟨t,rfl⟩:=r;rfl
 |ref _=>cases r;rfl
 |ty _=>cases r;rfl
def RelV.inj {x y:V}{u:ao}(r:RelV x u)(q:RelV y u):x=y:=Option.some.inj (r.abs.symm.trans q.abs)
theorem p5.inj:∀{Y N:List V} {a:List ao},p5 Y a->p5 N a->Y=N
 |_,_,_,.nil,.nil=>rfl
 |_,_,_,.cons r t,.cons b d=>by rw[r.inj b,p5.inj t d]
section
variable{X:Cx} {pins:R4} {σ:St} {H:Hp} {s:a9} {a:bb} {Y N:List V}
def Q8.of {K:iu}(h:H a=some (.lst Y)):Q8 K H a Y:=.inl (.inl h)
def Y8.of {K:iu}(h:H a=some (.tup Y)):Y8 K H a Y:=.inl (.inl h)
def Inv.list (I:Inv X pins σ H s)(h:Q8 X.K H a Y):∃b:List ao,p5 Y b/\PlainL s.heap a b.toArray/\Y.length<=sizeLine:=by
 rcases h with h|⟨o,b,n,d,f,g,i,j,r⟩
 .obtain⟨z,b,n,r,e⟩:=h.ok I.hok;exact⟨b,r,⟨_,n,e,rfl,rfl,rfl⟩,z⟩
 .refine⟨b.toList,r,⟨o,n,I.kIn a o d,f,g,by simpa using i⟩,?_⟩;have e:=r.length;simp only[aBk]at e
  lia
def Inv.tuple (I:Inv X pins σ H s)(h:Y8 X.K H a Y):∃b:List ao,p5 Y b/\IsTup s.heap a b.toArray/\Y.length<=sizeLine:=by
 rcases h with h|⟨o,b,n,d,f,g,i,r⟩
 .obtain⟨z,b,r,p⟩:=h.ok I.hok;exact⟨b,r,p,z⟩
 .refine⟨b.toList,r,⟨o,I.kIn a o d,f,n,by simpa using g⟩,?_⟩;have e:=r.length;simp only[aBk]at e
  lia
def Inv.ac0 (I:Inv X pins σ H s)(h:Q8 X.K H a Y)(h':Q8 X.K H a N):Y=N:=by
 obtain⟨f,r,⟨o,n,e,_,_,d⟩,_⟩:=I.list h;obtain⟨b,j,⟨l,m,g,_,_,i⟩,_⟩:=I.list h';rw[e]at g;cases g;rw[d]at i;injection i with k _;have:f=b:=by simpa using ip aFR k
 subst this;exact r.inj j
def Inv.ab5 (I:Inv X pins σ H s)(h:Y8 X.K H a Y)(h':Y8 X.K H a N):Y=N:=by
 obtain⟨f,r,⟨o,e,_,n,d⟩,_⟩:=I.tuple h;obtain⟨b,j,⟨l,g,_,m,i⟩,_⟩:=I.tuple h';rw[e]at g;cases g;rw[d]at i;injection i with k _;have:f=b:=by simpa using ip aFR k
 subst this;exact r.inj j
end
abbrev Cx.ac2 (X:Cx)(E:G0):Cx:={X with xe:=E}
abbrev Cx.nox (X:Cx):Cx:=X.ac2 λ_ _=>False
def Cx.Ok.ac2 {X:Cx}(ok:X.Ok)(E:G0):(X.ac2 E).Ok:=
 ⟨ok.mod,ok.kind,ok.glob,ok.blt,ok.above,ok.inj,ok.has,ok.cab,ok.hd,ok.frames,ok.stk,ok.exf,ok.bs,ok.bsz,ok.noex,ok.exfs,ok.funs,ok.frf⟩
def Cx.Ok.ab0 {X:Cx}{E:G0}(ok:(X.ac2 E).Ok):X.Ok:=
 ⟨ok.mod,ok.kind,ok.glob,ok.blt,ok.above,ok.inj,ok.has,ok.cab,ok.hd,ok.frames,ok.stk,ok.exf,ok.bs,ok.bsz,ok.noex,ok.exfs,ok.funs,ok.frf⟩
section
variable{X:Cx} {pins:R4} {σ:St} {H:Hp} {s:a9} {E:G0}
def Inv.ac2 (I:Inv X pins σ H s)(E:G0):Inv (X.ac2 E) pins σ H s:=⟨I.ok.ac2 E,I.os,I.bare,I.base,I.loc,I.cell,I.free,I.freeC,I.pin,I.hok,I.len⟩
def Inv.ab0 (I:Inv (X.ac2 E) pins σ H s):Inv X pins σ H s:=⟨I.ok.ab0,I.os,I.bare,I.base,I.loc,I.cell,I.free,I.freeC,I.pin,I.hok,I.len⟩
def SP.ab0 (h:SP (X.ac2 E) pins D f s'):SP X pins D f s':=by
 cases f with
 |next=>obtain⟨a,b,I,q⟩:=h;exact⟨a,b,I.ab0,q⟩
 |brk=>obtain⟨a,b,I,q⟩:=h;exact⟨a,b,I.ab0,q⟩
 |cont=>obtain⟨a,b,I,q⟩:=h;exact⟨a,b,I.ab0,q⟩
 |ret u=>obtain⟨v,a,b,I,r,q⟩:=h;exact⟨v,a,b,I.ab0,r,q⟩
def xG.nox {st:List cv}{t:TS}(h:xG X.nox st t):xG X st t:=λpins s σ H D I a=>aCH (h pins s σ H D (I.ac2 _) a) (λ_ _ q=>q.ab0) λ_ _ z=>aAm z
end
section
variable{X:Cx} {st:cv} {rest:List cv} {t u:TS} {e:cu} {te:TE} {pos:Pos}
def a1v:TS:=λD σ H=>D.nx σ H
def a4l (t u:TS):TS:=λD σ H=>t {D with nx:=u D} σ H
def XT:xG X [] a1v:=λ_ _ σ H _ I h=>aEA ⟨σ,H,I,h⟩
def SJ (b:PS X st t)(d:xG X rest u):xG X (st::rest) (a4l t u):=by
 intro a s σ H D I h;refine aEn (J7 (b a s σ H {D with nx:=u D} I h) λf g q=>?_);cases f with
 |next=>obtain⟨i,j,k,q⟩:=q;exact d a g i j D k q
 |ret v=>exact q
 |brk=>exact q
 |cont=>exact q
def HK (b:PS X st t):xG X [st] t:=by
 intro a s σ H D I h;refine aEn (J7 (b a s σ H D I h) λf d q=>?_);cases f with
 |next=>exact aEA q
 |ret v=>exact q
 |brk=>exact q
 |cont=>exact q
def Inv.quiet (I:Inv X a σ H s):interactive X.env=false:=by simp[interactive,I.ok.kind]
def a2j (te:TE):TS:=λD σ H=>te σ H λ_ a=>D.nx σ a
def oK (b:PE X e te)(d:ek e none pos.line X.env=pure false:=by rfl):PS X (.Expr e pos) (a2j te):=by intro a s σ H D I h;exact wpAny_Expr_any (J7 (b a s σ H _ I h) λv j ⟨x,f,g,k,i⟩=>⟨σ,f,g,i⟩) I.quiet d
def a4f (te:TE):TS:=λD σ H=>te σ H D.rt
def NK (b:PE X e te):PS X (.Return (some e) pos) (a4f te):=by intro a s σ H D I h;exact wpAny_Return_some (J7 (b a s σ H _ I h) λv j ⟨x,d,f,g,i⟩=>⟨x,σ,d,f,g,i⟩)
def a4t (c:TT)(t u:TS):TS:=λD σ H=>c σ H λb a=>if b=true then t D σ a else u D σ a
def a0v {c:cu}{a b:List cv}{g:TT}(m:PT X c g)(n:xG X a t)(o:xG X b u):PS X (.If c a b pos) (a4t g t u):=by
 intro f s σ H D I h;refine wpAny_If (J7 (m f s σ H _ I h) λd i ⟨j,k,l⟩=>?_);cases d with
 |true=>exact n f i σ j D k l
 |false=>exact o f i σ j D k l
def fj:TS:=λ_ _ _=>False
def SF:PS X st fj:=λ_ _ _ _ _ _ h=>h.elim
end
abbrev TG:=V->St->Hp->(St->Hp->Prop)->Prop
abbrev bx:=List V->St->Hp->(St->Hp->Prop)->Prop
def PG (X:Cx)(a:cu)(t:TG):Prop:=
 ∀(b:R4) (s:a9) (σ:St) (H:Hp) (v:V) (u:ao) (Q:St->Hp->Prop),Inv X b σ H s->RelV v u->t v σ H Q->
  aA (be X.prog X.w) X.A (gc a X.env u) (λ_ f=>∃d e,Inv X b d e f/\Q d e) X.xe s
def PGs (X:Cx)(f:List cu)(t:bx):Prop:=
 ∀(a:R4) (s:a9) (σ:St) (H:Hp) (L:List V) (b:List ao) (Q:St->Hp->Prop),Inv X a σ H s->p5 L b->t L σ H Q->
  aA (be X.prog X.w) X.A (assignInOrder ((dC f X.env).map (·.2)) b) (λ_ g=>∃d e,Inv X a d e g/\Q d e) X.xe s
abbrev YX:=V->V->V->Hp->(Hp->Prop)->Prop
def a0t (X:Cx)(t:YX):Prop:=
 ∀(a:R4) (s:a9) (σ:St) (H:Hp) (o i v:V) (b d u:ao) (Q:Hp->Prop),Inv X a σ H s->RelV o b->RelV i d->RelV v u->t o i v H Q->
  aA (be X.prog X.w) X.A (setItem b d u) (λ_ f=>∃e,Inv X a σ e f/\Q e) X.xe s
section
variable{X:Cx} {pos:Pos}
def ZO (i:Nat):TG:=λv σ H Q=>Q (σ.set i<|some v) H
def XI (b:X.N.Nodup)(d:X.N[i]?=some x)(e:Loc X.env.scope x)(f:X.fn x=true\/X.env.scope.names.lookup x=some .local:=by first|exact .inl rfl|exact .inr rfl|assumption):PG X (.Name x pos) (ZO i):=by intro a s σ H v u Q I r h;exact wpAny_assign_Name (R8 I b d e r (λj g=>⟨_,H,g,h⟩) f)
def a4p:bx:=λL σ H Q=>L=[]/\Q σ H
def a2p (t:TG)(u:bx):bx:=λL σ H Q=>∃v r,L=v::r/\t v σ H λa b=>u r a b Q
def WF:PGs X [] a4p:=by intro a s σ H L b Q I r h;obtain⟨e,h⟩:=h;subst e;cases r;exact assignInOrder_nil ⟨σ,H,I,h⟩
def RE {e:cu}{es:List cu}{t:TG}{u:bx}(d:PG X e t)(f:PGs X es u)
  (g:(dC (e::es) X.env).map (·.2)=gc e X.env::(dC es X.env).map (·.2):=by rfl):PGs X (e::es) (a2p t u):=by
 intro a s σ H L o Q I r h;obtain⟨v,p,i,h⟩:=h;subst i;cases r with
 |cons r j=>rw[g];refine aEW (J7 (d a s σ H _ _ _ I r h) λ_ k ⟨b,l,m,n⟩=>?_);exact f a k b l _ _ Q m j n
def a5f (a b:TE)(t:YX):TG:=λv σ H Q=>a σ H λo d=>b σ d λi e=>t o i v e λf=>Q σ f
def fx {o i:cu}{e f:TE}{t:YX}(g:PE X o e)(j:PE X i f)(k:a0t X t)
  (l:∀v,gc (.Subscript o i pos) X.env v=(do
   let b<-gk [v] (dm o X.env)
   let d<-gk [v,b] (dm i X.env)
   standAt pos
   gk [v,b,d] (setItem b d v)
   release [v,b,d] []):=by intro _;rfl):PG X (.Subscript o i pos) (a5f e f t):=by
 intro a s σ H v u Q I r h;rw[l];refine aAa (aAY<|J7 (g a s σ H _ I h) λb m ⟨x,n,p,q,w⟩=>?_);refine aAa (aAY<|J7 (j a m σ n _ p w) λd z ⟨y,A,B,C,E⟩=>?_);refine aAa (aEw<|aAa<|aAY<|J7 (k a z σ A x y v b d u _ B q C r E) λ_ O ⟨J,L,N⟩=>?_);exact wpAny_release ⟨σ,J,L,N⟩
def a1h (a:TE)(g:TG):TS:=λD σ H=>a σ H λx b=>g x σ b D.nx
def SU {b e:cu}{d:TE}{g:TG}(f:PE X e d)(i:PG X b g)(j:gn [b] e pos.line X.env=pure false:=by rfl)(k:gv [b] e X.env=pure none:=by rfl)
  (l:(dC [b] X.env).map (·.2)=[gc b X.env]:=by rfl):PS X (.Assign [b] e pos) (a1h d g):=by
 intro a s σ H D I h;refine wpAny_Assign_stores (J7 (f a s σ H _ I h) λv m ⟨x,n,o,p,r⟩=>?_) j k;rw[l];exact J7 (i a m σ n x v _ o p r) λ_ t q=>q
def QG {i:Nat}{x:Str}{e:cu}{d:TE}{a:Pos}(f:X.N.Nodup)(g:X.N[i]?=some x)(j:Loc X.env.scope x)(k:PE X e d)(l:ek e (some (.Name x a)) pos.line X.env=pure false:=by rfl)(m:X.fn x=true\/X.env.scope.names.lookup x=some .local:=by first|exact .inl rfl|exact .inr rfl|assumption):
  PS X (.Assign [.Name x a] e pos) (a1h d (ZO i)):=by
 intro b s σ H D I h;refine aFm (J7 (k b s σ H _ I h) λv t ⟨y,n,o,p,q⟩=>?_) l;exact R8 o f g j p (λu r=>⟨_,n,r,q⟩) m
def a5m (i j:Nat)(ta:TA):TS:=λD σ H=>ta σ H λL a=>∃v w,L=[v,w]/\D.nx ((σ.set i<|some v).set j (some w)) a
def ik {i j:Nat}{x y:Str}{a b:cu}{ta:TA}{l m pt:Pos}{n r FP}(Q:X.calm=true)(B:X.N.Nodup)(T:X.N[i]?=some x)(U:X.N[j]?=some y)(Y:i≠j)
  (C:X.env.scope.names.lookup x=some .local) (E:X.env.scope.names.lookup y=some .local) (ha:PA X [a,b] ta)
  (hw:gv [.Tuple [.Name x l,.Name y m] n pt] (.Tuple [a,b] r FP) X.env=pure (some [x,y]))
  (hs:gn [.Tuple [.Name x l,.Name y m] n pt] (.Tuple [a,b] r FP) pos.line X.env=pure false:=by rfl):
  PS X (.Assign [.Tuple [.Name x l,.Name y m] n pt] (.Tuple [a,b] r FP) pos) (a5m i j ta):=by
 intro d s σ H D I h;rw[exec_Assign_arm];refine aAa (aEw ?_);rw[hs];refine aAa (aAb ?_);rw[h9 (by decide)];refine aAa (Tuple_<|J7 (ha _ d s σ H _ I h) λus f ⟨L,J,I1,r1,t⟩=>?_);obtain⟨v,w,e1,t⟩:=t;subst e1;obtain⟨g,k,rfl,rv,u⟩:∃g k,us=[g,k]/\RelV v g/\RelV w k:=by
  cases r1 with
  |cons p q=>
   cases q with
   |cons p' q'=>cases q';exact⟨_,_,rfl,p,p'⟩
 refine aBG ?_ (by show 2<=sizeLine;decide);have I2:Inv X d σ J {f with heap:=f.heap.push {cls:=.type "tuple",data:=.seq [g,k].toArray}}:=I1.kept (t':=f.toks) λb o e=>aAc _ e;rw[hw];refine aAa (aAb ?_);show aA (be X.prog X.w) X.A (do rule "assign.swapped-stores";let items<-unpackItems (.ref f.heap.objs.size) 2 none;assignInOrder [λv=>bindName X.env y v,λv=>bindName X.env x v] items.reverse;pure Flow.next) _ _ _;refine aAa (aDC<|aAa<|unpackItems_tuple (items:=#[g,k]) (I.ok.hd Q) (IsTup.new f.heap _) λh' z=>?_);have I3:=I2.kept (h':=h') (t':=f.toks) λb o e=>z b o (aAn<|aAg e) e;show aA _ _ (assignInOrder [λv=>bindName X.env y v,λv=>bindName X.env x v] [k,g]>>=λ_=>pure Flow.next) _ _ _;refine aAa (aEW<|wpAny_bindName<|R8 I3 B U (.inl E) u (λs2 I4=>?_)<|.inr E);refine aEW (wpAny_bindName<|R8 I4 B T (.inl C) rv (λs3 O=>assignInOrder_nil (aAb ?_))<|.inr C);rw[List.set_comm _ _ (aCa Y)]at O;exact⟨_,J,O,t⟩
end
section
variable{X:Cx} {pos:Pos}
def yj (c:TT)(tb:TS):TS:=λD σ H=>∃W:Nat->St->Hp->Prop,(∃m,W m σ H)/\∀m σ H,W m σ H->
 c σ H λb a=>if b=true then∃N:St->Hp->Prop,(∀d e,N d e->∃f,f<m/\W f d e)/\tb {D with nx:=N,ct:=N,bk:=D.nx} σ a else D.nx σ a
def UH {c:cu}{body:List cv}{q:TT}{tb:TS}(r:PassesOwn (be X.prog X.w) X.A X.env X.xe)(C:PT X c q)(E:xG X body tb):PS X (.While c body [] pos) (yj q tb):=by
 intro a s σ H D I h;obtain⟨W,⟨J,L⟩,turn⟩:=h;refine wpAny_While (codeAny_whileLoop (λn O=>∃t u,Inv X a t u O/\W n t u) ?_ J ⟨σ,H,I,L⟩);rintro n Q ⟨d,x,T,U⟩;refine aCY r (J7 (C a Q d x _ T<|turn n d x U) λb Y ⟨y,z,i⟩=>?_);cases b with
 |true=>
  obtain⟨N,B,i⟩:=i;rw[hV rfl];refine aCY r (J7 (E a Y d y _ z i) λf s3 j=>?_);cases f with
  |next=>obtain⟨e,g,k,l⟩:=j;obtain⟨m,o,p⟩:=B e g l;exact⟨m,o,e,g,k,p⟩
  |cont=>obtain⟨e,g,k,l⟩:=j;obtain⟨m,o,p⟩:=B e g l;exact⟨m,o,e,g,k,p⟩
  |brk=>exact j
  |ret v=>exact j
 |false=>rw[h9 aBc];exact aEA ⟨d,y,z,i⟩
end
structure It where
 go:Nat->Hp->Prop
 yld:Nat->Hp->V->Hp->Prop
 stop:Nat->Hp->Prop
def sI (X:Cx)(pins:R4)(H:Hp)(b:bb):Prop:=
 H b=none/\b≠X.env.locals/\b∉X.fs/\(b∈X.ex\/X.s9.heap.objs.size<=b)/\(∀x c,X.env.cells.lookup x=some c->c≠b)/\∀p∈X.pn++pins,p.1≠b
def Inv.af1 (I:Inv X a σ H s)(d:s.heap.objs.size<=b)(f:H' b=none):sI X a H' b:=by
 refine⟨f,aDy (aAv I.lt d),I.ag0 d,.inr (aAl I.sz d),λx c e z=>?_,λp g z=>?_⟩
 .obtain⟨v,q⟩:=I.cell x c e;exact absurd (aAv q.lt (by rw[z];exact d)) (aBs _)
 .exact absurd (aAv (aAg (I.pin p g).1) (by rw[z];exact d)) (aBs _)
structure Turn (P:Program)(w:World)(K:PySem.W.Frag)(tg:Expr)(J:It)(fp:List Addr)(it:Addr)(tn:Nat->Heap->Prop):Prop where
 mem:it∈fp
 obj:∀i h,tn i h->∀b∈fp,∃o,h.get? b=some o/\∀v,o.data≠.cell v
 keep:∀i h h',tn i h->(∀b∈fp,∀o,h.get? b=some o->h'.get? b=some o)->tn i h'
 item:∀(X:Cx),X.prog=P->X.w=w->X.K=K->X.calm=true->∀(i:Nat) (pins:R4) (s:Shared) (σ:St) (H:Hp) (E:G0),Inv X pins σ H s->(∀b∈fp,sI X pins H b)->tn i s.heap->J.go i H->
  wpAny (model P w) X.A (pyNext (.ref it)) (λr s1=>∃u,r=some u/\
   wpAny (model P w) X.A (letOwnedTupleGo tg (.ref it) u) (λ_ s2=>∃x H',Inv X pins σ H' s2/\RelV x u/\J.yld i H x H'/\tn (i+1) s2.heap/\∀b∈fp,H' b=none) E s1) E s
 done:∀(X:Cx),X.prog=P->X.w=w->X.K=K->X.calm=true->∀(i:Nat) (pins:R4) (s:Shared) (σ:St) (H:Hp) (E:G0),Inv X pins σ H s->(∀b∈fp,sI X pins H b)->tn i s.heap->J.stop i H->
  wpAny (model P w) X.A (pyNext (.ref it)) (λr s1=>r=none/\Inv X pins σ H s1) E s
 self:∀(A:Around) (i:Nat) (s:Shared) (Q:G0) (E:G0),tn i s.heap->Q (.ref it) s->wpAny (model P w) A (pyIter (.ref it)) Q E s
abbrev TI:=St->Hp->(It->Hp->Prop)->Prop
def PIE (X:Cx)(a:R4)(σ:St)(j:cu)(R:It->Hp->Prop)(d:ao)(f:a9):Prop:=
 ∃(g:bb) (h:List bb) (i:Nat->cq->Prop) (J:It) (e:Hp),d=.ref g/\Inv X a σ e f/\Turn X.prog X.w X.K j J h g i/\i 0 f.heap/\(∀b∈h,sI X a e b)/\R J e
def PI (X:Cx)(b A7:cu)(d:TI):Prop:=
 ∀(a:R4) (s:a9) (σ:St) (H:Hp) (R:It->Hp->Prop),Inv X a σ H s->d σ H R->
  aA (be X.prog X.w) X.A (dm A7 X.env) (λv e=>aA (be X.prog X.w) X.A (pyIter v) (PIE X a σ b R) X.xe e) X.xe s
def SB {E : ao → a9 → Prop} {Q : Unit → a9 → Prop} (b : s.heap.get? it = some o) (d : o.cls = .type n) (e : o.data = .fields L) (f : ["enumerate", "zip", "dict_itemiterator", "dict_reverseitemiterator", "odict_iterator", "itertools.zip_longest", "itertools.pairwise"].contains n = false) (a : Q () s) : aA M A (letOwnedTupleGo g (.ref it) u) Q E s := by
  unfold letOwnedTupleGo;cases g <;> first
    | exact aAb a
    | (cases u <;> first
        | exact aAb a
        | (refine aAa (wpAny_load b ?_)
           rw [d, e];show aA M A (if (["enumerate", "zip", "dict_itemiterator", "dict_reverseitemiterator", "odict_iterator", "itertools.zip_longest", "itertools.pairwise"].contains n && L[0]? == some (ee _)) = true then _ else _) Q E s;rw [h9 (by intro h; rw [f, Bool.false_and] at h; cases h)];exact aAb a))
def Itl (K:iu)(a:bb):It:=
 ⟨λi H=>∃Y x,Q8 K H a Y/\Y[i]?=some x,λi H x b=>b=H/\∀Y,Q8 K H a Y->Y[i]?=some x,λi H=>∃Y,Q8 K H a Y/\Y.length<=i⟩
def Itt (K:iu)(a:bb):It:=
 ⟨λi H=>∃Y x,Y8 K H a Y/\Y[i]?=some x,λi H x b=>b=H/\∀Y,Y8 K H a Y->Y[i]?=some x,λi H=>∃Y,Y8 K H a Y/\Y.length<=i⟩
def ME {P:bt}{w:cp}{K:iu}{tg:cu}(a it:bb):Turn P w K tg (Itl K a) [it] it (λi h=>h.IsListIter it a i)where
 mem:=by simp
 obj:=λi h st b g=>by
  have e:b=it:=by simpa using g
  subst e;obtain⟨o,e,c,d⟩:=st;exact⟨o,e,λv z=>by rw[d]at z;cases z⟩
 keep:=λi h l st k=>st.at λo e=>k it (by simp) o e
 item:=by intro X q r t U i f s σ H E I m st y;subst q r t;obtain⟨Y,x,n,A⟩:=y;obtain⟨B,C,p,hz⟩:=I.list n;obtain⟨u,hu,ru⟩:=C.get A;obtain⟨J,L,f2,O,Q,T⟩:=m it (by simp);refine wpAny_pyNext_list_item st p.isList (x:=u) (by simpa using hu) λl j sb=>?_;have I1:Inv X f σ H {s with heap:=l}:=I.turned (t':=s.toks) (λb o g e=>(sb.2 b g).trans e) J L O Q T;obtain⟨o,e,c,d⟩:=id j;exact⟨u,rfl,SB (s:={s with heap:=l}) e c d (by decide) ⟨x,H,I1,ru,⟨rfl,λN hy=>by rw[I.ac0 hy n];exact A⟩,j,λb g=>(m b g).1⟩⟩
 done:=by intro X q r t U i f s σ H E I m st y;subst q r t;obtain⟨Y,n,A⟩:=y;obtain⟨B,C,p,hz⟩:=I.list n;obtain⟨J,L,f2,O,Q,T⟩:=m it (by simp);have hl:=C.length;exact wpAny_pyNext_list_end (I.ok.hd U) st p.isList (by simp;lia) λl eb=>⟨rfl,I.turned (t':=s.toks) (λb o g e=>eb b o g e) J L O Q T⟩
 self:=λ_ _ _ _ _ st h=>wpAny_pyIter_listiter st h
def DI {P:bt}{w:cp}{K:iu}{tg:cu}(a it:bb):Turn P w K tg (Itt K a) [it] it (λi h=>h.IsTupleIter it a i)where
 mem:=by simp
 obj:=λi h st b g=>by
  have e:b=it:=by simpa using g
  subst e;obtain⟨o,e,c,d⟩:=st;exact⟨o,e,λv z=>by rw[d]at z;cases z⟩
 keep:=λi h m st k=>st.at λo e=>k it (by simp) o e
 item:=by intro X r t y U i f s σ H E I n st A;subst r t y;obtain⟨Y,x,q,B⟩:=A;obtain⟨j,C,p,hz⟩:=I.tuple q;obtain⟨u,hu,ru⟩:=C.get B;obtain⟨J,L,f2,O,Q,T⟩:=n it (by simp);refine wpAny_pyNext_tuple_item st (show s.heap.IsTuple a j.toArray from p) (x:=u) (by simpa using hu) λm l sb=>?_;have I1:Inv X f σ H {s with heap:=m}:=I.turned (t':=s.toks) (λb o g e=>(sb.2 b g).trans e) J L O Q T;obtain⟨o,e,c,d⟩:=id l;exact⟨u,rfl,SB (s:={s with heap:=m}) e c d (by decide) ⟨x,H,I1,ru,⟨rfl,λN hy=>by rw[I.ab5 hy q];exact B⟩,l,λb g=>(n b g).1⟩⟩
 done:=by intro X r t y U i f s σ H E I n st A;subst r t y;obtain⟨Y,q,B⟩:=A;obtain⟨j,C,p,hz⟩:=I.tuple q;obtain⟨J,L,f2,O,Q,T⟩:=n it (by simp);have hl:=C.length;exact wpAny_pyNext_tuple_end (I.ok.hd U) st (show s.heap.IsTuple a j.toArray from p) (by simp;lia) λm eb=>⟨rfl,I.turned (t':=s.toks) (λb o g e=>eb b o g e) J L O Q T⟩
 self:=λ_ _ _ _ _ st h=>wpAny_pyIter_tupleiter st h
section
variable{X:Cx} {tg:cu}
def a2e (K:iu)(d:TE):TI:=λσ H R=>d σ H λx b=>∃a,x=.ref a/\(∃Y,Q8 K b a Y)/\R (Itl K a) b
def a5n (K:iu)(d:TE):TI:=λσ H R=>d σ H λx b=>∃a,x=.ref a/\(∃Y,Y8 K b a Y)/\R (Itt K a) b
def XV (i:PE X l j):PI X tg l (a2e X.K j):=by
 intro d s σ H R I h;refine J7 (i d s σ H _ I h) λv f ⟨x,k,g,m,n⟩=>?_;obtain⟨a,e,⟨Y,r⟩,q⟩:=n;subst e;cases m;obtain⟨t,w,p,y⟩:=g.list r;refine aDF p.isList ?_;refine⟨f.heap.objs.size,[f.heap.objs.size],_,_,k,rfl,g.kept (t':=f.toks) λb o e=>aAc _ e,ME a _,⟨_,aAr _ rfl,rfl,rfl⟩,λb u=>?_,q⟩;have e:b=f.heap.objs.size:=by simpa using u
 subst e;exact g.af1 (aAj _) (g.hok.fresh<|aAj _)
def mw {l:cu}{j:TE}(k:PE X l j):PI X tg l (a5n X.K j):=by
 intro d s σ H R I h;refine J7 (k d s σ H _ I h) λv f ⟨x,m,g,n,r⟩=>?_;obtain⟨a,e,⟨Y,t⟩,q⟩:=r;subst e;cases n;obtain⟨i,w,p,y⟩:=g.tuple t;refine wpAny_pyIter_tuple (show f.heap.IsTuple a i.toArray from p) ?_;refine⟨f.heap.objs.size,[f.heap.objs.size],_,_,m,rfl,g.kept (t':=f.toks) λb o e=>aAc _ e,DI a _,⟨_,aAr _ rfl,rfl,rfl⟩,λb u=>?_,q⟩;have e:b=f.heap.objs.size:=by simpa using u
 subst e;exact g.af1 (aAj _) (g.hok.fresh<|aAj _)
def a5e (e:TI)(g:TG)(tb:TS):TS:=λD σ H=>e σ H λJ f=>∃W:Nat->Nat->St->Hp->Prop,(∃m,W 0 m σ f)/\∀i m σ H,W i m σ H->
 (J.stop i H/\D.nx σ H)\/(J.go i H/\∃N:St->Hp->Prop,(∀b a,N b a->∃d,d<m/\W (i+1) d b a)/\∀x a,J.yld i H x a->g x σ a λh j=>tb {D with nx:=N,ct:=N,bk:=D.nx} h j)
def pW (a:List bb)(h:cq):List (bb×Obj):=a.filterMap λb=>(h.get? b).map λo=>(b,o)
def bS (a:b∈d)(e:h.get? b=some o):(b,o)∈pW d h:=aCb.mpr ⟨b,a,by rw[e];rfl⟩
def JM (a:p∈pW d h):p.1∈d/\h.get? p.1=some p.2:=by
 obtain⟨b,f,e⟩:=aCb.mp a;cases q:h.get? b with
 |none=>rw[q]at e;cases e
 |some o=>rw[q]at e;have g:(b,o)=p:=Option.some.inj e;subst g;exact⟨f,q⟩
def Inv.pinned (I:Inv X a σ H s)(i:∀b∈f,sI X a H b)(j:∀b∈f,∃o,s.heap.get? b=some o/\∀v,o.data≠.cell v):Inv X (a++pW f s.heap) σ H s:=
 I.ad3 λp k=>(aAP.mp k).elim (λz=>I.pin p (aAL _ z)) λz=>by obtain⟨g,e⟩:=JM z;obtain⟨l,m,n,_⟩:=i p.1 g;obtain⟨o,h,d⟩:=j p.1 g;rw[e]at h;cases h;exact⟨e,l,m,n,d⟩
def Inv.ab4 (I:Inv X (a++d) σ H s):Inv X a σ H s:=I.ad3 λp b=>I.pin p (aAL _<|aBr _ b)
def bq (B:PassesOwn (be X.prog X.w) X.A X.env X.xe)(hc:X.calm=true)(hi:PI X tg A7 wi)(hg:PG X tg g)(j:xG X body tb)(hs:∀x,eQ A7 X.env x=pure x:=by intro _;rfl):PS X (.For tg A7 body [] pos) (a5e wi g tb):=by
 intro a s σ H D I h;refine wpAny_For (J7 (hi a s σ H _ I h) λv s1 h1=>J7 h1 λitv s2 h2=>?_) hs;obtain⟨it,C,tn,J,H2,e,I2,T,km,f2,W,⟨m0,w0⟩,turn⟩:=h2;subst e;have k:∀{t:Hp},(∀b∈C,t b=none)->∀b∈C,sI X a t b:=λhn b j=>⟨hn b j,(f2 b j).2⟩;refine codeAny_forLoop_any (λn s'=>∃i E t,Inv X a E t s'/\tn i s'.heap/\(∀b∈C,t b=none)/\W i n E t) ?_ m0 ⟨0,σ,H2,I2,km,λb j=>(f2 b j).1,w0⟩;rintro n s3 ⟨i,L,Y,I3,O,Q,w3⟩;rcases turn i n L Y w3 with⟨stop,qn⟩|⟨go,N,hN,step⟩
 .refine aCY B (J7 (T.done X rfl rfl rfl hc i a s3 L Y X.xe I3 (k Q) O stop) λr s4 ⟨hr,I4⟩=>?_);subst hr;exact aEA ⟨L,Y,I4,qn⟩
 .refine aCY B (J7 (T.item X rfl rfl rfl hc i a s3 L Y X.xe I3 (k Q) O go) λr s4 ⟨u,hr,h4⟩=>?_);subst hr;refine aCY B (J7 h4 λ_ s5 ⟨x,H5,I5,r5,y5,z,fr5⟩=>?_);have I5':=I5.pinned (k fr5) (T.obj _ _ z);refine aCY B (J7 (hg _ s5 L H5 x u _ I5' r5<|step x H5 y5) λ_ s6 ⟨σ6,H6,I6,q6⟩=>?_);refine aCY B (J7 (j _ s6 σ6 H6 _ I6 q6) λf s7 y=>?_);have again:∀{l:St} {p:Hp},Inv X (a++pW C s5.heap) l p s7->N l p->∃m,m<n/\∃i E t,Inv X a E t s7/\tn i s7.heap/\(∀b∈C,t b=none)/\W i m E t:=λ{l p} q U=>by obtain⟨m',hm,w7⟩:=hN l p U;refine⟨m',hm,i+1,l,p,q.ab4,T.keep _ _ _ z λb j o e=>(q.pin (b,o)<|aAL _<|aAL _<|bS j e).1,λb j=>?_,w7⟩;obtain⟨o,e,d⟩:=T.obj _ _ z b j;exact(q.pin (b,o)<|aAL _<|aAL _<|bS j e).2.1
  cases f with
  |next=>obtain⟨l,p,q,U⟩:=y;exact again q U
  |cont=>obtain⟨l,p,q,U⟩:=y;exact again q U
  |brk=>obtain⟨l,p,q,y⟩:=y;exact⟨l,p,q.ab4,y⟩
  |ret v=>obtain⟨x7,l,p,q,r7,y⟩:=y;exact⟨x7,l,p,q.ab4,r7,y⟩
end
abbrev R2:=V->V->Hp->VK->Prop
def lY (X:Cx)(f:ao->ao->Sem ao)(r:R2):Prop:=
 ∀(a:R4) (s:a9) (σ:St) (H:Hp) (x y:V) (v u:ao) (Q:VK),Inv X a σ H s->RelV x v->RelV y u->r x y H Q->
  aA (be X.prog X.w) X.A (f v u) (EP X a σ Q) X.xe s
def UnR (X:Cx)(f:ao->Sem ao)(r:V->Hp->VK->Prop):Prop:=
 ∀(a:R4) (s:a9) (σ:St) (H:Hp) (x:V) (v:ao) (Q:VK),Inv X a σ H s->RelV x v->r x H Q->
  aA (be X.prog X.w) X.A (f v) (EP X a σ Q) X.xe s
def uK (X:Cx)(f:ao)(r:List V->Hp->VK->Prop):Prop:=
 ∀(a:R4) (s:a9) (σ:St) (H:Hp) (Y:List V) (b:List ao) (Q:VK),Inv X a σ H s->p5 Y b->r Y H Q->
  aA (be X.prog X.w) X.A (call f b) (EP X a σ Q) X.xe s
def tUn (r:V->Hp->VK->Prop)(ta:TE):TE:=λσ H Q=>ta σ H λx a=>r x a Q
def rI (C:Int->Int->Prop)(g:Int->Int->V):R2:=λx y H Q=>∃i j,x=.int i/\y=.int j/\C i j/\Q (g i j) H
def UT (g:Int->Int->V):R2:=λx y H Q=>∃i j,x=.int i/\y=.int j/\Q (g i j) H
def rU (g:Int->V):V->Hp->VK->Prop:=λx H Q=>∃i,x=.int i/\Q (g i) H
section
variable{X:Cx} {a b c:cu} {ta tb tc:TE} {pos:Pos}
def RT (j:PE X a ta)(k:PE X b tb){d:R4}{s:a9}{σ:St}{H:Hp}{R:V->V->Hp->Prop}(I:Inv X d σ H s)
  (h:ta σ H λx i=>tb σ i λy e=>R x y e) {Q:G0} {f:ao->ao->Sem ao}
  (l:∀v u g x y e,Inv X d σ e g->RelV x v->RelV y u->R x y e->aA (be X.prog X.w) X.A (f v u) Q X.xe g):
  aA (be X.prog X.w) X.A (dm a X.env) (λv m=>aA (be X.prog X.w) X.A (dm b X.env) (λu n=>aA (be X.prog X.w) X.A (f v u) Q X.xe n) X.xe m) X.xe s:=by
 refine J7 (j d s σ H _ I h) λv o ⟨x,i,p,q,r⟩=>?_;refine J7 (k d o σ i _ p r) λu g ⟨y,e,t,z,B⟩=>?_;exact l v u g x y e t q z B
def a2q {r:V->Hp->VK->Prop}(e:UnR X (unaryOp op) r)(f:PE X a ta):PE X (.UnaryOp op a pos) (tUn r ta):=by intro d s σ H Q I h;exact UnaryOp_ (J7 (f d s σ H _ I h) λv g ⟨x,i,j,k,l⟩=>e d g σ i x v Q j k l)
def opI {f:ao->ao->Sem ao}{C:Int->Int->Prop}{g:Int->Int->Int}
  (rule:∀(i j:Int) (t u:Tok) (s:a9) (Q:G0) (E:G0),C i j->Q (.int (g i j) s.toks) {s with toks:=s.toks+1}->aA (be X.prog X.w) X.A (f (.int i t) (.int j u)) Q E s):
  lY X f (rI C λi j=>.int (g i j)):=by
 intro d s σ H x y v u Q I e k h;obtain⟨i,j,rfl,rfl,l,q⟩:=h;obtain⟨t,rfl⟩:=e;obtain⟨m,rfl⟩:=k;exact rule i j t m s _ _ l ⟨.int (g i j),H,I.tok _,⟨_,rfl⟩,q⟩
def a2v {f:ao->ao->Sem ao}{g:Int->Int->Int}
  (rule:∀(i j:Int) (t u:Tok) (s:a9) (Q:G0) (E:G0),Q (.int (g i j) s.toks) {s with toks:=s.toks+1}->aA (be X.prog X.w) X.A (f (.int i t) (.int j u)) Q E s):
  lY X f (UT λi j=>.int (g i j)):=by
 intro d s σ H x y v u Q I e k h;obtain⟨i,j,rfl,rfl,q⟩:=h;obtain⟨t,rfl⟩:=e;obtain⟨l,rfl⟩:=k;exact rule i j t l s _ _ ⟨.int (g i j),H,I.tok _,⟨_,rfl⟩,q⟩
def YH {f:ao->ao->Sem ao}{g:Int->Int->Bool}
  (rule:∀(i j:Int) (t u:Tok) (s:a9) (Q:G0) (E:G0),Q (.bool (g i j)) s->aA (be X.prog X.w) X.A (f (.int i t) (.int j u)) Q E s):
  lY X f (UT λi j=>.bl (g i j)):=by
 intro d s σ H x y v u Q I e k h;obtain⟨i,j,rfl,rfl,q⟩:=h;obtain⟨t,rfl⟩:=e;obtain⟨l,rfl⟩:=k;exact rule i j t l s _ _ ⟨.bl (g i j),H,I,rfl,q⟩
def a5c (i j:Int):Prop:=0<=j/\j<=1000000/\i.natAbs<2^64
def qw:lY X (dF .Add) (UT λi j=>.int (i+j)):=a2v λ_ _ _ _ _ _ _ q=>add_int q
def pk:lY X (dF .Sub) (UT λi j=>.int (i-j)):=a2v λ_ _ _ _ _ _ _ q=>sub_int q
def UY:lY X (dF .Mod) (rI (λ_ j=>j≠0) λi j=>.int (i.fmod j)):=opI λ_ _ _ _ _ _ _ d q=>mod_int' d q
def mz:lY X (dF .Pow) (rI a5c λi j=>.int (i^j.toNat)):=opI λ_ _ _ _ _ _ _ d q=>pow_int_small d.1 d.2.1 d.2.2 q
def unI {f:ao->Sem ao}{g:Int->Int}
  (rule:∀(i:Int) (t:Tok) (s:a9) (Q:G0) (E:G0),Q (.int (g i) s.toks) {s with toks:=s.toks+1}->aA (be X.prog X.w) X.A (f (.int i t)) Q E s):
  UnR X f (rU λi=>.int (g i)):=by
 intro d s σ H x v Q I e h;obtain⟨i,rfl,q⟩:=h;obtain⟨t,rfl⟩:=e;exact rule i t s _ _ ⟨.int (g i),H,I.tok _,⟨_,rfl⟩,q⟩
def nq:UnR X (unaryOp .USub) (rU λi=>.int (-i)):=unI λ_ _ _ _ _ q=>neg_int q
end
section
variable{X:Cx} {a b c:cu} {ta tb tc:TE} {pos:Pos}
def fq (I:Inv X d σ H s)(q:Q (.bl k) H)(e:k=f):EP X d σ Q (.bool f) s:=by subst e;exact⟨.bl k,H,I,rfl,q⟩
def a1e:lY X (dq .Lt) (UT λi j=>.bl (decide (i<j))):=YH λ_ _ _ _ _ _ _ q=>lt_int q
def a2r:lY X (dq .LtE) (UT λi j=>.bl (decide (i<=j))):=YH λ_ _ _ _ _ _ _ q=>le_int q
def a0o:lY X (dq .Gt) (UT λi j=>.bl (decide (j<i))):=YH λ_ _ _ _ _ _ _ q=>gt_int q
def a1f:lY X (dq .GtE) (UT λi j=>.bl (decide (j<=i))):=YH λ_ _ _ _ _ _ _ q=>ge_int q
def xk:lY X (dq .Is) (λx y H Q=>y=.non/\Q (.bl (decide (x=.non))) H):=by
 intro d s σ H x y v u Q I e f h;obtain⟨rfl,q⟩:=h;cases f;refine is_none_gen (fq I q ?_);cases x<;>first
  |(cases e;rfl)
  |(obtain⟨t,rfl⟩:=e;rfl)
def RD (b:cu)(h:op≠.In:=by decide)(d:op≠.NotIn:=by decide):gy op b=false:=by
 have e:(op==CmpOp.In)=false:=by cases op<;>first|rfl|exact absurd rfl h
 have f:(op==CmpOp.NotIn)=false:=by cases op<;>first|rfl|exact absurd rfl d
 cases b<;>simp[gy,e,f]
def DZ:(sizeLine:Nat)<2^63:=by rw[aFs];decide
def vals1 (r:p5 [x] d):∃u,d=[u]/\RelV x u:=by
 cases r with
 |cons e f=>cases f;exact⟨_,rfl,e⟩
def vals2 (r:p5 [x,y] e):∃u d,e=[u,d]/\RelV x u/\RelV y d:=by
 cases r with
 |cons f g=>
  cases g with
  |cons h i=>cases i;exact⟨_,_,rfl,f,h⟩
def PL:uK X (.builtin "abs") (λY H Q=>∃i,Y=[.int i]/\Q (.int (if i<0 then-i else i)) H):=by intro d s σ H Y e Q I r h;obtain⟨i,rfl,q⟩:=h;obtain⟨u,rfl,t,rfl⟩:=vals1 r;exact call_abs_int λu f=>⟨.int (if i<0 then-i else i),H,I.tok _,⟨_,rfl⟩,q⟩
def uV:uK X (.type "int") (λY H Q=>(∃i,Y=[.int i]/\Q (.int i) H)\/∃k,Y=[.bl k]/\Q (.int (if k then 1 else 0)) H):=by
 intro d s σ H Y f Q I r h;rcases h with⟨i,rfl,q⟩|⟨k,rfl,q⟩
 .obtain⟨u,rfl,t,rfl⟩:=vals1 r;exact call_int_int ⟨.int i,H,I,⟨_,rfl⟩,q⟩
 .obtain⟨u,rfl,e⟩:=vals1 r;cases e;exact call_int_bool ⟨.int (if k then 1 else 0),H,I.tok _,⟨_,rfl⟩,q⟩
end
section
variable{prog:bt} {w:cp} {A:cf} {E:G0} {s:a9} {K:iu} {x dx C f:bb} {mA:dS} {name:Str} {v:ao}
end
section
variable{P:bt} {w:cp} {H H':Hp} {h h':cq} {a C dx:bb} {fs xm:List (Str×V)}
end
section
variable{X:Cx} {pins:R4} {σ:St} {H:Hp} {s:a9} {a C dx:bb} {fs:List (Str×V)} {f:Str} {v:V} {A:cf} {E:G0}
end
section
variable{X:Cx} {o e value:cu} {f:Str} {pos pos' tpos:Pos} {ta tv:TE}
end
section
variable{X:Cx} {pins:R4} {σ:St} {H:Hp} {s:a9} {A:cf} {E:G0} {Q:G0} {c:ao} {b:Bool}
end
structure Room (k:Nat)(A:Around):Prop where
 hd:A.handled=none
 dp:A.depth+3*k+5<recursionLimit
 un:A.units+16*k+200<cLine
def Room.mono (r:Room k A)(h:j<=k):Room j A:=⟨r.hd,by have:=r.dp;lia,by have:=r.un;lia⟩
def Room.deeper (r:Room (k+1) A)(env:Env):Room k (A.deeper env):=
 ⟨r.hd,by have:=r.dp;show A.depth+1+3*k+5<_;lia,by have:=r.un;show A.units+3+16*k+200<_;lia⟩
def Room.depth (r:Room k A):A.depth<recursionLimit:=by have:=r.dp;lia
def Room.units (r:Room k A):A.units+64<cz:=by have:=r.un;lia
def a3w:TA:=λ_ H Q=>Q [] H
def a1z (ta:TE)(tr:TA):TA:=λσ H Q=>ta σ H λx a=>tr σ a λY b=>Q (x::Y) b
section
variable{X:Cx} {e:cu} {es:List cu} {te:TE} {t:TA} {pos:Pos}
def dR:PA X [] a3w:=λ_ _ _ _ H Q I h=>aFn ⟨[],H,I,.nil,h⟩
def R0 (b:PE X e te)(d:PA X es t)(f:ba (e::es) X.env=(false,dm e X.env)::ba es X.env:=by rfl):PA X (e::es) (a1z te t):=by intro pos a s σ H Q I h;rw[f];show aA _ _ (spliced ((false,dm e X.env)::cy pos (ba es X.env))) _ _ s;refine aEX (J7 (b a s σ H _ I h) λu g ⟨x,i,j,k,l⟩=>?_);exact J7 (d pos a g σ i _ j l) λq r ⟨Y,m,n,o,p⟩=>⟨x::Y,m,n,.cons k o,p⟩
def a4z (t:TA):TE:=λσ H Q=>t σ H λY a=>Y.length<=sizeLine/\∀p,a p=none->Q (.ref p) (upd a p<|.tup Y)
def a5k (t:TA):TE:=λσ H Q=>t σ H λY a=>Y.length<=sizeLine/\∀p,a p=none->Q (.ref p) (upd a p<|.lst Y)
def yx {i}(h:PA X es t):PE X (.Tuple es i pos) (a4z t):=by intro a s σ H Q I j;refine wpAny_Tuple_spliced (J7 (h pos a s σ H _ I j) λk d ⟨Y,f,g,r,z,q⟩=>⟨by rw[<-r.length];exact z,?_⟩);have l:f d.heap.objs.size=none:=g.hok.fresh (aAj _);refine⟨.ref d.heap.objs.size,upd f d.heap.objs.size (.tup Y),g.laid (t':=d.toks) (λb u e=>aAc _ e) (aAj _) ?_,rfl,q _ l⟩;exact⟨z,k,r,⟨_,aAr _ rfl,rfl,_,rfl⟩⟩
def QA (h:PA X es t):PE X (.List es pos) (a5k t):=by intro a s σ H Q I i;refine wpAny_List_spliced (J7 (h pos a s σ H _ I i) λj d ⟨Y,f,g,r,z,q⟩=>⟨by rw[<-r.length];exact z,?_⟩);have k:f d.heap.objs.size=none:=g.hok.fresh (aAj _);refine⟨.ref d.heap.objs.size,upd f d.heap.objs.size (.lst Y),g.laid (t':=d.toks) (λb u e=>aAc _ e) (aAj _) ?_,rfl,q _ k⟩;exact⟨z,j,0,r,aAr _ rfl⟩
end
abbrev Sp:=List V->Hp->VK->XK->Prop
abbrev US:=List Env->Hp->a9->XK->ao->a9->Prop
structure Env0 (P:Program)(w:World)(K:PySem.W.Frag)(mg:dS)(base:Heap)(A:Around)(outer:List Env)(s:Shared)(H:Hp):Prop where
 frames:A.frames=some outer
 mod:Mod K mg base
 bs:∀b o,base.get? b=some o->s.heap.get? b=some o/\H b=none
 bsz:base.objs.size<=s.heap.objs.size
 funs:s.heap.FunFrames base outer
 frf:∀b∈AM outer,H b=none
 hok:gO P w H s.heap
 bare:AllBare s.gens
def CE (a:List Env)(P:bt)(w:cp)(H:Hp)(s:a9)(Q:VK)(u:ao)(s':a9):Prop:=
 ∃v b,s'.os=s.os/\AllBare s'.gens/\Un (AM a) [] H b s.heap s'.heap/\gO P w b s'.heap/\RelV v u/\Q v b
def CR (b:US)(a:List Env)(P:bt)(w:cp)(H:Hp)(s:a9)(Q:VK)(E:XK)(r:Result)(s':a9):Prop:=
 match r with
 |.ok (.ret u)=>CE a P w H s Q u s'
 |.ok _=>False
 |.error e=>b a H s E e s'
structure FnOk (P:Program)(w:World)(K:PySem.W.Frag)(mg:dS)(base:Heap)(CX:US)(k:Nat)(f:Addr)(fd:FuncData)(ps:List Str)(sp:Sp):Prop where
 len:∀L H Q E,sp L H Q E->L.length=ps.length
 run:∀(A:Around) (outer:List Env) (s:Shared) (H:Hp) (args:Args) (us:List Value) (L:List V) (Q:VK) (E:XK),Room k A->Env0 P w K mg base A outer s H->BindsTo s fd args (ps.zip us)->p5 L us->sp L H Q E->
  codeAny (model P w) A (.call (.ref f) args) (CR CX outer P w H s Q E) s
def FnOk.imp {P:bt}{w:cp}{K:iu}{mg:dS}{base:cq}{e:US}{k:Nat}{f:bb}{fd:dn}{ps:List Str}{g b:Sp}(F:FnOk P w K mg base e k f fd ps g)
  (h:∀L H Q E,b L H Q E->g L H Q E):FnOk P w K mg base e k f fd ps b:=
 ⟨λL H Q E q=>F.len L H Q E (h _ _ _ _ q),λA a s H d i L Q E j l m n o=>F.run A a s H d i L Q E j l m n (h _ _ _ _ o)⟩
section
variable{X:Cx} {pins:R4} {σ:St} {H:Hp} {s s':a9}
def Inv.af4 (I:Inv X pins σ H s):Env0 X.prog X.w X.K X.mg X.base X.A X.stack s H:=
 ⟨I.ok.frames,I.ok.mod,I.bs,aAl I.ok.bsz I.sz,I.stack,I.ad4,I.hok,I.bare⟩
def Inv.after (I:Inv X pins σ H s)(h:CE X.stack X.prog X.w H s Q u s'):EP X pins σ Q u s':=by obtain⟨v,i,os,a,un,e,r,q⟩:=h;obtain⟨j,g,d,t,f⟩:=s';obtain rfl:f=s.os:=os;exact⟨v,i,I.call (h':=j) (g':=g) (d':=d) (t':=t) (ch:=[]) un e a (λb z=>absurd z (by simp)),r,q⟩
end
def a3b (b:Sp)(a:List V)(E:XK)(t:TA):TE:=λσ H Q=>t σ H λL d=>b (L++a) d Q E
def Binds (K:iu)(fd:dn)(ps:List Str)(ds:List ao):Prop:=
 ∀(s:a9) (us:List ao),K.In s.heap->(us++ds).length=ps.length->BindsTo s fd ⟨us,[]⟩ (ps.zip<|us++ds)
def Binds.all {K:iu}{fd:dn}{ps:List Str}(h:∀a:List ao,a.length=ps.length->bindArgs fd ⟨a,[]⟩=pure (ps.zip a)):Binds K fd ps []:=λs a _ b=>by rw[aCs]at b⊢;exact .of_eq (h a b)
def FS (d:US)(X:Cx)(E:XK):Prop:=∀(a:R4) (σ:St) (H:Hp) (s:a9) (e:ao) (b:a9),Inv X a σ H s->d X.stack H s E e b->X.xe e b
section
variable{X:Cx} {CX:US} {k:Nat} {f C:bb} {fd:dn} {ps:List Str} {sp:Sp} {dvs:List V} {ds:List ao} {E:XK} {x m:Str} {p pos apos:Pos} {e o:cu} {es:List cu} {ta:TE} {t:TA}
def uk (F:FnOk X.prog X.w X.K X.mg X.base CX k f fd ps sp)(i:Room k X.A)(j:Binds X.K fd ps ds)(l:p5 dvs ds)(n:FS CX X E)(I:Inv X a σ H s)(r:p5 L b)(h:sp (L++dvs) H Q E):aA (be X.prog X.w) X.A (call (.ref f) b) (EP X a σ Q) X.xe s:=by
 have g:p5 (L++dvs) (b++ds):=r.append l;have q:(b++ds).length=ps.length:=by rw[<-g.length];exact F.len _ _ _ _ h
 refine wpAny_call (aDR (F.run X.A X.stack s H ⟨b,[]⟩ (b++ds) (L++dvs) Q E i I.af4 (j s b I.kIn q) g h) λr v d=>?_);cases r with
 |error e=>exact n a σ H s e v I d
 |ok y=>
  cases y with
  |ret u=>exact I.after d
  |next=>exact aAm d
  |brk=>exact aAm d
  |cont=>exact aAm d
def XY (F:FnOk X.prog X.w X.K X.mg X.base CX k f fd ps sp)(d:Room k X.A)(g:Gl X x)(i:X.mg x=some (.ref f))(j:PySem.W.keepIn X.K (.ref f)=true)(l:Binds X.K fd ps ds)(n:p5 dvs ds)(u:FS CX X E)
  (v:PA X (e::es) t) (y:(x==ix)=false:=by decide) (z:ba (e::es) X.env=(false,dm e X.env)::ba es X.env:=by rfl) (B:(cy pos (ba es X.env)).any (·.1)=false:=by rfl):
  PE X (.Call (.Name x p) (e::es) [] pos) (a3b sp dvs E t):=by
 intro a s σ H Q I h;refine aBi (wZ I g i ?_ y);refine PySem.W.callWith_K (h₀:=X.base) I.ok.mod.kin j (J7 (v pos a s σ H _ I h) λJ N ⟨L,O,b,r,q⟩=>⟨b.kIn,?_⟩) z B;exact uk F d l n u b r q
structure Mk (K:PySem.W.Frag)(C f:Addr):Prop where
 makes:PySem.W.makesIn K C=true
 init:PySem.W.findIn K (.ref C) "__init__"=some (some (.ref f))
 fn:PySem.W.isFn K (.ref f)=true
 kp:PySem.W.keepIn K (.ref C)=true
end
section
variable{X:Cx} {CX:US} {k:Nat} {f C:bb} {fd:dn} {ps ks:List Str} {sp:Sp} {E:XK} {x m:Str} {p pos apos kpos:Pos} {e o:cu} {es:List cu} {kws:List Keyword} {te ta:TE} {t tk:TA} {nm:Option Str}
variable{g:List ao->List ao->List ao} {gV:List V->List V->List V}
end
structure FnScope (N P:List Str)(sc:Scope):Prop where
 kind:sc.kind=.function
 co:sc.isCoroutine=false
 gen:sc.isGenerator=false
 nd:N.Nodup
 pre:N.take P.length=P
 par:∀x∈P,sc.names.lookup x=some .local\/sc.names.lookup x=some .cell
 nofree:∀y∈sc.names,y.2≠.free
theorem tL {kindOf:Str->Option d7}{x:Str}:∀{binds:List (Str×ao)} {m:dS},(∀v,(x,v)∉binds)->bindL kindOf binds m x=m x
 |[],_,_=>rfl
 |(n,v)::r,m,h=>by
  unfold bindL;rw[tL λw a=>h w (aAe _ a)];split
  .have:x≠n:=by rintro rfl;exact h v aBn
   simp[this]
  .rfl
theorem uL {kindOf:Str->Option d7}{x:Str}:∀{binds:List (Str×ao)} {m:dS},(∀v,(x,v)∉binds)->bindC kindOf binds m x=m x
 |[],_,_=>rfl
 |(n,v)::r,m,h=>by
  unfold bindC;rw[uL λw a=>h w (aAe _ a)];split
  .rfl
  .have:x≠n:=by rintro rfl;exact h v aBn
   simp[this]
theorem vC {kindOf:Str->Option d7}{x:Str}{v:ao}:∀{P:List Str} {L:List ao} {i:Nat} {m:dS},P.Nodup->P[i]?=some x->L[i]?=some v->kindOf x=some .local->
  bindL kindOf (P.zip L) m x=some v
 |[],_,_,_,_,h,_,_=>by simp at h
 |_::_,[],_,_,_,_,h,_=>by simp at h
 |p::P,w::L,0,m,d,a,b,e=>by simp at a b;subst a;subst b;show bindL kindOf ((p,w)::P.zip L) m p=_;unfold bindL;rw[tL λv f=>(aAF.mp d).1 (aDW f).1,hV e];simp
 |p::P,w::L,i+1,m,d,a,b,e=>by show bindL kindOf ((p,w)::P.zip L) m x=_;unfold bindL;exact vC (i:=i) (aAF.mp d).2 (by simpa using a) (by simpa using b) e
theorem tQ {kindOf:Str->Option d7}{x:Str}{v:ao}:∀{P:List Str} {L:List ao} {i:Nat} {m:dS},P.Nodup->P[i]?=some x->L[i]?=some v->kindOf x≠some .local->
  bindC kindOf (P.zip L) m x=some v
 |[],_,_,_,_,h,_,_=>by simp at h
 |_::_,[],_,_,_,_,h,_=>by simp at h
 |p::P,w::L,0,m,d,a,b,e=>by simp at a b;subst a;subst b;show bindC kindOf ((p,w)::P.zip L) m p=_;unfold bindC;rw[uL λv f=>(aAF.mp d).1 (aDW f).1,h9 e];simp
 |p::P,w::L,i+1,m,d,a,b,e=>by show bindC kindOf ((p,w)::P.zip L) m x=_;unfold bindC;exact tQ (i:=i) (aAF.mp d).2 (by simpa using a) (by simpa using b) e
def start (N:List Str)(L:List V):St:=L.map some++aCT (N.length-L.length) none
def FY (d:US)(P:bt)(w:cp)(K:iu)(mg:dS)(base:cq)(N:List Str)(qual:Str)(a:gW)(f:bb)(cd:ao)(A:cf)(outer:List Env)(s:a9)(H:Hp)(E:XK):Cx where
 prog:=P
 w:=w
 K:=K
 mg:=mg
 base:=base
 A:=A.deeper (envOfC qual a s.heap.objs.size f cd)
 N:=N
 s9:=s
 H9:=H
 env:=envOfC qual a s.heap.objs.size f cd
 outer:=outer
 stack:=envOfC qual a s.heap.objs.size f cd::outer
 ex:=[]
 calm:=true
 fn:=λ_=>true
 pn:=[]
 xe:=λe g=>aA (be P w) (A.deeper<|envOfC qual a s.heap.objs.size f cd) (leaving (envOfC qual a s.heap.objs.size f cd) e) (λ_ b=>d outer H s E e b) (λh b=>d outer H s E h b) g
def zB {sc:gW}{n:Nat}{x:Str}(h:sc.names.lookup x=some .cell):∃c,(dA n sc.names []).lookup x=some c:=by have q:=PySem.W.cellsFrom_some sc.names n [] (.inl h);exact aFo.mp q
def LN {O:US}{P:bt}{w:cp}{K:iu}{mg:dS}{base:cq}{N ps:List Str}{qual:Str}{d:gW}{f:bb}{cd:ao}{A:cf}{g:List Env}{s Q:a9}{H:Hp}{E:XK}{J:List ao}{L:List V}
  (S:FnScope N ps d) (Y:A.handled=none) (l:Env0 P w K mg base A g s H) (hl:L.length=ps.length) (r:p5 L J)
  (x:InCallC s s.heap.objs.size (bindL (envOfC qual d s.heap.objs.size f cd).kindOf (ps.zip J) λ_=>none) (dA (s.heap.objs.size+1) d.names []) (bindC (envOfC qual d s.heap.objs.size f cd).kindOf (ps.zip J) λ_=>none) Q):
  Inv (FY O P w K mg base N qual d f cd A g s H E) [] (start N L) H Q:=by
 have bp:ps.length<=N.length:=by have:=ip aGg S.pre;rw[aBN]at this;lia
 obtain⟨C,tk,rfl,T⟩:=x.done;have m:∀b:bb,b∉(FY O P w K mg base N qual d f cd A g s H E).ex:=λb z=>absurd (show b∈([]:List bb)from z) (by simp);refine⟨⟨l.mod,S.kind,rfl,rfl,aAj _,λy z c C j=>?_,λy o=>?_,λy c _ h=>?_,λ_=>Y,aFW l.frames,.inr ⟨rfl,rfl⟩,λb z=>absurd z (m b),l.bs,l.bsz,λb _ _=>m b,λb z=>absurd z (m b),l.funs,l.frf⟩,
  rfl,l.bare,Un.kept T,⟨_,x.toInCall.ns,λi y v C j h3=>?_⟩,λy c h=>⟨_,x.cell y c h⟩,l.hok.fresh (aAj _),λy c h=>?_,λp t=>absurd (show p∈([]:R4)from t) (by simp),l.hok.kept T,?_⟩
 .exact name_of_addr x.apart (PySem.mem_of_lookup C) (PySem.mem_of_lookup j)
 .have o:d.names.lookup y=some .cell\/d.names.lookup y=some .free:=o;rcases o with o|o
  .exact zB o
  .exact absurd rfl (S.nofree _<|PySem.mem_of_lookup o)
 .exact aDx (x.above y c<|PySem.mem_of_lookup h)
 .have I:i<L.length:=by
   unfold start at j;by_cases I:i<L.length
   .exact I
   .rw[aAz (by simpa using I)]at j;rw[aBy]at j;split at j<;>cases j
  have ha:L[i]?=some v:=by
   unfold start at j;rw[aAZ (by simpa using I),aAK]at j;cases e:L[i]? with
   |none=>rw[e]at j;cases j
   |some a=>rw[e]at j;cases j;rfl
  obtain⟨u,U,rv⟩:=r.get ha;have t:ps[i]?=some y:=by rw[<-S.pre,List.getElem?_take_of_lt (by lia)];exact C
  have B:ps.Nodup:=by rw[<-S.pre];exact S.nd.sublist (List.take_sublist _ _)
  refine⟨u,rv,?_⟩;rcases S.par y (aAw t)with k|k
  .exact .inl ⟨k,vC B t U k⟩
  .obtain⟨c,e⟩:=zB (n:=s.heap.objs.size+1) k;refine .inr ⟨.inl k,c,e,?_⟩;have q:=x.cell y c e;rw[tQ B t U (by show d.names.lookup y≠_;rw[k];decide)]at q;exact q
 .exact l.hok.fresh (aDx<|x.above y c<|PySem.mem_of_lookup h)
 .unfold start;show _=N.length;rw[aAB,aAf,aCt]
  lia
def ZM {p:US}{P:bt}{w:cp}{K:iu}{mg:dS}{base:cq}{k:Nat}{f:bb}{name qual:Str}{g:Arguments}{body:List cv}{a:gW}{dV kV i pm T ct oc:ao}{an od:Option bb}
  {B:Array (Option ao)} {N ps:List Str} {C:Sp} (lk:K.lookup f=some ⟨oc,od,.func (PySem.W.fnOf name qual g body a dV kV i pm an T ct),B⟩) (ia:PySem.W.codeIn K T qual=true) (S:FnScope N ps a)
  (len:∀L H Q E,C L H Q E->L.length=ps.length)
  (vc:∀(A:cf) (d:List Env) (s:a9) (H:Hp) (L:List V) (Q:VK) (E:XK),Room k (A.deeper (envOfC qual a s.heap.objs.size f T))->C L H Q E->
   ∃t,xG (FY p P w K mg base N qual a f T A d s H E) body t/\t {nx:=λ_ H'=>Q .non H',rt:=Q} (start N L) H):
  FnOk P w K mg base p (k+1) f (PySem.W.fnOf name qual g body a dV kV i pm an T ct) ps C:=by
 refine⟨len,λA d s H args us L Q E O j hb r l=>?_⟩;have hl:=len _ _ _ _ l;have KX:K.In s.heap:=j.mod.kin.keeps λb o e=>(j.bs b o e).1;have U:s.heap.NoLimit:=j.mod.nolimit.keeps λb o e=>(j.bs b o e).1;have nu:∀y∈ps.zip us,a.names.lookup y.1=some .local\/(a.names.lookup y.1=some .cell/\((dA (s.heap.objs.size+1) a.names []).lookup y.1).isSome=true):=λ⟨n,v⟩ hy=>by
  rcases S.par n (aDW hy).1 with q|q
  .exact .inl q
  .exact .inr ⟨q,PySem.W.cellsFrom_some _ _ _ (.inl q)⟩
 refine codeAny_call_function O.depth (KX _ _ lk) rfl S.co S.gen rfl (PySem.W.codeRec_of KX ia) (hb _ _ _ _ ?_);refine wpAny_newFunctionEnv_cells S.kind nu λenv he s1 x=>?_;subst he;refine⟨U.keeps x.toInCall.keep,codeAny_func ?_⟩;obtain⟨t,ht,hq⟩:=vc A d s H L Q E (O.deeper _) l;have I:Inv (FY p P w K mg base N qual a f T A d s H E) [] (start N L) H s1:=LN S O.hd j hl r x;refine aCH (ht [] s1 (start N L) H _ I hq) (λfl Y h=>?_) λe Y h=>h;have m:∀{z:St} {H':Hp} {v:V} {u:ao},Inv (FY p P w K mg base N qual a f T A d s H E) [] z H' Y->RelV v u->Q v H'->CE d P w H s Q u Y:=
  λ{z H' v u} J rv q=>⟨v,H',J.os,J.bare,J.base,J.hok,rv,q⟩
 cases fl with
 |ret u=>obtain⟨v,z,H',J,rv,q⟩:=h;exact m J rv q
 |next=>obtain⟨z,H',J,q⟩:=h;exact m (v:=V.non) (u:=Value.none) J rfl q
 |brk=>obtain⟨_,_,_,q⟩:=h;exact aAm q
 |cont=>obtain⟨_,_,_,q⟩:=h;exact aAm q
section
variable{X:Cx} {x:Str} {p pos:Pos} {e:cu} {es:List cu} {t:TA} {id T:String} {r:List V->Hp->VK->Prop}
end
end L2
namespace HT
open PySem PyProof.Rows
def lexLt:List Int->List Int->Bool
 |[],[]=>false
 |[],_::_=>true
 |_::_,[]=>false
 |x::Y,y::N=>if x=y then lexLt Y N else decide (x<y)
def J3 (x y:Int)(Y N:List Int):lexLt (x::Y) (y::N)=if x=y then lexLt Y N else decide (x<y):=rfl
def Z5:lexLt [] []=false:=rfl
def N7 (y:Int)(N:List Int):lexLt [] (y::N)=true:=rfl
def D8 (x:Int)(Y:List Int):lexLt (x::Y) []=false:=rfl
def zC (A:cf)(s:a9)(a:Int)(t:Tok)(c:Int)(u:Tok):∃e,SeqAt.EqAt A s (.int a t) (.int c u) e/\(e=true↔a=c):=
 ⟨(a==c),aEY a t c u,by simp⟩
def CA (A:cf)(s:a9)(a:Int)(t:Tok)(c:Int)(u:Tok)(prog:bt)(w:cp)(E:G0)(Q:G0)(h:Q (.bool (decide (a<c))) s):
  aA (be prog w) A (richCompare .Lt (.int a t) (.int c u)) Q E s:=
 (PyProof.Rows.lt_int h:aA (be prog w) A (dq .Lt (.int a t) (.int c u)) Q E s)
section
open PySem.SeqAt
open PySem.AutoSeq1 (wpAny_loadPart')
open PySem.MeetsSeq PySem.MeetsSeq2 PySem.MeetsSeq3
def sG (l b:bb)(items m:Array ao)(n n2:Nat)(dd ve:Option bb)(sl uc:Array (Option ao))(ns z:List Int)(T:IntsAre items.toList ns)(U:IntsAre m.toList z):
  Meets (Builtin.«tuple.__lt__» ⟨[.ref l,.ref b],[]⟩)
   (λ_ R s=>s.heap.get? l=some {cls:=.type "tuple",dict:=dd,data:=.seq items n,slots:=sl}/\s.heap.get? b=some {cls:=.type "tuple",dict:=ve,data:=.seq m n2,slots:=uc}/\
    R (.ok (.ret (.bool (lexLt ns z)))) s):=
 .of_wp λj w A R s h=>by
  obtain⟨B,g,d,C,os⟩:=s;obtain⟨hl,hb,h⟩:=h;have f2:=AutoSeq1.sub_tuple_tuple;have z1:items.size=ns.length:=by rw[<-T.length];simp
  have z2:m.size=z.length:=by rw[<-U.length];simp
  wp_walk using aEB hl,aEB hb,aCA _ (λrest b I=>b.1=none/\I=⟨B,g,d,C,os⟩/\∃(L E:List ao) (o p:List Int),rest=L.zip E/\
   IntsAre L o/\IntsAre E p/\o.length+m.size=p.length+items.size/\R (.ok (.ret (.bool (lexLt o p)))) ⟨B,g,d,C,os⟩) _
  case turn=>
   rintro⟨y,x⟩ rest b I ⟨J,rfl,L,E,o,p,i,N,H,f,k⟩;cases N with
   |nil=>rw[List.zip_nil_left]at i;cases i
   |cons a t r=>
    cases H with
    |nil=>rw[List.zip_nil_right]at i;cases i
    |cons c u v=>
     rw[aBZ]at i;injection i with O ae;injection O with hy hx;subst hy hx;rw[J3]at k;simp only[aAp]at f;obtain⟨e,he,Y⟩:=zC A.in1 ⟨B,g,d,C,os⟩ a t c u;refine aAa (he j w _ _ ?_);cases e with
     |true=>
      rw[hV (Y.mp rfl)]at k
      wp_walk
      exact⟨rfl,rfl,_,_,_,_,ae,r,v,by lia,k⟩
     |false=>
      rw[h9 (λq=>absurd (Y.mpr q) aBc)]at k;have Q:=CA A.in1 ⟨B,g,d,C,os⟩ a t c u j w
      wp_walk using Q
      exact⟨_,rfl,by simpa using k⟩
  case fin=>
   rintro⟨b1,b2⟩ I ⟨J,rfl,L,E,o,p,i,N,H,f,k⟩;simp only at J;subst J;have hv:lexLt o p=decide (items.size<m.size):=by
    cases N with
    |nil=>
     cases H with
     |nil=>simp only[aBg]at f;rw[Z5];exact(decide_eq_false (by lia)).symm
     |cons c u hw=>simp only[aBg,aAp]at f;rw[N7];exact(decide_eq_true (by lia)).symm
    |cons a t hv=>
     cases H with
     |nil=>simp only[aBg,aAp]at f;rw[D8];exact(decide_eq_false (by lia)).symm
     |cons c u hw=>rw[aBZ]at i;cases i
   rw[hv]at k
   wp_walk
   exact⟨_,rfl,by simpa[Builtin.Tuple.tupleCompareSizes]using k⟩
  case h=>exact⟨rfl,rfl,items.toList,m.toList,ns,z,rfl,T,U,by lia,h⟩
end
section
variable{prog:bt} {w:cp} {A:cf} {E:G0} {s:a9}
def lt_tupInts {Q:G0}(p:IsTup s.heap l items)(q:IsTup s.heap b e)(r:IntsAre items.toList ns)(t:IntsAre e.toList d)(u:A.units<cz)(h:Q (.bool (lexLt ns d)) s):aA (be prog w) A (dq .Lt (.ref l) (.ref b)) Q E s:=by
 obtain⟨⟨v,y,f,z⟩,g,i,n,j⟩:=id p;obtain⟨⟨k,B,data2,C⟩,m,o,H,a⟩:=id q;simp only at i j o a;subst i j o a;exact richCompare_meets_room (op:=.Lt) ⟨_,g,rfl⟩ ⟨_,m,rfl⟩ PySem.F.slot_tuple_lt PySem.F.entry_tuple_lt (PySem.F.args_tuple_lt_2 _ _) (sG l b items e n H y B z C ns d r t)
  ⟨g,m,show aDE (lexLt ns d)≠Value.notImplemented/\Q (.bool (lexLt ns d)) s from⟨(λx=>nomatch x),h⟩⟩ u
def cat_tup {Q:G0}(u:IsTup s.heap t L.toArray)(v:IsTup s.heap b ws.toArray)(h:L≠[])(x:ws=[]->Q (.ref t) s)(y:ws≠[]->Q (.ref s.heap.objs.size) {s with heap:=s.heap.push {cls:=.type "tuple",data:=.seq (L++ws).toArray}})(z:L.length+ws.length<=sizeLine):aA (be prog w) A (dF .Add (.ref t) (.ref b)) Q E s:=by
 obtain⟨⟨cls,i,data,j⟩,d,k,n,l⟩:=id u;obtain⟨⟨m,o,data2,p⟩,f,q,r,a⟩:=id v;simp only at k l q a;subst k l q a;have e:L.toArray++ws.toArray=(L++ws).toArray:=by simp
 by_cases g:ws=[]
 .exact aFS ⟨_,d,rfl⟩ ⟨_,f,rfl⟩ aFA seq_tuple_add PySem.F.slot_tuple_add PySem.F.entry_tuple_add (PySem.F.args_tuple_add_2 _ _)
   (tuple_addW1 t b L.toArray ws.toArray n r i o j p (by simpa using h) (by simp[g])) ⟨d,f,x g⟩
 .refine aFS ⟨_,d,rfl⟩ ⟨_,f,rfl⟩ aFA seq_tuple_add PySem.F.slot_tuple_add PySem.F.entry_tuple_add (PySem.F.args_tuple_add_2 _ _)
   (tuple_addW2 t b L.toArray ws.toArray n r i o j p (by simpa using h) (by simpa using g) (by rw[aAq,aAq];exact z)) ⟨d,f,?_⟩
  rw[e];exact y g
def sIx (n d:Nat):Option Int->Nat
 |none=>d
 |some v=>if v<0 then(v+(n:Int)).toNat else min v.toNat n
def a2z (n d:Nat):sIx n d none=d:=rfl
def sIx_nat (n d k:Nat):sIx n d (some (k:Int))=min k n:=by show(if(k:Int)<0 then((k:Int)+(n:Int)).toNat else min (k:Int).toNat n)=min k n;rw[h9 (by lia),aBP]
def jz (n d:Nat)(b:d<=n)(o:Option Int):sIx n d o<=n:=by
 cases o with
 |none=>exact b
 |some v=>
  show(if v<0 then(v+(n:Int)).toNat else min v.toNat n)<=n;by_cases a:v<0
  .rw[hV a];lia
  .rw[h9 a];exact Nat.min_le_right _ _
def IP (v:Int)(n d:Nat):(if v<0 then max (v+(n:Int)) 0 else min v (n:Int))=((sIx n d (some v):Nat):Int):=by
 show(if v<0 then max (v+(n:Int)) 0 else min v (n:Int))=(((if v<0 then(v+(n:Int)).toNat else min v.toNat n):Nat):Int);by_cases a:v<0
 .simp only[hV a];lia
 .simp only[h9 a];lia
def EJ (lo a:Option Int)(n:Nat):aDK lo a 1 (n:Int)=(((sIx n 0 lo:Nat):Int),((sIx n n a:Nat):Int)):=by
 have b:¬((1:Int)<0):=by lia
 unfold aDK;simp only[b,if_false];refine aDB ?_ ?_
 .cases lo with
  |none=>rfl
  |some v=>exact IP v n 0
 .cases a with
  |none=>rfl
  |some v=>exact IP v n n
def FR (i j:Nat):aCU (i:Int) (j:Int) 1=j-i:=by
 unfold aCU;have a:(1:Int)>0:=by lia
 simp only[a,if_true,Int.ediv_one];split<;>lia
def pV {Q:Option Int->a9->Prop}(p:IsPart v o)(h:Q o s):aA (be prog w) A (Builtin.Slice.slicePartIndex v) Q E s:=by
 cases p with
 |none=>exact slicePart_none h
 |int i t=>exact slicePart_int h
def lV {sl:bb}{d e:ao}{lo a:Option Int}{n:Nat}{Q:Int×Int×Nat->a9->Prop}(g:s.heap.IsSliceOf sl d e .none)(i:IsPart d lo)(j:IsPart e a)
  (h:Q (((sIx n 0 lo:Nat):Int),1,sIx n n a-sIx n 0 lo) s):aA (be prog w) A (aEP (.ref sl) (pure (n:Int))) Q E s:=by
 obtain⟨os,b,k,f⟩:=id g;unfold aEP Builtin.Slice.sliceFields;refine aAa (aAa<|aCV b f (x:=d) rfl<|aAa<|aCV b f (x:=e) rfl<|aAa<|aCV b f (x:=.none) rfl<|aAb ?_);refine aAa (slicePart_none ?_);show aA _ _ (if((1:Int)==0)=true then _ else _) _ _ s;rw[h9 (by decide)];refine aAa (pV i<|aAa<|pV j<|aAa<|aAb ?_);show aA _ _ (match aDK lo a 1 (n:Int)with|(lo,a)=>pure (lo,(1:Int),aCU lo a 1)) _ _ s;rw[EJ lo a n];show aA _ _ (pure (((sIx n 0 lo:Nat):Int),(1:Int),aCU ((sIx n 0 lo:Nat):Int) ((sIx n n a:Nat):Int) 1)) _ _ s;rw[FR];exact aAb h
def MO (Y:Array ao)(i k:Nat):((aBa k).filterMap λ(m:Nat)=>Y[((i:Int)+(m:Int)*1).toNat]?).toArray=((Y.toList.drop i).take k).toArray:=by
 have e:(λ(m:Nat)=>Y[((i:Int)+(m:Int)*1).toNat]?)=λm=>Y[i+m]?:=by
  funext m
  have:((i:Int)+(m:Int)*1).toNat=i+m:=by lia
  rw[this]
 rw[e];have:=pick_run Y i k;rw[aDp]at this;have a:((λx=>Y[x]?)∘λx=>i+x)=λm=>Y[i+m]?:=rfl;rw[a]at this;rw[this]
def getItem_tuple_cut {t sl:bb}{items:Array ao}{i j:ao}{lo a:Option Int}{Q:G0}(b:IsTup s.heap t items)(k:s.heap.IsSliceOf sl i j .none)(l:IsPart i lo)(n:IsPart j a)
  (o:¬(sIx items.size 0 lo=0/\sIx items.size items.size a=items.size))
  (h:Q (.ref s.heap.objs.size) {s with heap:=s.heap.push {cls:=.type "tuple",data:=.seq ((items.toList.drop (sIx items.size 0 lo)).take (sIx items.size items.size a-sIx items.size 0 lo)).toArray}})
  (r:items.size<=sizeLine):aA (be prog w) A (getItem (.ref t) (.ref sl)) Q E s:=by
 have d:sizeOk (.seq ((items.toList.drop<|sIx items.size 0 lo).take (sIx items.size items.size a-sIx items.size 0 lo)).toArray):=by
  show((items.toList.drop<|sIx items.size 0 lo).take (sIx items.size items.size a-sIx items.size 0 lo)).toArray.size<=sizeLine;rw[aAq,aBN,aDi,aBk]
  lia
 have u:sIx items.size items.size a<=items.size:=jz _ _ (aAj _) a;obtain⟨os,e,p,v⟩:=id k;have f:s.TypeIs (.ref sl) "slice":=⟨os,e,p⟩;unfold getItem;try with_reducible refine aAY ?_
 first|refine aAa (aAb ?_)|skip
 refine aAa (wpAny_sequenceKey b.typeIs (by decide) ?_);refine aAa (aCC (name:=aDz "__getitem__") b.typeIs aCG
  (aBB aCG b.typeIs entry_tuple_getitem ?_ (args_tuple_getitem _ _)))
 show aA _ _ (aDG (.ref t)>>=_) _ _ s;refine aAa (tupleItemsOf_ b ?_);refine aAa (aDS f ?_);rw[hV (by decide)];refine aAa (lV k l n ?_);have g:¬((((sIx items.size 0 lo:Nat):Int)==0&&(1:Int)==1&&(sIx items.size items.size a-sIx items.size 0 lo)==items.size)=true):=by intro q;rw[aAQ,aAQ]at q;have x:((sIx items.size 0 lo:Nat):Int)=0:=eq_of_beq q.1.1;have y:sIx items.size items.size a-sIx items.size 0 lo=items.size:=eq_of_beq q.2;exact o ⟨by lia,by lia⟩
 show aA _ _ (if(((sIx items.size 0 lo:Nat):Int)==0&&(1:Int)==1&&(sIx items.size items.size a-sIx items.size 0 lo)==items.size)=true then _ else _) _ _ s;rw[h9 g,MO];first
  |exact aAa (m:=aCZ _) (aBG (aAb ⟨_,rfl,aAb h⟩) d)
  |exact aAa (m:=aCZ _) (aBG (aAa<|aAb<|aAb ⟨_,rfl,aAb h⟩) d)
  |exact aAa (aAa (m:=aCZ _)<|aBG (aAb<|aAb ⟨_,rfl,aAb h⟩) d)
  |exact aAa (aAa (m:=aCZ _)<|aBG (aAb ⟨_,rfl,aAb h⟩) d)
end
end HT
namespace L2
open PySem PySem.Spec PyProof.Rows
abbrev TO:=St->Hp->(Option Int->Hp->Prop)->Prop
def PO (X:Cx)(e:Option cu)(t:TO):Prop:=
 ∀(a:R4) (s:a9) (σ:St) (H:Hp) (Q:Option Int->Hp->Prop),Inv X a σ H s->t σ H Q->
  aA (be X.prog X.w) X.A (evalPart e X.env) (λu d=>∃o b,Inv X a σ b d/\IsPart u o/\Q o b) X.xe s
def VG:TO:=λ_ H Q=>Q none H
def a3c (t:TE):TO:=λσ H Q=>t σ H λx a=>∃i,x=.int i/\Q (some i) a
section
variable{X:Cx} {e:cu} {te:TE} {lo hi:Option cu} {tl th:TO} {pos p2:Pos}
def VY:PO X none VG:=by intro a s σ H Q I h;rw[evalPart_none];exact aAb ⟨none,H,I,.none,h⟩
def XA (h:PE X e te):PO X (some e) (a3c te):=by intro a s σ H Q I b;rw[evalPart_some];refine J7 (h a s σ H _ I b) λu k ⟨x,d,f,g,j⟩=>?_;obtain⟨i,rfl,q⟩:=j;obtain⟨t,rfl⟩:=g;exact⟨some i,d,f,.int i t,q⟩
def wz (X:Cx)(r:V->Option Int->Option Int->Hp->VK->Prop):Prop:=
 ∀(a:R4) (s:a9) (σ:St) (H:Hp) (x:V) (v b d:ao) (lo hi:Option Int) (f:bb) (Q:VK),Inv X a σ H s->RelV x v->s.heap.IsSliceOf f b d .none->IsPart b lo->IsPart d hi->r x lo hi H Q->
  ∃T id,typeLookup (.type T) "__getitem__"=pure (some<|.builtin id)/\s.TypeIs v T/\aA (be X.prog X.w) X.A (getItem v<|.ref f) (EP X a σ Q) X.xe s
def wz.or {r b:V->Option Int->Option Int->Hp->VK->Prop}(h:wz X r)(h':wz X b):wz X (λx lo hi H Q=>r x lo hi H Q\/b x lo hi H Q):=by
 intro a s σ H x v d f lo hi g Q I i j k l q;rcases q with q|q
 .exact h a s σ H x v d f lo hi g Q I i j k l q
 .exact h' a s σ H x v d f lo hi g Q I i j k l q
def tSl (r:V->Option Int->Option Int->Hp->VK->Prop)(te:TE)(tl th:TO):TE:=λσ H Q=>te σ H λx a=>tl σ a λl b=>th σ b λu d=>r x l u d Q
def TY {r:V->Option Int->Option Int->Hp->VK->Prop}(j:wz X r)(k:PE X e te)(m:PO X lo tl)(n:PO X hi th):PE X (.Subscript e (.Slice lo hi none p2) pos) (tSl r te tl th):=by intro a s σ H Q I h;refine Subscript_ (J7 (k a s σ H _ I h) λv o ⟨x,p,t,y,z⟩=>?_);refine wpAny_Slice (J7 (m a o σ p _ t z) λf B ⟨l,C,E,J,L⟩=>J7 (n a B σ C _ E L) λg d ⟨u,i,N,O,U⟩=>?_);rw[evalPart_none];refine aAb ?_;have Y:Inv X a σ i {d with heap:=d.heap.push {cls:=.type "slice",data:=.fields #[f,g,.none]}}:=N.kept (t':=d.toks) λb ob q=>aAc _ q;obtain⟨T,id,hT,ht,hg⟩:=j a {d with heap:=d.heap.push {cls:=.type "slice",data:=.fields #[f,g,.none]}} σ i x v f g l u d.heap.objs.size Q Y y (Heap.IsSliceOf.new ..) J O U;show aA (be X.prog X.w) X.A (subscriptTail e (.Slice lo hi none p2) v<|.ref d.heap.objs.size) (EP X a σ Q) X.xe {d with heap:=d.heap.push {cls:=.type "slice",data:=.fields #[f,g,.none]}};exact tail_any (ops:=[.ref d.heap.objs.size,v]) ht hT hg (by with_unfolding_all rfl)
def BP (Y:List V)(lo hi:Option Int):List V:=(Y.drop<|HT.sIx Y.length 0 lo).take (HT.sIx Y.length Y.length hi-HT.sIx Y.length 0 lo)
def mO (Y:List V)(lo hi:Option Int):(BP Y lo hi).length<=Y.length:=by
 unfold BP;rw[aBN,aDi]
 lia
def a1y (K:iu):V->Option Int->Option Int->Hp->VK->Prop:=λx lo hi H Q=>∃a Y,x=.ref a/\Y8 K H a Y/\
 ¬(HT.sIx Y.length 0 lo=0/\HT.sIx Y.length Y.length hi=Y.length)/\∀p,H p=none->Q (.ref p) (upd H p<|.tup (BP Y lo hi))
def kw:wz X (a1y X.K):=by
 intro g s σ H x v u w lo hi y Q I k l m n h;obtain⟨a,Y,rfl,p,t,q⟩:=h;cases k;obtain⟨f,r,i,j⟩:=I.tuple p;have d:f.toArray.size=Y.length:=by rw[aAq];exact r.length.symm
 refine⟨"tuple",_,aCG.lookup,i.typeIs,?_⟩;refine HT.getItem_tuple_cut i l m n (by rw[d];exact t) ?_ (by rw[d];exact j);rw[d];refine⟨.ref s.heap.objs.size,_,I.laid (t':=s.toks) (o:=.tup (BP Y lo hi)) (λb z q=>aAc _ q) (aAj _) ?_,rfl,q _ (I.hok.fresh<|aAj _)⟩;exact⟨aAl (mO Y lo hi) j,_,(r.drop<|HT.sIx Y.length 0 lo).take (HT.sIx Y.length Y.length hi-HT.sIx Y.length 0 lo),IsTup.new _ _⟩
def a1t (K:iu):R2:=λx y H Q=>∃a b Y N,x=.ref a/\y=.ref b/\Y8 K H a Y/\Y8 K H b N/\Y≠[]/\Y.length+N.length<=sizeLine/\
 (N=[]->Q (.ref a) H)/\(N≠[]->∀p,H p=none->Q (.ref p) (upd H p<|.tup (Y++N)))
def p5.ac4 (r:p5 Y a):a=[]↔Y=[]:=by
 cases r with
 |nil=>simp
 |cons _ _=>simp
def IZ:lY X (dF .Add) (a1t X.K):=by intro g s σ H x y v u Q I j k h;obtain⟨a,b,Y,N,rfl,rfl,l,m,n,i,p,r⟩:=h;cases j;cases k;obtain⟨t,f,A,_⟩:=I.tuple l;obtain⟨B,d,p2,_⟩:=I.tuple m;refine HT.cat_tup A p2 (λz=>n (f.ac4.mp z)) (λz=>⟨.ref a,H,I,rfl,p (d.ac4.mp z)⟩) (λz=>?_) (by rw[<-f.length,<-d.length];exact i);refine⟨.ref s.heap.objs.size,_,I.laid (t':=s.toks) (o:=.tup (Y++N)) (λb C q=>aAc _ q) (aAj _) ?_,rfl,r (λw=>z (d.ac4.mpr w)) _ (I.hok.fresh<|aAj _)⟩;exact⟨by rw[aAB];exact i,_,f.append d,IsTup.new _ _⟩
end
def ZK (n:Nat)(i:Int):Option Nat:=if 0<=i then(if i<n then some i.toNat else none)else if-(n:Int)<=i then some (i+n).toNat else none
def rO {α:Type}(Y:List α)(i:Int):Option α:=(ZK Y.length i).bind λj=>Y[j]?
def WJ (h:ZK n i=some j):seqIndex? i n=some j/\j<n/\-(n:Int)<=i/\i<n:=by
 unfold ZK at h;by_cases b:0<=i
 .rw[hV b]at h;by_cases a:i<n
  .rw[hV a]at h;have e:i.toNat=j:=Option.some.inj h;exact⟨by rw[seqIndex_of b a,e],by lia,by lia,a⟩
  .rw[h9 a]at h;cases h
 .rw[h9 b]at h;by_cases a:-(n:Int)<=i
  .rw[hV a]at h;have e:(i+n).toNat=j:=Option.some.inj h;exact⟨by rw[seqIndex_neg (by lia) a,e],by lia,a,by lia⟩
  .rw[h9 a]at h;cases h
def JA {α:Type}{Y:List α}{i:Int}{v:α}(h:rO Y i=some v):∃j,seqIndex? i Y.length=some j/\Y[j]?=some v/\j<Y.length/\-(Y.length:Int)<=i/\i<Y.length:=by
 unfold rO at h;cases e:ZK Y.length i with
 |none=>rw[e]at h;cases h
 |some j=>rw[e]at h;obtain⟨a,b,d,f⟩:=WJ e;exact⟨j,a,h,b,d,f⟩
def YB (b:cu):Prop:=∀o i,subscripted b false o i=operate [o,i] (getItem o i)
def IxR (X:Cx)(r:R2):Prop:=
 ∀(d a:cu) (b:R4) (s:a9) (σ:St) (H:Hp) (x y:V) (v u:ao) (Q:VK),Inv X b σ H s->RelV x v->RelV y u->r x y H Q->
  subscripted a false v u=operate [v,u] (getItem v u)->aA (be X.prog X.w) X.A (subscriptTail d a v u) (EP X b σ Q) X.xe s
def MtR (X:Cx)(id:String)(r:V->List V->Hp->VK->Prop):Prop:=
 ∀(a:R4) (s:a9) (σ:St) (H:Hp) (x:V) (Y:List V) (v:ao) (b:List ao) (Q:VK),Inv X a σ H s->RelV x v->p5 Y b->r x Y H Q->
  aA (be X.prog X.w) X.A (call (.builtin id) (v::b)) (EP X a σ Q) X.xe s
section
variable{X:Cx} {a b:cu} {ta tb:TE} {pos:Pos}
def a5j (K:iu):R2:=λx y H Q=>∃p Y i v,x=.ref p/\y=.int i/\Q8 K H p Y/\rO Y i=some v/\Q v H
def a4u (K:iu):R2:=λx y H Q=>∃p Y i v,x=.ref p/\y=.int i/\Y8 K H p Y/\rO Y i=some v/\Q v H
def VE:IxR X (a5j X.K):=by
 intro g k d s σ H x y v u Q I E J h A;obtain⟨p,Y,i,z,rfl,rfl,L,N,q⟩:=h;cases E;obtain⟨t,rfl⟩:=J;obtain⟨l,r,m,hz⟩:=I.list L;obtain⟨j,f,O,h3,T,U⟩:=JA N;obtain⟨w,B,n⟩:=r.get O;have hl:=r.length;have hn:=DZ;have e:EP X d σ Q w s:=⟨z,H,I,n,q⟩;by_cases C:0<=i
 .have o:i.toNat=j:=by rw[seqIndex_of C U]at f;exact Option.some.inj f
  exact item_listR m.isList C (by lia) (by rw[o];simpa using B) e A
 .have o:(i+(l.toArray.size:Int)).toNat=j:=by rw[seqIndex_neg (by lia) T]at f;rw[aAq,<-hl];exact Option.some.inj f
  exact subscriptTail_builtinR (x:=w) m.isList.typeIs slot_list_getitem.lookup
   (wpAny_getItem_list_neg (Q:=λr s'=>r=w/\EP X d σ Q r s') m.isList (by lia) (by rw[aAq]<;>lia) (by lia) (by rw[o];simpa using B) ⟨rfl,e⟩) A
def qk:IxR X (a4u X.K):=by
 intro e f d s σ H x y v u Q I m n h o;obtain⟨p,Y,i,z,rfl,rfl,A,B,q⟩:=h;cases m;obtain⟨t,rfl⟩:=n;obtain⟨C,r,l,T⟩:=I.tuple A;obtain⟨j,E,J,U,h4,h5⟩:=JA B;obtain⟨w,L,g⟩:=r.get J;have N:=r.length;have hn:=DZ;have k:EP X d σ Q w s:=⟨z,H,I,g,q⟩;exact subscriptTail_builtinR (x:=w) l.typeIs aCG.lookup
  (getItem_tuple (j:=j) (Q:=λr O=>r=w/\EP X d σ Q r O) l (by lia) (by lia) (by rw[aAq,<-N];exact E) (by simpa using L) ⟨rfl,k⟩) o
def wV (lo d:Option Int)(n:Nat):(fo lo d none n).1=((HT.sIx n 0 lo:Nat):Int)/\(fo lo d none n).2.1=((HT.sIx n n d:Nat):Int)/\(fo lo d none n).2.2=1:=by
 refine⟨?_,?_,rfl⟩
 .cases lo with
  |none=>simp[fo,HT.sIx]
  |some i=>
   simp only[fo,HT.sIx,Option.getD_none,show(1:Int)>0 by decide,if_true];by_cases h:i<0
   .simp only[h,if_true]<;>lia
   .simp only[h,if_false]<;>lia
 .cases d with
  |none=>simp[fo,HT.sIx]
  |some i=>
   simp only[fo,HT.sIx,Option.getD_none,show(1:Int)>0 by decide,if_true];by_cases h:i<0
   .simp only[h,if_true]<;>lia
   .simp only[h,if_false]<;>lia
def rR (d:List ao)(lo e:Option Int):slicePick d.toArray lo e none=((d.drop (HT.sIx d.length 0 lo)).take (HT.sIx d.length d.length e-HT.sIx d.length 0 lo)).toArray:=by obtain⟨f,g,h⟩:=wV lo e d.toArray.size;unfold slicePick;rw[f,g,h];simp only[sliceRange_one,pick_run,aAq]<;>rfl
def a1u (K:iu):V->Option Int->Option Int->Hp->VK->Prop:=λx lo d H Q=>∃a Y,x=.ref a/\Q8 K H a Y/\∀p,H p=none->Q (.ref p) (upd H p<|.lst (BP Y lo d))
def XJ:wz X (a1u X.K):=by intro e s σ H x v p t lo d u Q I g i j k h;obtain⟨a,Y,rfl,l,q⟩:=h;cases g;obtain⟨m,r,f,n⟩:=I.list l;have hlen:=r.length;refine⟨"list",_,slot_list_getitem.lookup,f.isList.typeIs,?_⟩;refine wpAny_getItem_list_slice f.isList i j k .none (by simp) ?_ (by rw[aAq]<;>lia);rw[rR,<-hlen];refine⟨.ref s.heap.objs.size,_,I.laid (t':=s.toks) (o:=.lst (BP Y lo d)) (λb w q=>aAc _ q) (aAj _) ?_,rfl,q _ (I.hok.fresh<|aAj _)⟩;exact⟨aAl (mO Y lo d) n,_,0,(r.drop<|HT.sIx Y.length 0 lo).take (HT.sIx Y.length Y.length d-HT.sIx Y.length 0 lo),aAr _ rfl⟩
def a2f:V->Bool
 |.non=>true
 |.bl _=>true
 |.int _=>true
 |.str _=>true
 |_=>false
def jV:uK X (.builtin "len") (λY H Q=>∃p N,Y=[.ref p]/\(Q8 X.K H p N\/Y8 X.K H p N)/\Q (.int N.length) H):=by
 intro j s σ H Y m Q I r h;obtain⟨p,N,rfl,e,q⟩:=h;obtain⟨u,rfl,k⟩:=vals1 r;cases k;have n:=DZ;rcases e with e|e
 .obtain⟨f,g,i,l⟩:=I.list e;have d:=g.length;exact Calls.call_len_list i.isList (by simp only[aAq]<;>lia) ⟨.int N.length,H,I.tok _,⟨s.toks+1,by rw[aAq,d]⟩,q⟩
 .obtain⟨f,g,i,l⟩:=I.tuple e;have d:=g.length;exact len_tuple i (by simp only[aAq]<;>lia) ⟨.int N.length,H,I.tok _,⟨s.toks+1,by rw[aAq,d]⟩,q⟩
def kK:uK X (.type "list") (λY H Q=>∃p N,Y=[.ref p]/\(Q8 X.K H p N\/Y8 X.K H p N)/\∀l,H l=none->Q (.ref l) (upd H l (.lst N))):=by
 intro j s σ H Y J Q I r h;obtain⟨p,N,rfl,k,q⟩:=h;obtain⟨u,rfl,E⟩:=vals1 r;cases E;have m:∀(d:List ao),p5 N d->N.length<=sizeLine->∀(f:cq) (g:Nat),(∀b C,s.heap.get? b=some C->f.get? b=some C)->
   f.get? s.heap.objs.size=some {cls:=.type "list",dict:=none,data:=.seq d.toArray g,slots:=#[]}->EP X j σ Q (.ref s.heap.objs.size) {s with heap:=f}:=λd i t f g v e=>
  ⟨.ref s.heap.objs.size,_,I.laid (t':=s.toks) v (aAj _) (show ObjOk X.prog X.w _ f _ (.lst N)from⟨t,d,g,i,e⟩),rfl,q _ (I.hok.fresh<|aAj _)⟩
 rcases k with k|k
 .obtain⟨d,i,y,t⟩:=I.list k;have x:=i.length;obtain⟨o,z,A,n,B⟩:=y.isList;exact call_list_seq p (.inl rfl) z A B (λf g v e=>m d i t f g v e) (by simp only[aAq]<;>lia)
 .obtain⟨d,i,y,t⟩:=I.tuple k;have x:=i.length;obtain⟨o,z,A,n,B⟩:=y;exact call_list_seq p (.inr rfl) z A B (λf g v e=>m d i t f g v e) (by simp only[aAq]<;>lia)
def tyV (K : iu) (T : String) (x : V) (H : Hp) : Prop := match x with
  | .str _ => T = "str"
  | .int _ => T = "int"
  | .ref p => (T = "list" ∧ ∃ Y, Q8 K H p Y) ∨ (T = "tuple" ∧ ∃ o, K.lookup p = some o ∧ o.cls = .type "tuple" ∧ o.dict = none) ∨
      (T = "dict" ∧ ((∃ J, H p = some (.dK J)) ∨ ∃ J, H p = some (.dT J))) ∨ (T = "set" ∧ ∃ S n, H p = some (.set S n))
  | _ => False
def SE (I:Inv X k σ H s)(r:RelV x v)(g:tyV X.K T x H):
  s.TypeIs v T/\∀a,v=.ref a->∃l,s.heap.get? a=some l/\l.dict=none:=by
 cases x with
 |str z=>obtain⟨t,rfl⟩:=r;cases(show T= "str"from g);exact⟨typeIs_str s z t,λ_ e=>nomatch e⟩
 |int i=>obtain⟨t,rfl⟩:=r;cases(show T= "int"from g);exact⟨typeIs_int s i t,λ_ e=>nomatch e⟩
 |ref p=>
  cases r;rcases g with⟨rfl,Y,q⟩|⟨rfl,o,d,u,h⟩|⟨rfl,d⟩|⟨rfl,S,n,d⟩
  .obtain⟨w,_,m,_⟩:=I.list q;refine⟨m.isList.typeIs,λa e=>?_⟩;cases e;obtain⟨o,n,e,c,h,_⟩:=m;exact⟨o,e,h⟩
  .refine⟨⟨o,I.kIn p o d,u⟩,λa e=>?_⟩;cases e;exact⟨o,I.kIn _ o d,h⟩
  .have z:∃o,s.heap.get? p=some o/\o.ExactDict:=by
    rcases d with⟨J,d⟩|⟨J,d⟩
    .obtain⟨_,_,_,_,o,_,_,e,f,_⟩:=I.hok p _ d;exact⟨o,e,f⟩
    .obtain⟨_,_,_,_,o,_,_,e,f,_⟩:=I.hok p _ d;exact⟨o,e,f⟩
   obtain⟨o,e,f⟩:=z;refine⟨⟨o,e,f.1⟩,λa j=>?_⟩;cases j;exact⟨o,e,f.2.1⟩
  .obtain⟨o,_,_,_,e,f,_⟩:=I.hok p _ d;refine⟨⟨o,e,f.1⟩,λa j=>?_⟩;cases j;exact⟨o,e,f.2.1⟩
 |_=>exact aAm g
def a4d (K:iu)(T:String)(r:V->List V->Hp->VK->Prop)(e:TE):TE:=λσ H Q=>e σ H λx d=>tyV K T x d/\r x [] d Q
def tBM (K:iu)(T:String)(r:V->List V->Hp->VK->Prop)(e:TE)(t:TA):TE:=λσ H Q=>e σ H λx d=>tyV K T x d/\t σ d λY f=>r x Y f Q
variable{o e:cu} {es:List cu} {to:TE} {t:TA} {name:Str} {apos ai:Pos} {T id:String} {r:V->List V->Hp->VK->Prop}
def TN (j:PlainAttrs T)(slot:Slot T name id)(f:typeOf (.builtin id)=pure (.type "method_descriptor"))(k:MtR X id r)(l:PE X o to)
  (m:fg o name X.env (dm o X.env)=dm o X.env:=by rfl) (n:(apos.endLine==ai.line)=true:=by rfl):PE X (.Call (.Attribute o name apos) [] [] ai) (a4d X.K T r to):=by
 intro d s σ H Q I h;refine wpAny_Call_method0_late m n (J7 (l d s σ H _ I h) λv p ⟨x,q,g,i,u,w⟩=>?_);obtain⟨y,z⟩:=SE g i u;exact⟨T,id,j,slot,f,y,z,aFG rfl (PySem.evalArgs_none<|k d p σ q x [] v [] Q g i .nil w)⟩
def ak (k:PlainAttrs T)(slot:Slot T name id)(f:typeOf (.builtin id)=pure (.type "method_descriptor"))(l:MtR X id r)(m:PE X o to)(n:PA X (e::es) t)
  (p:fg o name X.env (dm o X.env)=dm o X.env:=by rfl)
  (q:((cy ai (ba (e::es) X.env)).all (λx=>!x.1)&&(backToKw ai (keywordEach [] X.env)).all (λx=>x.1.isSome)
   &&decide ((e::es).length+([]:List Keyword).length+(if([]:List Keyword).isEmpty then 0 else 1)<30))=true:=by rfl)
  (u:(apos.endLine==ai.line)=true:=by rfl) (w:ba (e::es) X.env=(false,dm e X.env)::ba es X.env:=by rfl) (y:(cy ai (ba es X.env)).any (·.1)=false:=by rfl):
  PE X (.Call (.Attribute o name apos) (e::es) [] ai) (tBM X.K T r to t):=by
 intro d s σ H Q I h;refine wpAny_Call_method_late p q u rfl (J7 (m d s σ H _ I h) λv z ⟨x,A,g,i,B,C⟩=>?_);obtain⟨E,J⟩:=SE g i B;refine⟨T,id,k,slot,f,E,J,?_⟩;have j:=n ai d z σ A _ g C;rw[w]at j⊢;refine aFG (by show(false||(cy ai<|ba es X.env).any (·.1))=false;rw[y]<;>rfl) (Calls.evalArgs_plain ?_);exact J7 j λN O ⟨L,U,Y,r2,q2⟩=>l d O σ U x L v N Q Y i r2 q2
end
def MtM (X:Cx)(id:String)(r:V->List V->Hp->VK->Prop):Prop:=
 ∀(a:R4) (s:a9) (σ:St) (H:Hp) (x:V) (Y:List V) (v:ao) (b:List ao) (Q:VK),Inv X a σ H s->RelV x v->p5 Y b->r x Y H Q->
  aA (be X.prog X.w) X.A (call (.builtin id) (v::b)) (EP X a σ Q) X.xe s
theorem p5.one:∀{x:V} {a:List ao},p5 [x] a->∃u,a=[u]/\RelV x u
 |_,_,.cons r .nil=>⟨_,rfl,r⟩
theorem p5.zero:∀{a:List ao},p5 [] a->a=[]
 |_,.nil=>rfl
def p5.dropLast (h:p5 Y a):p5 Y.dropLast a.dropLast:=by
 induction h with
 |nil=>exact .nil
 |cons r t b=>
  cases t with
  |nil=>exact .nil
  |cons q d=>exact .cons r b
def EH {α:Type}(l:List α):l.eraseIdx (l.length-1)=l.dropLast:=by
 induction l with
 |nil=>rfl
 |cons a r d=>
  cases r with
  |nil=>rfl
  |cons b r=>
   have e:(a::b::r).length-1=((b::r).length-1)+1:=by
    have f:(a::b::r).length=r.length+2:=rfl;have g:(b::r).length=r.length+1:=rfl
    lia
   rw[e,aFt,d]
   all_goals rfl
section
variable{X:Cx} {pins:R4} {σ:St} {H:Hp} {s:a9} {l b:bb} {Y N zs:List V}
def Inv.af0 {a its':List ao}{n:Nat}{f:Array ao->Array ao}{t':Nat}(I:Inv X pins σ H s)(d:H l=some (.lst Y))
  (e:s.heap.get? l=some {cls:=.type "list",data:=.seq a.toArray n}) (g:f a.toArray=its'.toArray) (h:p5 N its') (hz:N.length<=sizeLine):
  Inv X pins σ (upd H l (.lst N)) {s with heap:=s.heap.update l (aBT f),toks:=t'}:=by
 have q:=PySem.IsL.update e f;rw[g]at q;refine I.write (x:=l) (e:=l) (by rw[d];exact trivial) (.inl rfl) (λk u i j=>(aAI s.heap (aBT f)<|aCa i).trans j) ⟨_,q⟩ ?_;exact⟨hz,its',_,h,q⟩
def Inv.af9 (I:Inv X pins σ H s)(d:p5 N a)(hz:N.length<=sizeLine):
  Inv X pins σ (upd H s.heap.objs.size (.lst N)) {s with heap:=s.heap.push {cls:=.type "list",data:=.seq a.toArray},toks:=t'}:=
 I.laid (λ_ _ q=>aAc _ q) (aAj _) ⟨hz,a,0,d,aAr _ rfl⟩
def Inv.fresh (I:Inv X pins σ H s):H s.heap.objs.size=none:=I.hok.fresh (aAj _)
def Inv.af3 (I:Inv X pins σ H s)(d:H l=some (.lst Y)):Y.length<=sizeLine/\∃(a:List ao) (n:Nat),p5 Y a/\Y.length=a.length/\s.heap.get? l=some {cls:=.type "list",data:=.seq a.toArray n}:=by obtain⟨z,a,n,r,e⟩:=I.hok l _ d;exact⟨z,a,n,r,r.length,e⟩
def OM (h:n<=sizeLine):aDa n=false:=by unfold aDa;exact decide_eq_false (by lia)
end
section
variable{X:Cx}
def XN:V->List V->Hp->VK->Prop:=λx L H Q=>∃l Y y,x=.ref l/\L=[y]/\H l=some (.lst Y)/\Y.length<sizeLine/\Q .non (upd H l<|.lst (Y++[y]))
def uJ:MtM X "list.append" XN:=by
 intro b s σ H x L v j Q I f g h;obtain⟨l,Y,y,rfl,rfl,d,k,q⟩:=h;cases f;obtain⟨u,rfl,i⟩:=g.one;obtain⟨z,a,n,r,m,e⟩:=I.af3 d;refine call_meets F.slot_list_append ⟨_,e,rfl⟩ F.entry_list_append (F.args_list_append_2 _ _) (PySem.list_append l a.toArray n u (by rw[aAq];lia)) ⟨e,?_⟩;refine⟨.non,_,I.af0 (its':=a++[u]) d e (by simp) (r.append<|.cons i .nil) ?_,rfl,q⟩;rw[aAB,aFJ]
 lia
def a5i:V->List V->Hp->VK->Prop:=λx L H Q=>∃l Y y,x=.ref l/\L=[]/\H l=some (.lst Y)/\Y[Y.length-1]?=some y/\Q y (upd H l<|.lst Y.dropLast)
def PC:MtM X "list.pop" a5i:=by
 intro f s σ H x L v t Q I i j h;obtain⟨l,Y,y,rfl,rfl,g,k,q⟩:=h;cases i;have b:=j.zero;subst b;obtain⟨z,a,n,r,m,e⟩:=I.af3 g;obtain⟨u,o,p⟩:=r.get k;have d:a.toArray[a.toArray.size-1]?=some u:=by show a.toArray[a.length-1]?=some u;rw[<-aAE,<-m];exact o
 refine call_meets F.slot_list_pop ⟨_,e,rfl⟩ F.entry_list_pop (F.args_list_pop_1 _) (MeetsSeq.list_pop_last l a.toArray n u d (by rw[aAq];lia)) ⟨e,?_⟩;refine⟨y,_,I.af0 (its':=a.dropLast) g e ?_ r.dropLast ?_,p,q⟩
 .show a.toArray.eraseIdxIfInBounds (a.toArray.size-1)=a.dropLast.toArray;rw[aAq,List.eraseIdxIfInBounds_toArray,EH]
 .rw[aFX]
  lia
end
section
variable{prog:bt} {w:cp} {A:cf} {E:G0} {s:a9}
end
section
variable{X:Cx}
end
end L2
namespace Att
open PySem PySem.W PySem.Calls PyProof.Rows
def oA:∀(ns:List Int) (L:List ao),WellAll P h L (ns.map WData.int)->IntsAre L ns:=by
 intro ns;induction ns with
 |nil=>intro L w;rw[aCh]at w;cases w;exact .nil
 |cons n ns d=>
  intro L w;rw[aAi]at w;cases w with
  |cons a b=>cases a;exact .cons _ _ (d _ b)
def script_of {l:OpenLaw}{n:Nat}(m:l.most=some n){P:Params}{h:cq}{args:List WData}{b:List ao}
  (j:l.row.toRowW.claim.pre args=true) (o:WellAll P h b args):
  ∃a L ns,b=[aDJ a]/\args=[WData.list (ns.map WData.int)]/\h.get? a=some {cls:=.type "list",data:=.seq L.toArray}/\IntsAre L ns/\ns.length<=n:=by
 have i:WShape.hasAll [] args [.list .int]=true:=(pre_splitW j).1;have k:l.pre.holds [] {args:=args}=true:=(pre_splitW j).2;obtain⟨d,r,rfl,p,s⟩:=hasAllW_cons i;obtain rfl:=hasAllW_nil s;obtain⟨Y,rfl,t⟩:=hasW_list p;obtain⟨ns,rfl⟩:=items_int t;have e:ns.length<=n:=by
  unfold OpenLaw.pre at k;have f:(WTm.not<|.lt (.lit (.int (n:Int))) (.len (.arg 0))).holds [] {args:=[.list (ns.map .int)]}=true:=by have f:=(holds_andW k).1;rw[m]at f;exact f
  have g:=condW_of f (w_not<|w_lt w_lit<|w_len_list<|w_arg rfl);rw[aAf]at g;refine aEo λq=>?_;have u:(n:Int)<((ns.length:Nat):Int):=by lia
  first
   |(rw[decide_eq_true u]at g;exact absurd g (by decide))
   |(simp at g;lia)
 cases o with
 |cons v w=>
  cases w;cases v with
  |list x y=>exact⟨_,_,ns,rfl,rfl,x,oA ns _ y,e⟩
def post_true (l:OpenLaw)(args:List WData):l.row.toRowW.claim.post args (.bool true) args=true:=
 postW_of (r:=l.row.toRowW) (X:=(true==true))
  (show WShape.has [] (.bool true) .bool=true by first|rfl|decide|simp[WShape.has,WShape.arms,WShape.armsAll])
  (show(WTm.eq .res (.lit (.bool true))).value [] {args:=args,res:=some (.bool true),after:=args}=some (.bool (true==true))from w_eq_bool (w_res rfl) w_lit) rfl
section
variable{prog:bt} {w:cp} {A:cf} {E:G0} {s:a9} {K:Frag}
def a4w (h:cq)(L d:bb):List (bb×Obj):=(aBa h.objs.size).filterMap λa=>if a=L\/a=d then none else(h.get? a).map λo=>(a,o)
end
end Att
namespace L2
open PySem PySem.Spec PyProof.Rows
theorem P7:∀{L:List ao} {ns:List Int},IntsAre L ns->p5 (ns.map V.int) L
 |_,_,.nil=>.nil
 |_,_,.cons n t h=>.cons ⟨t,rfl⟩ (P7 h)
def I9 (s:cv):Arguments:=match s with
 |.FunctionDef _ a _ _ _ _ _ _ _ _=>a
 |_=>{posonlyargs:=[],args:=[],vararg:=none,kwonlyargs:=[],kw_defaults:=[],kwarg:=none,defaults:=[]}
def u7 (s:cv):List cv:=match s with
 |.FunctionDef _ _ b _ _ _ _ _ _ _=>b
 |_=>[]
def c8 (s:cv):gW:=match s with
 |.FunctionDef _ _ _ _ _ _ a _ _ _=>a
 |_=>{kind:=.function,names:=[],isGenerator:=false,isCoroutine:=false}
abbrev vU:US:=λ_ _ _ _ _ _=>False
abbrev E0:XK:=λ_ _ _=>False
def a2l:FS vU X E0:=λ_ _ _ _ _ _ _ h=>h.elim
structure Fun (K:PySem.W.Frag)(x qual:Str)(st:Stmt)(f:Addr)(fd:FuncData):Prop where
 ex:∃(oc:Value) (od:Option Addr) (kV doc pm:Value) (an:Option Addr) (T ct:Value) (osl:Array (Option Value)),
  fd=PySem.W.fnOf x qual (I9 st) (u7 st) (c8 st) .none kV doc pm an T ct/\K.lookup f=some ⟨oc,od,.func fd,osl⟩/\PySem.W.codeIn K T qual=true
 kp:PySem.W.keepIn K (.ref f)=true
section
variable{P:bt} {w:cp} {K:iu} {mg:dS} {base:cq}
def Fun.ok {x qual:Str}{st:cv}{f:bb}{fd:dn}{N ps:List Str}{k:Nat}{b:Sp}(F:Fun K x qual st f fd)(S:FnScope N ps (c8 st))(len:∀L H Q E,b L H Q E->L.length=ps.length)
  (e:∀(T:ao) (A:cf) (a:List Env) (s:a9) (H:Hp) (L:List V) (Q:VK) (E:XK),Room k (A.deeper (envOfC qual (c8 st) s.heap.objs.size f T))->b L H Q E->
   ∃t,xG (FY vU P w K mg base N qual (c8 st) f T A a s H E).nox (u7 st) t/\t {nx:=λ_ H'=>Q .non H',rt:=Q} (start N L) H):FnOk P w K mg base vU (k+1) f fd ps b:=by
 obtain⟨m,n,kV,g,o,p,T,r,i,rfl,lk,j⟩:=F.ex;refine ZM lk j S len λA a s H L Q E l d=>?_;obtain⟨t,h,q⟩:=e T A a s H L Q E l d;exact⟨t,h.nox,q⟩
def Fun.binds {x qual:Str}{st:cv}{f:bb}{fd:dn}{ps:List Str}(F:Fun K x qual st f fd)
  (h:∀(kV a b:ao) (d:Option bb) (T ct:ao) (e:List ao),e.length=ps.length->bindArgs (PySem.W.fnOf x qual (I9 st) (u7 st) (c8 st) .none kV a b d T ct) ⟨e,[]⟩=pure (ps.zip e)):Binds K fd ps []:=by
 obtain⟨i,j,kV,a,b,d,T,ct,g,rfl,lk,k⟩:=F.ex;exact .all (h kV a b d T ct)
def RL {x qual:Str}{st:cv}{f:bb}{g:ao}{h d:Option bb}{b:Array (Option ao)}{kV a e T ct:ao}(l:K.lookup f=some ⟨g,h,.func (PySem.W.fnOf x qual (I9 st) (u7 st) (c8 st) .none kV a e d T ct),b⟩)
 (c:PySem.W.codeIn K T qual=true) (k:PySem.W.keepIn K (.ref f)=true):Fun K x qual st f (PySem.W.fnOf x qual (I9 st) (u7 st) (c8 st) .none kV a e d T ct):=⟨⟨g,h,kV,a,e,d,T,ct,b,rfl,l,c⟩,k⟩
end
section
variable{X:Cx}
end
def Same (H H':Hp):Prop:=∀b o,H b=some o->H' b=some o
def Same.refl (H:Hp):Same H H:=λ_ _ h=>h
def Same.trans (a:Same H d)(b:Same d e):Same H e:=λc o h=>b c o (a c o h)
def Same.seq {K:iu}{H H':Hp}{a:bb}{Y:List V}(e:Same H H')(h:Q8 K H a Y):Q8 K H' a Y:=by
 rcases h with(h|⟨o,h⟩)|h
 .exact .inl (.inl (e _ _ h))
 .exact .inl (.inr ⟨o,e _ _ h⟩)
 .exact .inr h
end L2
namespace DL
open PySem PySem.Spec L2
open PyProof.Rows hiding St
section
inductive D where
 |non|bl (b:Bool)|int (i:Int)|str (x:Str)|tup (Y:List D)|lst (Y:List D)|dct
mutual
def q8:D->Int
 |.int i=>hashInt i
 |.tup Y=>reduceHash (aAT (xB Y))
 |_=>0
def xB:List D->List Int
 |[]=>[]
 |x::Y=>q8 x::xB Y
end
def T0:Nat->D->Bool
 |_,.int _=>true
 |n+1,.tup Y=>Y.all (T0 n)
 |_,_=>false
inductive R (α:Type)where
 |ok (a:α)|ex (e:Str)|bad
def R.bind {α β:Type}:R α->(α->R β)->R β
 |.ok a,f=>f a
 |.ex e,_=>.ex e
 |.bad,_=>.bad
@[simp]def R.aa0 {α β:Type}(a:α)(f:α->R β):(R.ok a).bind f=f a:=rfl
section
variable(K:iu) (H:Hp) (O:bb->Prop)
mutual
inductive Rep:V->D->Prop
 |non:Rep .non .non
 |bl {b:Bool}:Rep (.bl b) (.bl b)
 |int {i:Int}:Rep (.int i) (.int i)
 |str {x:Str}:Rep (.str x) (.str x)
 |tup {a:Addr} {L:List V} {ds:List D} (h:Y8 K H a L) (r:Reps L ds):Rep (.ref a) (.tup ds)
 |lst {a:Addr} {L:List V} {ds:List D} (h:Q8 K H a L) (n:¬O a) (r:Reps L ds):Rep (.ref a) (.lst ds)
 |dct {a:Addr} {o:Obj} (h:H a=some (.ext λh=>h.get? a=some o)) (x:o.ExactDict) (n:¬O a):Rep (.ref a) .dct
inductive Reps:List V->List D->Prop
 |nil:Reps [] []
 |cons {v:V} {d:D} {L:List V} {ds:List D} (h:Rep v d) (t:Reps L ds):Reps (v::L) (d::ds)
end
end
section
variable{K:iu}
def _root_.L2.Same.tup {a:bb}{Y:List V}(e:Same H H')(h:Y8 K H a Y):Y8 K H' a Y:=by
 rcases h with(h|⟨o,h⟩)|h
 .exact .inl (.inl (e _ _ h))
 .exact .inl (.inr ⟨o,e _ _ h⟩)
 .exact .inr h
mutual
theorem Rep.mono (f:∀a Y,Y8 K H a Y->Y8 K H' a Y)(b:∀a Y,¬O a->Q8 K H a Y->¬g a/\Q8 K H' a Y)(e:∀a φ,¬O a->H a=some (.ext φ)->¬g a/\H' a=some (.ext φ)):∀{v:V} {d:D},Rep K H O v d->Rep K H' g v d
 |_,_,.non=>.non
 |_,_,.bl=>.bl
 |_,_,.int=>.int
 |_,_,.str=>.str
 |_,_,.tup h r=>.tup (f _ _ h) (Reps.mono f b e r)
 |_,_,.lst h n r=>.lst (b _ _ n h).2 (b _ _ n h).1 (Reps.mono f b e r)
 |_,_,.dct h x n=>.dct (e _ _ n h).2 x (e _ _ n h).1
theorem Reps.mono (b:∀a Y,Y8 K H a Y->Y8 K H' a Y)(d:∀a Y,¬O a->Q8 K H a Y->¬e a/\Q8 K H' a Y)(f:∀a φ,¬O a->H a=some (.ext φ)->¬e a/\H' a=some (.ext φ)):∀{L:List V} {ds:List D},Reps K H O L ds->Reps K H' e L ds
 |_,_,.nil=>.nil
 |_,_,.cons h t=>.cons (Rep.mono b d f h) (Reps.mono b d f t)
end
def Rep.same (e:Same H H')(r:Rep K H O v d):Rep K H' O v d:=r.mono (λ_ _ h=>e.tup h) (λ_ _ n h=>⟨n,e.seq h⟩) λ_ _ n h=>⟨n,e _ _ h⟩
def Reps.same (e:Same H H')(r:Reps K H O v d):Reps K H' O v d:=r.mono (λ_ _ h=>e.tup h) (λ_ _ n h=>⟨n,e.seq h⟩) λ_ _ n h=>⟨n,e _ _ h⟩
def Rep.sub (e:∀a,b a->O a)(r:Rep K H O v d):Rep K H b v d:=r.mono (λ_ _ h=>h) (λ_ _ n h=>⟨λz=>n (e _ z),h⟩) λ_ _ n h=>⟨λz=>n (e _ z),h⟩
def Reps.sub (e:∀a,b a->O a)(r:Reps K H O v d):Reps K H b v d:=r.mono (λ_ _ h=>h) (λ_ _ n h=>⟨λz=>n (e _ z),h⟩) λ_ _ n h=>⟨λz=>n (e _ z),h⟩
theorem Reps.length:∀{L:List V} {ds:List D},Reps K H O L ds->L.length=ds.length
 |_,_,.nil=>rfl
 |_,_,.cons _ t=>by simp[Reps.length t]
theorem Reps.get:∀{L:List V} {ds:List D} {i:Nat} {d:D},Reps K H O L ds->ds[i]?=some d->∃v,L[i]?=some v/\Rep K H O v d
 |_,_,_,_,.nil,e=>by simp at e
 |_,_,0,_,.cons r _,e=>by simp at e;subst e;exact⟨_,rfl,r⟩
 |_,_,i+1,d,.cons _ t,e=>by obtain⟨u,a,b⟩:=Reps.get (i:=i) (d:=d) t (by simpa using e);exact⟨u,by simpa using a,b⟩
theorem Reps.append:∀{L ws:List V} {ds es:List D},Reps K H O L ds->Reps K H O ws es->Reps K H O (L++ws) (ds++es)
 |_,_,_,_,.nil,s=>s
 |_,_,_,_,.cons r t,s=>.cons r (Reps.append t s)
theorem Reps.take:∀{L:List V} {ds:List D} (n:Nat),Reps K H O L ds->Reps K H O (L.take n) (ds.take n)
 |_,_,0,_=>.nil
 |_,_,_+1,.nil=>.nil
 |_,_,n+1,.cons r t=>.cons r (Reps.take n t)
theorem Reps.drop:∀{L:List V} {ds:List D} (n:Nat),Reps K H O L ds->Reps K H O (L.drop n) (ds.drop n)
 |_,_,0,r=>r
 |_,_,_+1,.nil=>.nil
 |_,_,n+1,.cons _ t=>Reps.drop n t
def Reps.dropLast (r:Reps K H O L ds):Reps K H O L.dropLast ds.dropLast:=by rw[aEk,aEk,r.length];exact r.take _
def Reps.snoc (r:Reps K H O L ds)(h:Rep K H O v d):Reps K H O (L++[v]) (ds++[d]):=r.append (.cons h .nil)
theorem Reps.ints:∀(ns:List Int),Reps K H O (ns.map V.int) (ns.map D.int)
 |[]=>.nil
 |_::ns=>.cons .int (Reps.ints ns)
theorem Reps.reverse:∀{L:List V} {ds:List D},Reps K H O L ds->Reps K H O L.reverse ds.reverse
 |_,_,.nil=>.nil
 |_,_,.cons r t=>by rw[aAO,aAO];exact(Reps.reverse t).snoc r
end
def Kp (H:Hp)(O:bb->Prop)(H':Hp)(a:bb->Prop):Prop:=∀b o,H b=some o->¬O b->H' b=some o/\¬a b
section
def Kp.refl (H:Hp)(O:bb->Prop):Kp H O H O:=λ_ _ h n=>⟨h,n⟩
def Kp.of (s:Same H H'):Kp H O H' O:=λb o h n=>⟨s b o h,n⟩
def Kp.trans (a:Kp H O H' f)(b:Kp H' f d e):Kp H O d e:=λc o h n=>let⟨g,i⟩:=a c o h n;b c o g i
end
class Tabs where
 tbs:List (Addr×List (Pos×Str))
inductive Sl where
 |no|v (d:D)|o (Y:List D)|x (C:Value)|c (m:List D->R D) (φ:Hp->(Addr->Prop)->Addr->Prop)|d (J:List (D×D))
abbrev Ev:=List Sl
def Mt:HO->Prop
 |.lst _=>True
 |.dK _=>True
 |.dT _=>True
 |.ext _=>True
 |_=>False
def qU (K:iu)(H:Hp)(O:bb->Prop)(es:List DictEntry)(J:List (D×D)):Prop:=
 Paired (λ(e:DictEntry) (p:D×D)=>(∃a,e.key=.ref a/\Rep K H O (.ref a) p.1)/\(∃v,RelV v e.val/\Rep K H O v p.2)/\e.hash=q8 p.1/\T0 7 p.1=true) es J
def SS (a:bb)(o:Obj)(es:List DictEntry):Prop:=(a==sysModules)=false/\o.ExactDict/\∃b d,o.data=.dict b d/\b.toList=es
def JQ:Sl->Prop
 |.o _=>True
 |.d _=>True
 |_=>False
section
variable(K:iu) (H9 H:Hp) (O:bb->Prop)
def iM (x:Option (Option V)):Sl->Prop
 |.no=>True
 |.v d=>∃v,x=some (some v)/\Rep K H O v d
 |.o Y=>∃a L,x=some (some (V.ref a))/\O a/\H9 a=none/\H a=some (.lst L)/\Reps K H O L Y
 |.x C=>∃a o,x=some (some (V.ref a))/\H a=some (.frz o (.own a))/\o.cls=C
 |.c m φ=>∃a,x=some (some (V.ref a))/\∀b e,Kp H O b e->φ b e a
 |.d J=>∃a o f,x=some (some (V.ref a))/\O a/\H9 a=none/\H a=some (.ext λh=>h.get? a=some o)/\SS a o f/\qU K H O f J/\(J.map (·.1)).Nodup
end
variable [Tabs]
def Tb (H:Hp):Prop:=∀p∈Tabs.tbs,H p.1=some (.tbl p.2)
structure EnvOk (K:PySem.W.Frag)(H9:Hp)(O0:Addr->Prop)(H:Hp)(O:Addr->Prop)(σ:St)(ρ:Ev):Prop where
 len:σ.length=ρ.length
 same:Same H9 H
 sub:∀a,O0 a->O a
 trk:∀a,O a->∃o,H a=some o/\Mt o
 trk0:∀a,O0 a->∃o,H9 a=some o
 tab:Tb H
 slot:∀(i:Nat) (sl:Sl),ρ[i]?=some sl->iM K H9 H O σ[i]? sl
 inj:∀(i j:Nat) (x y:Sl) (a:Addr),ρ[i]?=some x->ρ[j]?=some y->JQ x->JQ y->σ[i]?=some (some (V.ref a))->σ[j]?=some (some (V.ref a))->i=j
section
variable{K:iu} {O0 O O':bb->Prop}
def Tb.same (h:Tb H)(s:Same H H'):Tb H':=λp a=>s _ _ (h p a)
def EnvOk.val (E:EnvOk K a O0 H O σ ρ)(i:Nat)(d:D)(h:ρ[i]?=some (Sl.v d)):∃v,σ[i]?=some (some v)/\Rep K H O v d:=E.slot i _ h
def EnvOk.own (E:EnvOk K b O0 H O σ ρ)(i:Nat)(Y:List D)(h:ρ[i]?=some (Sl.o Y)):∃a L,σ[i]?=some (some (V.ref a))/\O a/\b a=none/\H a=some (.lst L)/\Reps K H O L Y:=E.slot i _ h
def qU.mono (f:∀{v:V} {d:D},Rep K H O v d->Rep K H' O' v d):∀{J:List (D×D)},qU K H O es J->qU K H' O' es J:=λ{_} r=>Paired.af5 r λ_ _ ⟨⟨v,a,b⟩,⟨w,e,g⟩,h⟩=>⟨⟨v,a,f b⟩,⟨w,e,f g⟩,h⟩
def iM.move (h:iM K y H O x sl)(i:∀a Y,Y8 K H a Y->Y8 K H' a Y)(j:∀a Y,¬O a->Q8 K H a Y->¬O' a/\Q8 K H' a Y)(z:∀a o u,H a=some (.frz o u)->H' a=some (.frz o u))(l:Kp H O H' O')(w:JQ sl->∀a o,x=some (some (V.ref a))->O a->H a=some o->O' a/\H' a=some o):iM K y H' O' x sl:=by
 have p:∀a φ,¬O a->H a=some (.ext φ)->¬O' a/\H' a=some (.ext φ):=λa φ n h=>⟨(l a _ h n).2,(l a _ h n).1⟩;cases sl with
 |no=>trivial
 |v d=>obtain⟨v,b,e⟩:=h;exact⟨v,b,e.mono i j p⟩
 |o Y=>obtain⟨a,L,b,e,f,q,s⟩:=h;obtain⟨g,t⟩:=w trivial a _ b e q;exact⟨a,L,b,g,f,t,s.mono i j p⟩
 |x C=>obtain⟨a,o,b,e,f⟩:=h;exact⟨a,o,b,z _ _ _ e,f⟩
 |c m φ=>obtain⟨a,b,e⟩:=h;exact⟨a,b,λA B k=>e A B (l.trans k)⟩
 |d J=>obtain⟨a,o,E,b,e,f,q,s,g⟩:=h;obtain⟨t,I⟩:=w trivial a _ b e q;exact⟨a,o,E,b,t,f,I,s,g.1.mono λr=>r.mono i j p,g.2⟩
def iM.grow (h:iM K a H O x sl)(e:Same H H'):iM K a H' O x sl:=
 h.move (λ_ _ q=>e.tup q) (λ_ _ n q=>⟨n,e.seq q⟩) (λ_ _ _ q=>e _ _ q) (Kp.of e) λ_ _ _ _ b d=>⟨b,e _ _ d⟩
def EnvOk.grow (E:EnvOk K b O0 H O σ ρ)(e:Same H H'):EnvOk K b O0 H' O σ ρ where
 len:=E.len
 same:=E.same.trans e
 sub:=E.sub
 trk:=λa h=>let⟨o,q,m⟩:=E.trk a h;⟨o,e a o q,m⟩
 trk0:=E.trk0
 tab:=E.tab.same e
 slot:=λi d h=>(E.slot i d h).grow e
 inj:=E.inj
def EnvOk.fresh (E:EnvOk K a O0 H O σ ρ)(h:H p=none):¬O p:=λz=>by obtain⟨o,q,_⟩:=E.trk p z;rw[h]at q;cases q
def w8 {α:Type}{l:List α}{i j:Nat}{x:α}(h:i≠j):(l.set i x)[j]?=l[j]?:=aCB h
def C4 {α:Type}{l:List α}{i:Nat}{x y:α}(h:(l.set i x)[i]?=some y):y=x/\i<l.length:=by
 have a:i<l.length:=by have:=(aAC.mp h).1;simpa using this
 rw[aBK a]at h;exact⟨(Option.some.inj h).symm,a⟩
def EnvOk.put (E:EnvOk K f O0 H O σ ρ){v:Option V}{sl:Sl}(i:Nat)(no:¬JQ sl)(r:iM K f H O (some v) sl):EnvOk K f O0 H O (σ.set i v) (ρ.set i sl)where
 len:=by simpa using E.len
 same:=E.same
 sub:=E.sub
 trk:=E.trk
 trk0:=E.trk0
 tab:=E.tab
 slot:=λj s h=>by
  by_cases g:i=j
  .subst g;obtain⟨e,u⟩:=C4 h;subst e;rw[aBK (by rw[E.len];exact u)];exact r
  .rw[w8 g]at h⊢;exact E.slot j s h
 inj:=λj k x y a b d m n p t=>by
  have ne:∀(l:Nat) (z:Sl),(ρ.set i sl)[l]?=some z->JQ z->i≠l:=λl z q o e=>by subst e;obtain⟨e,_⟩:=C4 q;subst e;exact no o
  have w:=ne j x b m;have A:=ne k y d n;rw[w8 w]at b p;rw[w8 A]at d t;exact E.inj j k x y a b d m n p t
def EnvOk.set (E:EnvOk K a O0 H O σ ρ)(i:Nat)(r:Rep K H O v d):EnvOk K a O0 H O (σ.set i (some v)) (ρ.set i (.v d)):=E.put i (λz=>z) ⟨v,rfl,r⟩
def iM.at_ (h:iM K i H O x sl)(o:JQ sl):∃a u,x=some (some (V.ref a))/\O a/\i a=none/\H a=some u/\Mt u:=by
 cases sl with
 |o Y=>obtain⟨a,L,b,e,f,g,_⟩:=h;exact⟨a,_,b,e,f,g,trivial⟩
 |d J=>obtain⟨a,u,j,b,e,f,g,_⟩:=h;exact⟨a,_,b,e,f,g,trivial⟩
 |_=>exact o.elim
def EnvOk.af2 (E:EnvOk K t O0 H O σ ρ){a:bb}{sl:Sl}(i:Nat)(u:∀(j:Nat) (y:Sl),i≠j->ρ[j]?=some y->JQ y->σ[j]?≠some (some (V.ref a)))(r:iM K t H O (some (some (V.ref a))) sl):
  EnvOk K t O0 H O (σ.set i (some (V.ref a))) (ρ.set i sl)where
 len:=by simpa using E.len
 same:=E.same
 sub:=E.sub
 trk:=E.trk
 trk0:=E.trk0
 tab:=E.tab
 slot:=λj s h=>by
  by_cases d:i=j
  .subst d;obtain⟨e,z⟩:=C4 h;subst e;rw[aBK (by rw[E.len];exact z)];exact r
  .rw[w8 d]at h⊢;exact E.slot j s h
 inj:=λj k x y b n o v w g m=>by
  have at_:∀(l:Nat),i=l->(σ.set i<|some<|V.ref a)[l]?=some (some<|V.ref b)->b=a:=λl e q=>by subst e;obtain⟨e,_⟩:=C4 q;injection e with e;injection e
  by_cases d:i=j
  .by_cases f:i=k
   .exact d.symm.trans f
   .exfalso;have p:=at_ j d g;subst p;rw[w8 f]at o m;exact u k y f o w m
  .by_cases f:i=k
   .exfalso;have p:=at_ k f m;subst p;rw[w8 d]at n g;exact u j x d n v g
   .rw[w8 d]at n g;rw[w8 f]at o m;exact E.inj j k x y b n o v w g m
def m8 (h:H p=none)(o:HO):Same H (upd H p o):=λb u q=>by rw[m9 (u4 q h)];exact q
def EnvOk.ab8 (E:EnvOk K f O0 H O σ ρ)(h:H a=none)(g:K.lookup a=none)(m:Mt u):EnvOk K f O0 (upd H a u) (λb=>O b\/b=a) σ ρ:=by
 have s:=m8 h u;have ne:∀b Y,Q8 K H b Y->b≠a:=λb Y q z=>by
  subst z;rcases q with(q|⟨o,q⟩)|⟨o,_,_,q,_⟩
  .rw[h]at q;cases q
  .rw[h]at q;cases q
  .rw[g]at q;cases q
 refine⟨E.len,E.same.trans s,λb z=>.inl (E.sub b z),λb z=>?_,E.trk0,E.tab.same s,λi j e=>?_,E.inj⟩
 .rcases z with z|z
  .obtain⟨o,q,m⟩:=E.trk b z;exact⟨o,s b o q,m⟩
  .subst z;exact⟨_,l4,m⟩
 .exact(E.slot i j e).move (λ_ _ q=>s.tup q) (λb Y n q=>⟨λz=>z.elim n (ne b Y q),s.seq q⟩) (λ_ _ _ q=>s _ _ q) (λb o d n=>⟨s b o d,λz=>z.elim n λe=>by subst e;rw[h]at d;cases d⟩) λ_ b o _ k l=>⟨.inl k,s _ _ l⟩
def uj (h:H a=none)(d:K.lookup a=none)(q:Q8 K H b Y):b≠a:=λz=>by
 subst z;rcases q with(q|⟨o,q⟩)|⟨o,_,_,q,_⟩
 .rw[h]at q;cases q
 .rw[h]at q;cases q
 .rw[d]at q;cases q
def Reps.ab8 (h:H a=none)(e:K.lookup a=none)(r:Reps K H O v d):Reps K (upd H a u) (λb=>O b\/b=a) v d:=
 r.mono (λ_ _ q=>(m8 h u).tup q) (λb Y n q=>⟨λz=>z.elim n (uj h e q),(m8 h u).seq q⟩) λb φ n q=>⟨λz=>z.elim n (u4 q h),m8 h u _ _ q⟩
def EnvOk.ae3 (E:EnvOk K f O0 H O σ ρ)(i:Nat)(h:H a=none)(k:K.lookup a=none)(m:Mt u)(r:f a=none->iM K f (upd H a u) (λb=>O b\/b=a) (some (some (V.ref a))) sl):
  EnvOk K f O0 (upd H a u) (λb=>O b\/b=a) (σ.set i (some (.ref a))) (ρ.set i sl):=by
 have l:f a=none:=by
  cases e:f a with
  |none=>rfl
  |some o=>have:=E.same a o e;rw[h]at this;cases this
 refine(E.ab8 h k m).af2 i (λj y _ e o q=>?_) (r l);obtain⟨b,w,d,_,_,g,_⟩:=(E.slot j y e).at_ o;rw[q]at d;injection d with d;injection d with d;injection d with d;subst d;rw[h]at g;cases g
def xA (h:H a=some u)(m:Mt u)(q:Y8 K H b Y):Y8 K (upd H a u') b Y:=by
 have ne:∀w,H b=some w->¬Mt w->b≠a:=λw e n z=>by subst z;rw[h]at e;cases e;exact n m
 rcases q with(q|⟨o,q⟩)|q
 .exact .inl (.inl (by rw[m9 (ne _ q λz=>z)];exact q))
 .exact .inl (.inr ⟨o,by rw[m9 (ne _ q λz=>z)];exact q⟩)
 .exact .inr q
def yG (d:O a)(n:¬O b)(q:Q8 K H b Y):Q8 K (upd H a u') b Y:=by
 have ne:b≠a:=λz=>by subst z;exact n d
 rcases q with(q|⟨o,q⟩)|q
 .exact .inl (.inl (by rw[m9 ne];exact q))
 .exact .inl (.inr ⟨o,by rw[m9 ne];exact q⟩)
 .exact .inr q
def Rep.upd (h:H a=some u)(m:Mt u)(e:O a)(r:Rep K H O v d):Rep K (upd H a u') O v d:=r.mono (λ_ _ q=>xA h m q) (λ_ _ n q=>⟨n,yG e n q⟩) λb _ n q=>⟨n,by rw[m9 (λz=>n (by rw[z];exact e))];exact q⟩
def Reps.upd (h:H a=some u)(m:Mt u)(e:O a)(r:Reps K H O v d):Reps K (upd H a u') O v d:=r.mono (λ_ _ q=>xA h m q) (λ_ _ n q=>⟨n,yG e n q⟩) λb _ n q=>⟨n,by rw[m9 (λz=>n (by rw[z];exact e))];exact q⟩
def EnvOk.ad7 {i:Nat}{sl sl':Sl}{a:bb}{u u':HO}(E:EnvOk K t O0 H O σ ρ)(e:ρ[i]?=some sl)(v:JQ sl)(A:σ[i]?=some (some (V.ref a)))(B:H a=some u)(m':Mt u')(ow':JQ sl')
  (r:O a->t a=none->Mt u->iM K t (upd H a u') O (some (some (V.ref a))) sl'):EnvOk K t O0 (upd H a u') O σ (ρ.set i sl')/\Kp H O (upd H a u') O:=by
 obtain⟨b,w,d,C,U,Y,m⟩:=(E.slot i sl e).at_ v;rw[A]at d;injection d with d;injection d with d;injection d with d;subst d;rw[B]at Y;cases Y;have kp:Kp H O (upd H a u') O:=λb o g n=>⟨by rw[m9 (λz=>by subst z;exact n C)];exact g,n⟩;have nf:∀b w,H b=some w->¬Mt w->upd H a u' b=some w:=λb w q n=>by rw[m9 (λz=>by subst z;rw[B]at q;cases q;exact n m)];exact q
 refine⟨⟨by simpa using E.len,λb o q=>?_,E.sub,λb z=>?_,E.trk0,λp hp=>nf _ _ (E.tab p hp) λz=>z,λj s h=>?_,λj k x y b I J o1 o2 L q4=>?_⟩,kp⟩
 .rw[m9 (λz=>by subst z;rw[U]at q;cases q)];exact E.same b o q
 .by_cases g:b=a
  .subst g;exact⟨_,l4,m'⟩
  .obtain⟨o,q,m⟩:=E.trk b z;exact⟨o,by rw[m9 g];exact q,m⟩
 .by_cases N:i=j
  .subst N;obtain⟨e',_⟩:=C4 h;subst e';rw[A];exact r C U m
  .rw[w8 N]at h;refine(E.slot j s h).move (λ_ _ q=>xA B m q) (λ_ _ n q=>⟨n,yG C n q⟩) (λb o w q=>nf _ _ q λz=>z) kp λo b w I J L=>⟨J,?_⟩;rw[m9 (λz=>by subst z;exact N (E.inj i j sl s b e h v o A I))];exact L
 .have f:∀l z,(ρ.set i sl')[l]?=some z->JQ z->∃z',ρ[l]?=some z'/\JQ z':=λl z q o=>by
   by_cases hl:i=l
   .subst hl;exact⟨sl,e,v⟩
   .rw[w8 hl]at q;exact⟨z,q,o⟩
  obtain⟨x',u1,Q⟩:=f j x I o1;obtain⟨y',u2,T⟩:=f k y J o2;exact E.inj j k x' y' b u1 u2 Q T L q4
def EnvOk.ae8 {i:Nat}{sl sl':Sl}{a:bb}(E:EnvOk K v O0 H O σ ρ)(e:ρ[i]?=some sl)(A:JQ sl)(p:σ[i]?=some (some (V.ref a)))(no:¬JQ sl')(r:iM K v H (λb=>O b/\b≠a) (some (some (V.ref a))) sl'):
  EnvOk K v O0 H (λb=>O b/\b≠a) σ (ρ.set i sl'):=by
 obtain⟨b,w,d,T,I,U,m⟩:=(E.slot i sl e).at_ A;rw[p]at d;injection d with d;injection d with d;injection d with d;subst d;have sub:∀b,(O b/\b≠a)->O b:=λb z=>z.1;refine⟨by simpa using E.len,E.same,λb z=>⟨E.sub b z,λq=>?_⟩,λb z=>E.trk b z.1,E.trk0,E.tab,λj s h=>?_,λj k x y b f g B C t J=>?_⟩
 .subst q;obtain⟨o,q⟩:=E.trk0 b z;rw[I]at q;cases q
 .by_cases u:i=j
  .subst u;obtain⟨l,_⟩:=C4 h;subst l;rw[p];exact r
  .rw[w8 u]at h;refine(E.slot j s h).move (λ_ _ q=>q) (λ_ _ n q=>⟨λz=>n z.1,q⟩) (λ_ _ _ q=>q) (λb o L n=>⟨L,λz=>n z.1⟩) λo b w f g t=>⟨⟨g,λz=>?_⟩,t⟩;subst z;exact u (E.inj i j sl s b e h A o p f)
 .have N:i≠j:=λz=>by subst z;obtain⟨l,_⟩:=C4 f;subst l;exact no B
  have Q:i≠k:=λz=>by subst z;obtain⟨l,_⟩:=C4 g;subst l;exact no C
  rw[w8 N]at f;rw[w8 Q]at g;exact E.inj j k x y b f g B C t J
end
def XW (X:Cx)(e:Str)(H:Hp):Prop:=False
def RC (X:Cx)(H:Hp)(O:bb->Prop)(r:R D)(Q:VK):Prop:=match r with
 |.ok d=>∀v a,Same H a->Rep X.K a O v d->Q v a
 |.ex e=>∀a,Same H a->XW X e a
 |.bad=>False
def D2 (K:iu)(H:Hp)(O:bb->Prop)(v:V)(d:D):Prop:=Rep K H O v d\/∃a L b,v=.ref a/\d=.lst b/\Q8 K H a L/\Reps K H O L b
def RCB (X:Cx)(H:Hp)(O:bb->Prop)(r:R D)(Q:VK):Prop:=match r with
 |.ok d=>∀v a,Same H a->D2 X.K a O v d->Q v a
 |.ex e=>∀a,Same H a->XW X e a
 |.bad=>False
def AC (X:Cx)(H:Hp)(r:R Bool)(Q:Bool->Hp->Prop):Prop:=match r with
 |.ok b=>∀a,Same H a->Q b a
 |.ex e=>∀a,Same H a->XW X e a
 |.bad=>False
def JP (X:Cx)(H:Hp)(O:bb->Prop)(r:R (List D))(Q:List V->Hp->Prop):Prop:=match r with
 |.ok b=>∀L a,Same H a->Reps X.K a O L b->Q L a
 |.ex e=>∀a,Same H a->XW X e a
 |.bad=>False
def TQ (X:Cx)(H:Hp)(O:bb->Prop)(r:R (List D))(Q:List V->Hp->Prop):Prop:=match r with
 |.ok b=>∀L a,Same H a->Paired (D2 X.K a O) L b->Q L a
 |.ex e=>∀a,Same H a->XW X e a
 |.bad=>False
def tD (X:Cx)(f:Ev->R D):TE:=λσ H Q=>∃a b O ρ,EnvOk X.K a b H O σ ρ/\RC X H O (f ρ) Q
def tDB (X:Cx)(f:Ev->R D):TE:=λσ H Q=>∃a b O ρ,EnvOk X.K a b H O σ ρ/\RCB X H O (f ρ) Q
def tDT (X:Cx)(f:Ev->R Bool):TT:=λσ H Q=>∃a b O ρ,EnvOk X.K a b H O σ ρ/\AC X H (f ρ) Q
def tDs (X:Cx)(f:Ev->R (List D)):TA:=λσ H Q=>∃a b O ρ,EnvOk X.K a b H O σ ρ/\JP X H O (f ρ) Q
def a4k (X:Cx)(f:Ev->R (List D)):TA:=λσ H Q=>∃a b O ρ,EnvOk X.K a b H O σ ρ/\TQ X H O (f ρ) Q
def PD (X:Cx)(e:cu)(f:Ev->R D):Prop:=PE X e (tD X f)
def PB (X:Cx)(e:cu)(f:Ev->R D):Prop:=PE X e (tDB X f)
def MN (X:Cx)(e:cu)(f:Ev->R Bool):Prop:=PT X e (tDT X f)
def NP (X:Cx)(es:List cu)(f:Ev->R (List D)):Prop:=PA X es (tDs X f)
def tw (X:Cx)(es:List cu)(f:Ev->R (List D)):Prop:=PA X es (a4k X f)
def UM {r:Hp->(bb->Prop)->Ev->VK->Prop}(h:PE X e t)(i:∀σ H Q a b O ρ,EnvOk X.K a b H O σ ρ->r H O ρ Q->t σ H Q):PE X e λσ H Q=>∃a b O ρ,EnvOk X.K a b H O σ ρ/\r H O ρ Q:=λd s σ H Q I q=>h d s σ H Q I (let⟨a,b,O,ρ,E,q⟩:=q;i σ H Q a b O ρ E q)
def ptI {r:Hp->(bb->Prop)->Ev->(Bool->Hp->Prop)->Prop}(h:PT X e t)(i:∀σ H Q a b O ρ,EnvOk X.K a b H O σ ρ->r H O ρ Q->t σ H Q):PT X e λσ H Q=>∃a b O ρ,EnvOk X.K a b H O σ ρ/\r H O ρ Q:=λd s σ H Q I q=>h d s σ H Q I (let⟨a,b,O,ρ,E,q⟩:=q;i σ H Q a b O ρ E q)
def paI {r:Hp->(bb->Prop)->Ev->(List V->Hp->Prop)->Prop}(h:PA X es t)(i:∀σ H Q a b O ρ,EnvOk X.K a b H O σ ρ->r H O ρ Q->t σ H Q):PA X es λσ H Q=>∃a b O ρ,EnvOk X.K a b H O σ ρ/\r H O ρ Q:=λe d s σ H Q I q=>h e d s σ H Q I (let⟨a,b,O,ρ,E,q⟩:=q;i σ H Q a b O ρ E q)
def zR {β:Type}{r:Hp->(bb->Prop)->Ev->β->Prop}{G:List (bb×Obj)->a9->St->Hp->β->Prop}(h:∀a s σ H Q,Inv X a σ H s->∀b d O ρ,EnvOk X.K b d H O σ ρ->r H O ρ Q->G a s σ H Q)(a s σ H Q)(I:Inv X a σ H s)(q:∃b d O ρ,EnvOk X.K b d H O σ ρ/\r H O ρ Q):G a s σ H Q:=let⟨b,d,O,ρ,E,q⟩:=q;h a s σ H Q I b d O ρ E q
def PD.pb (h:PD X e f):PB X e f:=UM h λσ H Q a b O ρ E q=>⟨a,b,O,ρ,E,by
 unfold RC RCB at*
 cases e:f ρ with
 |ok d=>rw[e]at q;exactλv g s r=>q v g s (.inl r)
 |ex x=>rw[e]at q;exact q
 |bad=>rw[e]at q;exact q⟩
def RC.seq {O:bb->Prop}(h:RC X H O (r.bind g) Q):
  RC X H O r λv b=>∃d,r=.ok d/\Same H b/\Rep X.K b O v d/\RC X b O (g d) Q:=by
 cases r with
 |ok d=>
  intro v b f k;refine⟨d,rfl,f,k,?_⟩;have a:RC X H O (g d) Q:=h;cases e:g d with
  |ok m=>rw[e]at a;exactλw i j l=>a w i (f.trans j) l
  |ex x=>rw[e]at a;exactλi j=>a i (f.trans j)
  |bad=>rw[e]at a;exact a
 |ex x=>exact h
 |bad=>exact h
def RCB.seq {O:bb->Prop}(h:RC X H O (r.bind g) Q):
  RCB X H O r λv b=>∃d,r=.ok d/\Same H b/\D2 X.K b O v d/\RC X b O (g d) Q:=by
 cases r with
 |ok d=>
  intro v b f k;refine⟨d,rfl,f,k,?_⟩;have a:RC X H O (g d) Q:=h;cases e:g d with
  |ok m=>rw[e]at a;exactλw i j l=>a w i (f.trans j) l
  |ex x=>rw[e]at a;exactλi j=>a i (f.trans j)
  |bad=>rw[e]at a;exact a
 |ex x=>exact h
 |bad=>exact h
def RC.grow {O:bb->Prop}(h:RC X H O r Q)(e:Same H f):RC X f O r Q:=by
 cases r with
 |ok d=>exactλw a b g=>h w a (e.trans b) g
 |ex x=>exactλa b=>h a (e.trans b)
 |bad=>exact h
end
section
variable [Tabs]
section
variable{X:Cx}
def D2.same (e:Same H H')(r:D2 X.K H O v d):D2 X.K H' O v d:=by
 rcases r with r|⟨a,L,b,f,g,h,i⟩
 .exact .inl (r.same e)
 .exact .inr ⟨a,L,b,f,g,e.seq h,i.same e⟩
def D2.aa6 {K:iu}{ds:List D}(r:D2 K H O v (.lst ds)):∃a L,v=.ref a/\Q8 K H a L/\Reps K H O L ds:=by
 rcases r with r|⟨a,L,g,d,b,e,f⟩
 .cases r with|lst h n r=>exact⟨_,_,rfl,h,r⟩
 .injection b with b;subst b;exact⟨a,L,d,e,f⟩
def D2.ag1 {K:iu}(r:D2 K H O v .dct):∃a o,v=.ref a/\H a=some (.ext λh=>h.get? a=some o)/\o.ExactDict:=by
 rcases r with r|⟨a,L,d,e,b,f,g⟩
 .cases r with|dct h x n=>exact⟨_,_,rfl,h,x⟩
 .cases b
def D2.tupI {K:iu}{ds:List D}(r:D2 K H O v (.tup ds)):∃a L,v=.ref a/\Y8 K H a L/\Reps K H O L ds:=by
 rcases r with r|⟨a,L,d,e,b,f,g⟩
 .cases r with|tup h r=>exact⟨_,_,rfl,h,r⟩
 .cases b
def D2.aa8 {K:iu}{i:Int}(r:D2 K H O v (.int i)):v=.int i:=by
 rcases r with r|⟨a,L,d,e,b,f,g⟩
 .cases r;rfl
 .cases b
def D2.blI {K:iu}{i:Bool}(r:D2 K H O v (.bl i)):v=.bl i:=by
 rcases r with r|⟨a,L,d,e,b,f,g⟩
 .cases r;rfl
 .cases b
def D2.ac3 {K:iu}(r:D2 K H O v .non):v=.non:=by
 rcases r with r|⟨a,L,d,e,b,f,g⟩
 .cases r;rfl
 .cases b
def D2.ac5 {K:iu}{i:Str}(r:D2 K H O v (.str i)):v=.str i:=by
 rcases r with r|⟨a,L,d,e,b,f,g⟩
 .cases r;rfl
 .cases b
end
def dZ (i:Nat)(ρ:Ev):R D:=match ρ[i]? with
 |some (.v d)=>.ok d
 |_=>.bad
def zN (i:Nat)(ρ:Ev):R D:=match ρ[i]? with
 |some (.v d)=>.ok d
 |some (.o Y)=>.ok (.lst Y)
 |_=>.bad
section
def c9 (i:Nat)(a:X.N[i]?=some x:=by rfl)(b:HD X.env.scope x:=by first|exact aDd rfl|exact aCn (aDd rfl)|exact aCn (aCn rfl))(f:(x==ix)=false:=by decide)(g:(x==i3)=false:=by decide):PD X (.Name x h) (dZ i):=UM (W2 a b f g) λσ H Q n p O ρ E q=>by
 unfold dZ at q;cases e:ρ[i]? with
 |none=>rw[e]at q;exact q.elim
 |some j=>
  rw[e]at q;cases j with
  |no=>exact q.elim
  |x C=>exact q.elim
  |c m φ=>exact q.elim
  |d J=>exact q.elim
  |o Y=>exact q.elim
  |v d=>obtain⟨v,k,l⟩:=E.val i d e;exact⟨v,k,q v H (Same.refl H) l⟩
def b8 (i:Nat)(g:X.N[i]?=some x:=by rfl)(h:HD X.env.scope x:=by first|exact aDd rfl|exact aCn (aDd rfl)|exact aCn (aCn rfl))(j:(x==ix)=false:=by decide)(k:(x==i3)=false:=by decide):PB X (.Name x l) (zN i):=UM (W2 g h j k) λσ H Q s t O ρ E q=>by
 unfold zN at q;cases e:ρ[i]? with
 |none=>rw[e]at q;exact q.elim
 |some n=>
  rw[e]at q;cases n with
  |no=>exact q.elim
  |x C=>exact q.elim
  |c m φ=>exact q.elim
  |d J=>exact q.elim
  |o Y=>obtain⟨a,L,b,f,u,p,r⟩:=E.own i Y e;exact⟨_,b,q _ H (Same.refl H) (.inr ⟨a,L,Y,rfl,rfl,Q8.of p,r⟩)⟩
  |v d=>obtain⟨v,b,f⟩:=E.val i d e;exact⟨v,b,q v H (Same.refl H) (.inl f)⟩
def ZY (d:D)(_:Ev):R D:=.ok d
def wW (h:PE X e (tC v))(r:∀H O,Rep X.K H O v d):PD X e (ZY d):=UM h λσ H Q a b O ρ E q=>q v H (Same.refl H) (r H O)
def d5 {j a}:PD X (.Constant (.int i) j a) (ZY (.int i)):=wW oj λ_ _=>.int
def HY {j a}:PD X (.Constant (.bool i) j a) (ZY (.bl i)):=wW a1g λ_ _=>.bl
def iN {j a}:PD X (.Constant .none j a) (ZY .non):=wW tq λ_ _=>.non
def mI (X:Cx)(f:ao->ao->Sem ao)(g:D->D->R D):Prop:=
 ∀(H:Hp) (O:bb->Prop) (x y:V) (a b:D) (Q:VK),(∀p,H p=none->¬O p)->D2 X.K H O x a->D2 X.K H O y b->RC X H O (g a b) Q->∃r,lY X f r/\r x y H Q
def a5g (X:Cx)(O:bb->Prop)(g:D->D->R D)(Q:VK):V->V->Hp->Prop:=λx y H=>∃a b,(∀p,H p=none->¬O p)/\D2 X.K H O x a/\D2 X.K H O y b/\RC X H O (g a b) Q
def oH {f O:bb->Prop}(E:EnvOk X.K k f H O σ ρ)(q:RC X H O ((l ρ).bind λx=>(m ρ).bind λy=>g x y) Q):
  tDB X l σ H λx h=>tDB X m σ h λy i=>a5g X O g Q x y i:=by
 refine⟨k,f,O,ρ,E,?_⟩;have a:=RCB.seq q;revert a;cases C:l ρ with
 |ok s=>
  intro a x h n t;obtain⟨d,e,_,r,u⟩:=a x h n t;cases e;have o:=E.grow n;refine⟨k,f,O,ρ,o,?_⟩;have b:=RCB.seq u;revert b;cases I:m ρ with
  |ok v=>intro b y i j w;obtain⟨J,e,_,z,A⟩:=b y i j w;cases e;exact⟨s,v,λp B=>(o.grow j).fresh B,r.same j,z,A⟩
  |ex x=>intro b;exact b
  |bad=>intro b;exact b
 |ex x=>intro a;exact a
 |bad=>intro a;exact a
def b9 (f:mI X (dF op) g)(i:PB X a j)(k:PB X b l):PD X (.BinOp a op b m) (λρ=>(j ρ).bind λx=>(l ρ).bind λy=>g x y):=by refine zR λd s σ H Q I N T O ρ E q=>?_;refine wpAny_BinOp (RT i k I (oH E q) λv u n x y e o p t h=>?_);obtain⟨w,z,A,B,C,q⟩:=h;obtain⟨r,J,L⟩:=f e O x y w z Q A B C q;exact J d n σ e x y v u Q o p t L
def rJ (f:mI X (dq op) g)(i:PB X a j)(k:PB X b l)(m:gy op b=false:=by first|exact RD _|with_unfolding_all rfl):
  PD X (.Compare a [op] [b] n) (λρ=>(j ρ).bind λx=>(l ρ).bind λy=>g x y):=by
 refine zR λd s σ H Q I T U O ρ E q=>?_;refine wpAny_Compare1 (RT i k I (oH E q) λv u o x y e p t w h=>?_) m;obtain⟨z,A,B,C,J,q⟩:=h;obtain⟨r,L,N⟩:=f e O x y z A Q B C J q;exact L d o σ e x y v u Q p t w N
def CT:D->R Bool
 |.bl b=>.ok b
 |_=>.bad
def wH {O:bb->Prop}{Q:Bool->Hp->Prop}(h:AC X H (r.bind CT) Q):RC X H O r λv a=>∃c,v=.bl c/\Q c a:=by
 cases r with
 |ok d=>
  cases d with
  |bl b=>intro v a e f;cases f;exact⟨b,rfl,h a e⟩
  |_=>exact(show False from h).elim
 |ex x=>exact h
 |bad=>exact h
def k9 (i:mI X (dq op) g)(j:PB X a l)(m:PB X b n)(o:gy op b=false:=by first|exact RD _|with_unfolding_all rfl):
  MN X (.Compare a [op] [b] p) (λρ=>((l ρ).bind λx=>(n ρ).bind λy=>g x y).bind CT):=by
 refine zR λd s σ H Q I H9 O0 O ρ E q=>?_;have t:=wH (O:=O) q;refine wpAny_isTrue_Compare1 (RT j m I (oH E t) λv u w x y f A B C h=>?_) o;obtain⟨J,L,N,T,U,q⟩:=h;obtain⟨r,Y,hq⟩:=i f O x y J L _ N T U q;refine J7 (Y d w σ f x y v u _ A B C hq) λc s3 z9=>?_;obtain⟨z,H3,I3,r3,k,e,q3⟩:=z9;subst e;cases r3;exact aBO ⟨H3,I3,q3⟩
def YE (h:PD X e f)(a:∀whole,isTrue e X.env whole=(do let v<-whole;standAt e.pos;gk [v] (truthy v)):=by intro _;rfl):MN X e (λρ=>(f ρ).bind CT):=by refine ptI (jx h a) λσ H Q b d O ρ E q=>⟨b,d,O,ρ,E,wH q⟩
def AC.seq {Q:Bool->Hp->Prop}(h:AC X H (r.bind g) Q):AC X H r λb f=>r=.ok b/\Same H f/\AC X f (g b) Q:=by
 cases r with
 |ok d=>
  intro f i;refine⟨rfl,i,?_⟩;have a:AC X H (g d) Q:=h;cases e:g d with
  |ok l=>rw[e]at a;exactλj k=>a j (i.trans k)
  |ex x=>rw[e]at a;exactλj k=>a j (i.trans k)
  |bad=>rw[e]at a;exact a
 |ex x=>exact h
 |bad=>exact h
def AC.af8 {O:bb->Prop}(h:RC X H O (r.bind g) Q):AC X H r λb a=>r=.ok b/\Same H a/\RC X a O (g b) Q:=by
 cases r with
 |ok d=>intro a e;refine⟨rfl,e,?_⟩;have f:RC X H O (g d) Q:=h;exact f.grow e
 |ex x=>exact h
 |bad=>exact h
def AC.mono {Q e:Bool->Hp->Prop}(h:AC X H r Q)(i:∀b a,Q b a->e b a):AC X H r e:=by
 cases r with
 |ok d=>exactλa f=>i _ _ (h a f)
 |ex x=>exact h
 |bad=>exact h
def RC.mono {O:bb->Prop}(h:RC X H O r Q)(i:∀b a,Q b a->e b a):RC X H O r e:=by
 cases r with
 |ok d=>exactλv a f g=>i _ _ (h v a f g)
 |ex x=>exact h
 |bad=>exact h
def CU (X:Cx)(e:cu)(f:Ev->R Bool):Prop:=PW X e (tDT X f)
def FE (f g:Ev->R Bool):Ev->R Bool:=λρ=>(f ρ).bind λb=>if b=true then g ρ else .ok false
def orB (f g:Ev->R Bool):Ev->R Bool:=λρ=>(f ρ).bind λb=>if b=true then .ok true else g ρ
variable{rest:List cu}
def qP (b:MN X a f):CU X (.BoolOp .And [a] d) f:=ZD b
def kI (b:MN X a f):CU X (.BoolOp .Or [a] d) f:=sk b
def RZ (h:PW X e t)(i:∀σ H Q,t' σ H Q->t σ H Q):PW X e t':=λb a s σ H Q I q=>h b a s σ H Q I (i σ H Q q)
def wS (j:MN X a f)(k:CU X (.BoolOp .And (b::rest) d) g):CU X (.BoolOp .And (a::b::rest) d) (FE f g):=
 RZ (tj j k) λσ H Q ⟨e,h,O,ρ,E,q⟩=>⟨e,h,O,ρ,E,AC.mono (AC.seq q)<|by
  rintro b l ⟨_,m,i⟩;cases b with
  |true=>rw[hV rfl];exact⟨e,h,O,ρ,E.grow m,i⟩
  |false=>rw[h9 aBc];exact i l (Same.refl _)⟩
def kS (j:MN X a f)(k:CU X (.BoolOp .Or (b::rest) d) g):CU X (.BoolOp .Or (a::b::rest) d) (orB f g):=
 RZ (a2o j k) λσ H Q ⟨e,h,O,ρ,E,q⟩=>⟨e,h,O,ρ,E,AC.mono (AC.seq q)<|by
  rintro b l ⟨_,m,i⟩;cases b with
  |false=>rw[h9 aBc];exact⟨e,h,O,ρ,E.grow m,i⟩
  |true=>rw[hV rfl];exact i l (Same.refl _)⟩
def CU.pt (h:CU X e f):MN X e f:=PW.pt h
def a2g (f:Ev->R D)(g:Ev->R D):Ev->R D:=λρ=>((f ρ).bind CT).bind λb=>if b=true then g ρ else .ok (.bl false)
def jq {op}{f:Ev->R D}(h:PD X a f):PD X (.BoolOp op [a] b) f:=qy h
def pj {f g:Ev->R D}(k:PD X a f)(l:PD X (.BoolOp .And (b::rest) d) g):PD X (.BoolOp .And (a::b::rest) d) (a2g f g):=
 UM (pz k l) λσ H Q h i O ρ E q=>⟨h,i,O,ρ,E,RC.mono (wH<|AC.af8 q) λv m ⟨c,e,_,n,j⟩=>⟨c,e,by
  cases c with
  |true=>rw[hV rfl];exact⟨h,i,O,ρ,E.grow n,j⟩
  |false=>rw[h9 aBc];exact j _ m (Same.refl _) .bl⟩⟩
def a2m:D->R D
 |.int i=>.ok (.int (-i))
 |_=>.bad
def kX {f:Ev->R D}(e:PD X a f):PD X (.UnaryOp .USub a g) (λρ=>(f ρ).bind a2m):=
 UM (a2q nq e) λσ H Q h j O ρ E q=>⟨h,j,O,ρ,E,by
  refine RC.mono (RC.seq q) λv k l=>?_;obtain⟨d,_,n,m,b⟩:=l;cases d with
  |int i=>cases m;exact⟨i,rfl,b _ k (Same.refl _) .int⟩
  |_=>exact(show False from b).elim⟩
def JP.seq {H:Hp}{O:bb->Prop}{r:R (List D)}{g:List D->R D}{Q:VK}(h:RC X H O (r.bind g) Q):
  JP X H O r λv a=>∃d,r=.ok d/\Same H a/\Reps X.K a O v d/\RC X a O (g d) Q:=by
 cases r with
 |ok d=>exactλv a b e=>⟨d,rfl,b,e,(show RC X H O (g d) Q from h).grow b⟩
 |ex x=>exact h
 |bad=>exact h
def JP.mono {O:bb->Prop}{Q e:List V->Hp->Prop}(h:JP X H O r Q)(i:∀b a,Q b a->e b a):JP X H O r e:=by
 cases r with
 |ok d=>exactλv a f g=>i _ _ (h v a f g)
 |ex x=>exact h
 |bad=>exact h
def TQ.seq {H:Hp}{O:bb->Prop}{r:R (List D)}{g:List D->R D}{Q:VK}(h:RC X H O (r.bind g) Q):
  TQ X H O r λv a=>∃d,r=.ok d/\Same H a/\Paired (D2 X.K a O) v d/\RC X a O (g d) Q:=by
 cases r with
 |ok d=>exactλv a b e=>⟨d,rfl,b,e,(show RC X H O (g d) Q from h).grow b⟩
 |ex x=>exact h
 |bad=>exact h
def t4 (f:Ev->R D)(g:Ev->R (List D)):Ev->R (List D):=λρ=>(f ρ).bind λd=>(g ρ).bind λa=>.ok (d::a)
def V2:Ev->R (List D):=λ_=>.ok []
def u8:NP X [] V2:=paI dR λσ H Q a b O ρ E q=>q [] H (Same.refl _) .nil
def j0 {f:Ev->R D}{g:Ev->R (List D)}(m:PD X e f)(n:NP X es g)(o:ba (e::es) X.env=(false,dm e X.env)::ba es X.env:=by rfl):NP X (e::es) (t4 f g):=
 paI (R0 m n o) λσ H Q k l O ρ E q=>⟨k,l,O,ρ,E,by
  unfold t4 at q;cases b:f ρ with
  |ok d=>
   rw[b]at q;intro v s h p;refine⟨k,l,O,ρ,E.grow h,?_⟩;cases i:g ρ with
   |ok t=>rw[i]at q;exactλL j a r=>q (v::L) j (h.trans a) (.cons (p.same a) r)
   |ex x=>rw[i]at q;exactλj a=>q j (h.trans a)
   |bad=>rw[i]at q;exact q
  |ex x=>rw[b]at q;exact q
  |bad=>rw[b]at q;exact q⟩
def G8:tw X [] V2:=paI dR λσ H Q a b O ρ E q=>q [] H (Same.refl _) .nil
def A4 {f:Ev->R D}{g:Ev->R (List D)}(m:PB X e f)(n:tw X es g)(o:ba (e::es) X.env=(false,dm e X.env)::ba es X.env:=by rfl):tw X (e::es) (t4 f g):=
 paI (R0 m n o) λσ H Q k l O ρ E q=>⟨k,l,O,ρ,E,by
  unfold t4 at q;cases b:f ρ with
  |ok d=>
   rw[b]at q;intro v s h p;refine⟨k,l,O,ρ,E.grow h,?_⟩;cases i:g ρ with
   |ok t=>rw[i]at q;exactλL j a r=>q (v::L) j (h.trans a) (.cons (p.same a) r)
   |ex x=>rw[i]at q;exactλj a=>q j (h.trans a)
   |bad=>rw[i]at q;exact q
  |ex x=>rw[b]at q;exact q
  |bad=>rw[b]at q;exact q⟩
def sF (ds:List D):R D:=if ds.length<=sizeLine then .ok (.tup ds)else .bad
def CY (ds:List D):R D:=if ds.length<=sizeLine then .ok (.lst ds)else .bad
def yL {f:Ev->R (List D)}{e}(h:NP X es f):PD X (.Tuple es e g) (λρ=>(f ρ).bind sF):=
 UM (yx h) λσ H Q i j O ρ E q=>⟨i,j,O,ρ,E,JP.mono (JP.seq q)<|by
  rintro L l ⟨m,_,n,b,a⟩;unfold sF at a;split at a
  .rename_i k;exact⟨by rw[b.length];exact k,λp d=>a (.ref p) _ (m8 d _) (.tup (Y8.of l4) (b.same<|m8 d _))⟩
  .exact a.elim⟩
def qI {f:Ev->R (List D)}(h:NP X es f):PD X (.List es e) (λρ=>(f ρ).bind CY):=
 UM (QA h) λσ H Q g i O ρ E q=>⟨g,i,O,ρ,E,JP.mono (JP.seq q)<|by
  rintro L l ⟨m,_,j,d,a⟩;unfold CY at a;split at a
  .rename_i k;exact⟨by rw[d.length];exact k,λp b=>a (.ref p) _ (m8 b _) (.lst (Q8.of l4) ((E.grow j).fresh b) (d.same<|m8 b _))⟩
  .exact a.elim⟩
def dP (X:Cx)(f:ao)(g:List D->R D):Prop:=
 ∀(H:Hp) (O:bb->Prop) (L:List V) (a:List D) (Q:VK),(∀p,H p=none->¬O p)->Paired (D2 X.K H O) L a->RC X H O (g a) Q->∃r,uK X f r/\r L H Q
def oV {x:Str}{id:String}{p:Pos}{f:Ev->R (List D)}{g:List D->R D}(j:dP X (.builtin id) g)(k:tw X (e::es) f)(l:Gl X x:=by rfl)(m:X.mg x=none:=by assumption)(n:de x=some (.builtin id):=by decide+kernel)(o:x≠ "__name__":=by decide)
  (t:(x==ix)=false:=by decide) (u:ba (e::es) X.env=(false,dm e X.env)::ba es X.env:=by rfl) (v:(cy b (ba es X.env)).any (·.1)=false:=by rfl):
  PD X (.Call (.Name x p) (e::es) [] b) (λρ=>(f ρ).bind g):=by
 refine zR λa s σ H Q I w y O ρ E q=>?_;refine aBi (X6 I l m n ?_ o t);refine aCu (J7 (k b a s σ H _ I ⟨w,y,O,ρ,E,TQ.seq q⟩) λz A ⟨L,i,B,C,d,_,J,r,h⟩=>?_) u v;obtain⟨Y,N,T⟩:=j i O L d Q (λp U=>(E.grow J).fresh U) r h;exact N a A σ i L z Q B C T
def aY {x:Str}{T:String}{p:Pos}{f:Ev->R (List D)}{g:List D->R D}(j:dP X (.type T) g)(k:tw X (e::es) f)(l:Gl X x:=by rfl)(m:X.mg x=none:=by assumption)(n:de x=some (.type T):=by decide+kernel)(o:x≠ "__name__":=by decide)
  (t:(x==ix)=false:=by decide) (u:ba (e::es) X.env=(false,dm e X.env)::ba es X.env:=by rfl) (v:(cy b (ba es X.env)).any (·.1)=false:=by rfl):
  PD X (.Call (.Name x p) (e::es) [] b) (λρ=>(f ρ).bind g):=by
 refine zR λa s σ H Q I w y O ρ E q=>?_;refine aBi (X6 I l m n ?_ o t);refine aBu (J7 (k b a s σ H _ I ⟨w,y,O,ρ,E,TQ.seq q⟩) λz A ⟨L,i,B,C,d,_,J,r,h⟩=>?_) u v;obtain⟨r',N,U⟩:=j i O L d Q (λp Y=>(E.grow J).fresh Y) r h;exact N a A σ i L z Q B C U
end
mutual
def y6:D->D->Bool
 |.non,.non=>true
 |.bl a,.bl b=>a==b
 |.bl a,.int b=>(if a then 1 else 0)==b
 |.int a,.bl b=>a==(if b then 1 else 0)
 |.int a,.int b=>a==b
 |.str a,.str b=>a==b
 |.tup Y,.tup N=>Z3 Y N
 |.lst Y,.lst N=>Z3 Y N
 |.dct,.dct=>true
 |_,_=>false
def Z3:List D->List D->Bool
 |[],[]=>true
 |x::Y,y::N=>y6 x y&&Z3 Y N
 |_,_=>false
end
mutual
def J0:D->Nat
 |.tup Y=>N1 Y+1
 |.lst Y=>N1 Y+1
 |.dct=>cz
 |_=>0
def N1:List D->Nat
 |[]=>0
 |x::Y=>max (J0 x) (N1 Y)
end
mutual
theorem X5:∀d:D,y6 d d=true
 |.non=>by simp[y6]
 |.bl b=>by simp[y6]
 |.int i=>by simp[y6]
 |.str x=>by simp[y6]
 |.tup Y=>by rw[y6];exact mN Y
 |.lst Y=>by rw[y6];exact mN Y
 |.dct=>by simp[y6]
theorem mN:∀ds:List D,Z3 ds ds=true
 |[]=>by simp[Z3]
 |x::Y=>by rw[Z3,X5 x,mN Y];rfl
end
def mQ (Y N:List D)(j:Nat):Bool:=match Y[j]?,N[j]? with
 |some a,some b=>y6 a b
 |_,_=>false
theorem gS:∀(Y N:List D),Z3 Y N=((aBa (min Y.length N.length)).all (mQ Y N)&&(Y.length==N.length))
 |[],[]=>by simp[Z3]
 |[],_::_=>by simp[Z3]
 |_::_,[]=>by simp[Z3]
 |x::Y,y::N=>by
  rw[Z3,gS Y N,aAp,aAp,Nat.succ_min_succ,aEd,aGp,List.all_map];have a:mQ (x::Y) (y::N) 0=y6 x y:=rfl;have b:(mQ (x::Y) (y::N)∘Nat.succ)=mQ Y N:=by
   funext j
   simp[mQ]
  have d:(Y.length+1==N.length+1)=(Y.length==N.length):=by rw[aDY];simp
  rw[a,b,d,Bool.and_assoc]
theorem wI:∀{Y:List D} {d:D} {j:Nat},Y[j]?=some d->J0 d<=N1 Y
 |[],_,_,h=>by simp at h
 |x::Y,d,0,h=>by simp at h;subst h;rw[N1];exact Nat.le_max_left _ _
 |x::Y,d,j+1,h=>by rw[N1];exact aAl (wI (j:=j) (by simpa using h)) (Nat.le_max_right _ _)
section
def EL {K:iu}{H:Hp}{O:bb->Prop}{a:bb}{d:D}(h:Rep K H O (.ref a) d):(∃L ds,d=.tup ds/\Y8 K H a L/\Reps K H O L ds)\/(∃L ds,d=.lst ds/\Q8 K H a L/\Reps K H O L ds)\/(d=.dct/\∃o:Obj,H a=some (.ext λh=>h.get? a=some o)/\o.ExactDict):=by
 cases h with
 |tup h r=>exact .inl ⟨_,_,rfl,h,r⟩
 |lst h n r=>exact .inr (.inl ⟨_,_,rfl,h,r⟩)
 |dct h x n=>exact .inr (.inr ⟨rfl,_,h,x⟩)
def ZZ (I:Inv X b σ H s)(h:Y8 X.K H a L)(h':Q8 X.K H a ws):False:=by obtain⟨e,_,p,_⟩:=I.tuple h;obtain⟨d,_,f,_⟩:=I.list h';exact absurd rfl (SeqAt.ne_of_list_tuple (s:=s) f.isList p)
def aj {o:Obj}(I:Inv X b σ H s)(h':Y8 X.K H a L)(h:H a=some (.ext λh=>h.get? a=some o))(x:o.ExactDict):False:=by obtain⟨d,_,⟨f,g,c,_⟩,_⟩:=I.tuple h';have e:s.heap.get? _=some _:=(I.hok _ _ h).1;rw[g]at e;cases e;exact absurd (c.symm.trans x.1) (by decide)
def ZX {o:Obj}(I:Inv X b σ H s)(h':Q8 X.K H a L)(h:H a=some (.ext λh=>h.get? a=some o))(x:o.ExactDict):False:=by obtain⟨d,_,p,_⟩:=I.list h';obtain⟨f,g,c,_⟩:=p.isList;have e:s.heap.get? _=some _:=(I.hok _ _ h).1;rw[g]at e;cases e;exact absurd (c.symm.trans x.1) (by decide)
mutual
theorem Rep.inj (I:Inv X g σ H s):∀{v:V} {d:D},Rep X.K H O v d->∀{d':D},Rep X.K H i v d'->d=d'
 |_,_,.non=>λh=>by cases h;rfl
 |_,_,.bl=>λh=>by cases h;rfl
 |_,_,.int=>λh=>by cases h;rfl
 |_,_,.str=>λh=>by cases h;rfl
 |_,_,.tup h r=>λb=>by
  rcases EL b with⟨_,_,rfl,a,f⟩|⟨_,_,rfl,a,_⟩|⟨rfl,_,a,x⟩
  .have e:=I.ab5 h a;subst e;rw[Reps.inj I r f]
  .exact(ZZ I h a).elim
  .exact(aj I h a x).elim
 |_,_,.lst h _ r=>λb=>by
  rcases EL b with⟨_,_,rfl,a,_⟩|⟨_,_,rfl,a,f⟩|⟨rfl,_,a,x⟩
  .exact(ZZ I a h).elim
  .have e:=I.ac0 h a;subst e;rw[Reps.inj I r f]
  .exact(ZX I h a x).elim
 |_,_,.dct h x _=>λb=>by
  rcases EL b with⟨_,_,rfl,a,_⟩|⟨_,_,rfl,a,_⟩|⟨rfl,_⟩
  .exact(aj I a h x).elim
  .exact(ZX I a h x).elim
  .rfl
theorem Reps.inj (I:Inv X a σ H s):∀{v:List V} {d:List D},Reps X.K H O v d->∀{d':List D},Reps X.K H g v d'->d=d'
 |_,_,.nil=>λh=>by cases h;rfl
 |_,_,.cons h t=>λb=>by
  cases b with
  |cons e f=>rw[Rep.inj I h e,Reps.inj I t f]
end
def oJ (A:cf)(s:a9)(a ws:List ao)(Y N:List D):Prop:=∀(j:Nat) (u w:ao),a[j]?=some u->ws[j]?=some w->SeqAt.EqAt A.in1 s u w (mQ Y N j)
def AN (f:s.heap.IsList l a.toArray)(g:s.heap.IsList b ws.toArray)(e1:a.length=Y.length)(e2:ws.length=N.length)(h:A.units<cz)(o:oJ A s a ws Y N):SeqAt.RcAt A s (.ref l) (.ref b) (Z3 Y N)/\SeqAt.RcNeAt A s (.ref l) (.ref b) (!Z3 Y N):=by
 rw[gS];by_cases d:Y.length=N.length
 .have e:a.toArray.size=ws.toArray.size:=by simp[e1,e2,d]
  have p:min Y.length N.length=a.toArray.size:=by simp[e1,d]
  have i:(Y.length==N.length)=true:=by simp[d]
  have k:∀j (m:j<a.toArray.size) (n:j<ws.toArray.size),SeqAt.EqAt A.in1 s a.toArray[j] ws.toArray[j] (mQ Y N j):=λj m n=>o j _ _ (by simp[aAh (show j<a.length by simpa using m)]) (by simp[aAh (show j<ws.length by simpa using n)]);rw[i,Bool.and_true,p];exact⟨SeqAt.RcAt.lists f g e h k,SeqAt.RcNeAt.lists f g e h k⟩
 .have e:(a.toArray.size !=ws.toArray.size)=true:=by simp[e1,e2,d]
  have i:(Y.length==N.length)=false:=by simp[d]
  rw[i,aGe];exact⟨SeqAt.RcAt.lists_lengths f g e h,SeqAt.RcNeAt.lists_lengths f g e h⟩
def mJ (d:IsTup s.heap l a.toArray)(e:IsTup s.heap b ws.toArray)(e1:a.length=Y.length)(e2:ws.length=N.length)(f:A.units<cz)(k:oJ A s a ws Y N):SeqAt.RcAt A s (.ref l) (.ref b) (Z3 Y N)/\SeqAt.RcNeAt A s (.ref l) (.ref b) (!Z3 Y N):=by
 rw[gS];have m:min Y.length N.length=min a.toArray.size ws.toArray.size:=by simp[e1,e2]
 have n:(Y.length==N.length)=(a.toArray.size==ws.toArray.size):=by simp[e1,e2]
 have g:∀j (h:j<a.toArray.size) (i:j<ws.toArray.size),SeqAt.EqAt A.in1 s a.toArray[j] ws.toArray[j] (mQ Y N j):=λj h i=>k j _ _ (by simp[aAh (show j<a.length by simpa using h)]) (by simp[aAh (show j<ws.length by simpa using i)]);rw[n,m];exact⟨SeqAt.RcAt.tuples d e f g,SeqAt.RcNeAt.tuples d e f g⟩
def x5 (A:cf):A.in1.units=A.units+1:=rfl
mutual
theorem cj (I:Inv X N σ H s):∀{x y:V} {w z:D} {v u:ao} {A:cf},Rep X.K H O x w->Rep X.K H O' y z->RelV x v->RelV y u->A.units+J0 w<cz->A.units+J0 z<cz->SeqAt.EqAt A s v u (y6 w z)
 |_,_,_,_,v,u,A,.non,g,i,b,j,f=>by
  have d:A.units<cz:=by lia
  cases i;cases g with
  |dct=>exact absurd f (by rw[J0];lia)
  |non=>cases b;exact aDZ _
  |bl=>cases b;simp only[y6];exact SeqAt.EqAt.none_bool _
  |int=>obtain⟨t,rfl⟩:=b;simp only[y6];exact SeqAt.EqAt.none_int _ _
  |str=>obtain⟨t,rfl⟩:=b;simp only[y6];exact SeqAt.EqAt.none_str _ _
  |tup h r=>cases b;obtain⟨_,_,p,_⟩:=I.tuple h;simp only[y6];exact SeqAt.EqAt.none_tuple p d
  |lst h _ r=>cases b;obtain⟨_,_,p,_⟩:=I.list h;simp only[y6];exact SeqAt.EqAt.none_list p.isList d
 |_,_,_,_,v,u,A,.bl,g,i,b,j,f=>by
  have d:A.units<cz:=by lia
  cases i;cases g with
  |dct=>exact absurd f (by rw[J0];lia)
  |non=>cases b;simp only[y6];exact SeqAt.EqAt.bool_none _
  |bl=>cases b;simp only[y6];exact SeqAt.EqAt.bool_bool _ _
  |int=>obtain⟨t,rfl⟩:=b;simp only[y6];exact SeqAt.EqAt.bool_int _ _ _
  |str=>obtain⟨t,rfl⟩:=b;simp only[y6];exact SeqAt.EqAt.bool_str _ _ _
  |tup h r=>cases b;obtain⟨_,_,p,_⟩:=I.tuple h;simp only[y6];exact SeqAt.EqAt.bool_tuple _ p d
  |lst h _ r=>cases b;obtain⟨_,_,p,_⟩:=I.list h;simp only[y6];exact SeqAt.EqAt.bool_list _ p.isList d
 |_,_,_,_,v,u,A,.int,g,i,b,j,f=>by
  have d:A.units<cz:=by lia
  obtain⟨Q,rfl⟩:=i;cases g with
  |dct=>exact absurd f (by rw[J0];lia)
  |non=>cases b;simp only[y6];exact SeqAt.EqAt.int_none _ _
  |bl=>cases b;simp only[y6];exact SeqAt.EqAt.int_bool _ _ _
  |int=>obtain⟨t,rfl⟩:=b;simp only[y6];exact aEY _ _ _ _
  |str=>obtain⟨t,rfl⟩:=b;simp only[y6];exact aGn _ _ _ _
  |tup h r=>cases b;obtain⟨_,_,p,_⟩:=I.tuple h;simp only[y6];exact aFY _ _ p d
  |lst h _ r=>cases b;obtain⟨_,_,p,_⟩:=I.list h;simp only[y6];exact SeqAt.EqAt.int_list _ _ p.isList d
 |_,_,_,_,v,u,A,.str,g,i,b,j,f=>by
  have d:A.units<cz:=by lia
  obtain⟨Q,rfl⟩:=i;cases g with
  |dct=>exact absurd f (by rw[J0];lia)
  |non=>cases b;simp only[y6];exact SeqAt.EqAt.str_none _ _
  |bl=>cases b;simp only[y6];exact SeqAt.EqAt.str_bool _ _ _
  |int=>obtain⟨t,rfl⟩:=b;simp only[y6];exact aGo _ _ _ _
  |str=>obtain⟨t,rfl⟩:=b;simp only[y6];exact SeqAt.EqAt.str_str _ _ _ _
  |tup h r=>cases b;obtain⟨_,_,p,_⟩:=I.tuple h;simp only[y6];exact SeqAt.EqAt.str_tuple _ _ p d
  |lst h _ r=>cases b;obtain⟨_,_,p,_⟩:=I.list h;simp only[y6];exact SeqAt.EqAt.str_list _ _ p.isList d
 |_,_,_,_,v,u,A,.tup (a:=a) (L:=L) (ds:=ds) h r,g,i,b,j,f=>by
  have d:A.units<cz:=by lia
  cases i;obtain⟨B,n,p,_⟩:=I.tuple h;cases g with
  |dct=>exact absurd f (by rw[J0];lia)
  |non=>cases b;simp only[y6];exact SeqAt.EqAt.tuple_none p d
  |bl=>cases b;simp only[y6];exact SeqAt.EqAt.tuple_bool _ p d
  |int=>obtain⟨t,rfl⟩:=b;simp only[y6];exact aFZ _ _ p d
  |str=>obtain⟨t,rfl⟩:=b;simp only[y6];exact SeqAt.EqAt.tuple_str _ _ p d
  |@tup C T U k l=>
   cases b;obtain⟨o,q,m,_⟩:=I.tuple k;by_cases e:a=C
   .subst e;have E:=I.ab5 h k;subst E;have J:=Reps.inj I r l;subst J;rw[X5];exact aDZ _
   .simp only[y6];refine aEZ e (mJ p m (by rw[<-n.length,r.length]) (by rw[<-q.length,l.length]) d<|jC I r l n q ?_ ?_).1
    .rw[J0]at j;rw[x5];lia
    .rw[J0]at f;rw[x5];lia
  |lst k _ l=>cases b;obtain⟨_,_,m,_⟩:=I.list k;simp only[y6];exact SeqAt.EqAt.tuple_list p m.isList d
 |_,_,_,_,v,u,A,.lst (a:=a) (L:=L) (ds:=ds) h nO r,g,i,b,j,f=>by
  have d:A.units<cz:=by lia
  cases i;obtain⟨B,n,p,_⟩:=I.list h;cases g with
  |dct=>exact absurd f (by rw[J0];lia)
  |non=>cases b;simp only[y6];exact SeqAt.EqAt.list_none p.isList d
  |bl=>cases b;simp only[y6];exact SeqAt.EqAt.list_bool _ p.isList d
  |int=>obtain⟨t,rfl⟩:=b;simp only[y6];exact SeqAt.EqAt.list_int _ _ p.isList d
  |str=>obtain⟨t,rfl⟩:=b;simp only[y6];exact SeqAt.EqAt.list_str _ _ p.isList d
  |tup k l=>cases b;obtain⟨_,_,m,_⟩:=I.tuple k;simp only[y6];exact SeqAt.EqAt.list_tuple p.isList m d
  |@lst C T U k Y l=>
   cases b;obtain⟨o,q,m,_⟩:=I.list k;by_cases e:a=C
   .subst e;have E:=I.ac0 h k;subst E;have J:=Reps.inj I r l;subst J;rw[X5];exact aDZ _
   .simp only[y6];refine aEZ e (AN p.isList m.isList (by rw[<-n.length,r.length]) (by rw[<-q.length,l.length]) d<|jC I r l n q ?_ ?_).1
    .rw[J0]at j;rw[x5];lia
    .rw[J0]at f;rw[x5];lia
 |_,_,_,_,v,u,A,.dct ..,g,i,b,j,f=>absurd j (by rw[J0];lia)
theorem jC (I:Inv X o σ H s):∀{L ws:List V} {Y N:List D} {e f:List ao} {A:cf},Reps X.K H O L Y->Reps X.K H y ws N->p5 L e->p5 ws f->A.in1.units+N1 Y<cz->A.in1.units+N1 N<cz->oJ A s e f Y N
 |_,_,_,_,e,f,A,.nil,z,g,i,k,l=>λj u w a b=>by cases g;simp at a
 |_,_,_,_,e,f,A,.cons h t,.nil,g,i,k,l=>λj u w a b=>by cases i;simp at b
 |_,_,_,_,e,f,A,.cons (d:=d) (ds:=ds) h t,.cons (d:=B) (ds:=C) p r,g,i,k,l=>λj u w a b=>by
  cases g with
  |cons v x=>
   cases i with
   |cons m n=>
    rw[N1]at k l;cases j with
    |zero=>simp only[aDg,aGw]at a b;subst a b;exact cj I h p v m (by lia) (by lia)
    |succ j=>simp only[aFu]at a b;have q:=jC I (A:=A) t r x n (by lia) (by lia) j u w a b;exact q
end
def a3d (I:Inv X J σ H s)(l:D2 X.K H O x w)(d:D2 X.K H T y f)(m:RelV x v)(e:RelV y u)(z:A.units+J0 w<cz)(i:A.units+J0 f<cz):
  SeqAt.RcAt A s v u (y6 w f)/\SeqAt.RcNeAt A s v u (!y6 w f):=by
 have b:A.units<cz:=by lia
 cases w with
 |dct=>exact absurd z (by rw[J0];lia)
 |non=>
  cases l.ac3;cases m;cases f with
  |dct=>exact absurd i (by rw[J0];lia)
  |non=>cases d.ac3;cases e;simp only[y6];exact⟨SeqAt.RcAt.none_none,SeqAt.RcNeAt.none_none⟩
  |bl=>cases d.blI;cases e;simp only[y6];exact⟨SeqAt.RcAt.none_bool _,SeqAt.RcNeAt.none_bool _⟩
  |int=>cases d.aa8;obtain⟨t,rfl⟩:=e;simp only[y6];exact⟨SeqAt.RcAt.none_int _ _,SeqAt.RcNeAt.none_int _ _⟩
  |str=>cases d.ac5;obtain⟨t,rfl⟩:=e;simp only[y6];exact⟨SeqAt.RcAt.none_str _ _,SeqAt.RcNeAt.none_str _ _⟩
  |tup N=>obtain⟨a,L,rfl,h,r⟩:=d.tupI;cases e;obtain⟨_,_,p,_⟩:=I.tuple h;simp only[y6];exact⟨SeqAt.RcAt.none_tuple p b,SeqAt.RcNeAt.none_tuple p b⟩
  |lst N=>obtain⟨a,L,rfl,h,r⟩:=d.aa6;cases e;obtain⟨_,_,p,_⟩:=I.list h;simp only[y6];exact⟨SeqAt.RcAt.none_list p.isList b,SeqAt.RcNeAt.none_list p.isList b⟩
 |bl=>
  cases l.blI;cases m;cases f with
  |dct=>exact absurd i (by rw[J0];lia)
  |non=>cases d.ac3;cases e;simp only[y6];exact⟨SeqAt.RcAt.bool_none _,SeqAt.RcNeAt.bool_none _⟩
  |bl=>cases d.blI;cases e;simp only[y6];exact⟨SeqAt.RcAt.bool_bool _ _,SeqAt.RcNeAt.bool_bool _ _⟩
  |int=>cases d.aa8;obtain⟨t,rfl⟩:=e;simp only[y6];exact⟨SeqAt.RcAt.bool_int _ _ _,SeqAt.RcNeAt.bool_int _ _ _⟩
  |str=>cases d.ac5;obtain⟨t,rfl⟩:=e;simp only[y6];exact⟨SeqAt.RcAt.bool_str _ _ _,SeqAt.RcNeAt.bool_str _ _ _⟩
  |tup N=>obtain⟨a,L,rfl,h,r⟩:=d.tupI;cases e;obtain⟨_,_,p,_⟩:=I.tuple h;simp only[y6];exact⟨SeqAt.RcAt.bool_tuple _ p b,SeqAt.RcNeAt.bool_tuple _ p b⟩
  |lst N=>obtain⟨a,L,rfl,h,r⟩:=d.aa6;cases e;obtain⟨_,_,p,_⟩:=I.list h;simp only[y6];exact⟨SeqAt.RcAt.bool_list _ p.isList b,SeqAt.RcNeAt.bool_list _ p.isList b⟩
 |int=>
  cases l.aa8;obtain⟨Q,rfl⟩:=m;cases f with
  |dct=>exact absurd i (by rw[J0];lia)
  |non=>cases d.ac3;cases e;simp only[y6];exact⟨SeqAt.RcAt.int_none _ _,SeqAt.RcNeAt.int_none _ _⟩
  |bl=>cases d.blI;cases e;simp only[y6];exact⟨SeqAt.RcAt.int_bool _ _ _,SeqAt.RcNeAt.int_bool _ _ _⟩
  |int=>cases d.aa8;obtain⟨t,rfl⟩:=e;simp only[y6];exact⟨SeqAt.RcAt.int_int _ _ _ _,SeqAt.RcNeAt.int_int _ _ _ _⟩
  |str=>cases d.ac5;obtain⟨t,rfl⟩:=e;simp only[y6];exact⟨SeqAt.RcAt.int_str _ _ _ _,SeqAt.RcNeAt.int_str _ _ _ _⟩
  |tup N=>obtain⟨a,L,rfl,h,r⟩:=d.tupI;cases e;obtain⟨_,_,p,_⟩:=I.tuple h;simp only[y6];exact⟨SeqAt.RcAt.int_tuple _ _ p b,SeqAt.RcNeAt.int_tuple _ _ p b⟩
  |lst N=>obtain⟨a,L,rfl,h,r⟩:=d.aa6;cases e;obtain⟨_,_,p,_⟩:=I.list h;simp only[y6];exact⟨SeqAt.RcAt.int_list _ _ p.isList b,SeqAt.RcNeAt.int_list _ _ p.isList b⟩
 |str=>
  cases l.ac5;obtain⟨Q,rfl⟩:=m;cases f with
  |dct=>exact absurd i (by rw[J0];lia)
  |non=>cases d.ac3;cases e;simp only[y6];exact⟨SeqAt.RcAt.str_none _ _,SeqAt.RcNeAt.str_none _ _⟩
  |bl=>cases d.blI;cases e;simp only[y6];exact⟨SeqAt.RcAt.str_bool _ _ _,SeqAt.RcNeAt.str_bool _ _ _⟩
  |int=>cases d.aa8;obtain⟨t,rfl⟩:=e;simp only[y6];exact⟨SeqAt.RcAt.str_int _ _ _ _,SeqAt.RcNeAt.str_int _ _ _ _⟩
  |str=>cases d.ac5;obtain⟨t,rfl⟩:=e;simp only[y6];exact⟨SeqAt.RcAt.str_str _ _ _ _,SeqAt.RcNeAt.str_str _ _ _ _⟩
  |tup N=>obtain⟨a,L,rfl,h,r⟩:=d.tupI;cases e;obtain⟨_,_,p,_⟩:=I.tuple h;simp only[y6];exact⟨SeqAt.RcAt.str_tuple _ _ p b,SeqAt.RcNeAt.str_tuple _ _ p b⟩
  |lst N=>obtain⟨a,L,rfl,h,r⟩:=d.aa6;cases e;obtain⟨_,_,p,_⟩:=I.list h;simp only[y6];exact⟨SeqAt.RcAt.str_list _ _ p.isList b,SeqAt.RcNeAt.str_list _ _ p.isList b⟩
 |tup Y=>
  obtain⟨a,L,rfl,h,r⟩:=l.tupI;cases m;obtain⟨B,n,p,_⟩:=I.tuple h;cases f with
  |dct=>exact absurd i (by rw[J0];lia)
  |non=>cases d.ac3;cases e;simp only[y6];exact⟨SeqAt.RcAt.tuple_none p b,SeqAt.RcNeAt.tuple_none p b⟩
  |bl=>cases d.blI;cases e;simp only[y6];exact⟨SeqAt.RcAt.tuple_bool _ p b,SeqAt.RcNeAt.tuple_bool _ p b⟩
  |int=>cases d.aa8;obtain⟨t,rfl⟩:=e;simp only[y6];exact⟨SeqAt.RcAt.tuple_int _ _ p b,SeqAt.RcNeAt.tuple_int _ _ p b⟩
  |str=>cases d.ac5;obtain⟨t,rfl⟩:=e;simp only[y6];exact⟨SeqAt.RcAt.tuple_str _ _ p b,SeqAt.RcNeAt.tuple_str _ _ p b⟩
  |tup N=>
   obtain⟨C,E,rfl,j,k⟩:=d.tupI;cases e;obtain⟨o,q,g,_⟩:=I.tuple j;simp only[y6];refine mJ p g (by rw[<-n.length,r.length]) (by rw[<-q.length,k.length]) b (jC I r k n q ?_ ?_)
   .rw[J0]at z;rw[x5];lia
   .rw[J0]at i;rw[x5];lia
  |lst N=>obtain⟨C,E,rfl,j,k⟩:=d.aa6;cases e;obtain⟨_,_,g,_⟩:=I.list j;simp only[y6];exact⟨SeqAt.RcAt.tuple_list p g.isList b,SeqAt.RcNeAt.tuple_list p g.isList b⟩
 |lst Y=>
  obtain⟨a,L,rfl,h,r⟩:=l.aa6;cases m;obtain⟨B,n,p,_⟩:=I.list h;cases f with
  |dct=>exact absurd i (by rw[J0];lia)
  |non=>cases d.ac3;cases e;simp only[y6];exact⟨SeqAt.RcAt.list_none p.isList b,SeqAt.RcNeAt.list_none p.isList b⟩
  |bl=>cases d.blI;cases e;simp only[y6];exact⟨SeqAt.RcAt.list_bool _ p.isList b,SeqAt.RcNeAt.list_bool _ p.isList b⟩
  |int=>cases d.aa8;obtain⟨t,rfl⟩:=e;simp only[y6];exact⟨SeqAt.RcAt.list_int _ _ p.isList b,SeqAt.RcNeAt.list_int _ _ p.isList b⟩
  |str=>cases d.ac5;obtain⟨t,rfl⟩:=e;simp only[y6];exact⟨SeqAt.RcAt.list_str _ _ p.isList b,SeqAt.RcNeAt.list_str _ _ p.isList b⟩
  |tup N=>obtain⟨C,E,rfl,j,k⟩:=d.tupI;cases e;obtain⟨_,_,g,_⟩:=I.tuple j;simp only[y6];exact⟨SeqAt.RcAt.list_tuple p.isList g b,SeqAt.RcNeAt.list_tuple p.isList g b⟩
  |lst N=>
   obtain⟨C,E,rfl,j,k⟩:=d.aa6;cases e;obtain⟨o,q,g,_⟩:=I.list j;simp only[y6];refine AN p.isList g.isList (by rw[<-n.length,r.length]) (by rw[<-q.length,k.length]) b (jC I r k n q ?_ ?_)
   .rw[J0]at z;rw[x5];lia
   .rw[J0]at i;rw[x5];lia
end
def UR (x y:D):R D:=if J0 x<=40/\J0 y<=40 then .ok (.bl (y6 x y))else .bad
def NA (x y:D):R D:=if J0 x<=40/\J0 y<=40 then .ok (.bl (!y6 x y))else .bad
section
def M4 (r:X.A.units+64<cz):mI X (dq .Eq) UR:=by
 intro H O x y g h Q t i j q;unfold UR at q;split at q
 .rename_i w;refine⟨λa b d e=>a=x/\b=y/\d=H/\e (.bl (y6 g h)) H,?_,rfl,rfl,rfl,q _ H (Same.refl _) .bl⟩;intro f s σ d a b v u e I k l ⟨m,n,o,p⟩;subst m n o;exact(a3d I (A:=X.A) i j k l (by lia) (by lia)).1 _ _ _ _ ⟨.bl _,_,I,rfl,p⟩
 .exact q.elim
def jQ (r:X.A.units+64<cz):mI X (dq .NotEq) NA:=by
 intro H O x y g h Q t i j q;unfold NA at q;split at q
 .rename_i w;refine⟨λa b d e=>a=x/\b=y/\d=H/\e (.bl (!y6 g h)) H,?_,rfl,rfl,rfl,q _ H (Same.refl _) .bl⟩;intro f s σ d a b v u e I k l ⟨m,n,o,p⟩;subst m n o;exact(a3d I (A:=X.A) i j k l (by lia) (by lia)).2 _ _ _ _ ⟨.bl _,_,I,rfl,p⟩
 .exact q.elim
end
def qQ:D->D->R D
 |.int a,.int b=>.ok (.int (a+b))
 |.lst a,.lst b=>if a.length+b.length<=sizeLine then .ok (.lst (a++b))else .bad
 |.tup [],.tup b=>.ok (.tup b)
 |.tup (x::a),.tup []=>if(x::a).length<=sizeLine then .ok (.tup (x::a))else .bad
 |.tup (x::a),.tup (y::b)=>if(x::a).length+(y::b).length<=sizeLine then .ok (.tup ((x::a)++(y::b)))else .bad
 |_,_=>.bad
def QP:D->D->R D
 |.int a,.int b=>.ok (.int (a-b))
 |_,_=>.bad
def x8 (a b:Int):Prop:=aBe a<=60000000/\aBe b<=60000000
instance(a b:Int):Decidable (x8 a b):=inferInstanceAs (Decidable<|_/\_)
def qE:D->D->R D
 |.int a,.int b=>if x8 a b then .ok (.int (a*b))else .bad
 |_,_=>.bad
def AW (b:Int):Prop:=b≠0/\aBe b<=9000
instance(b:Int):Decidable (AW b):=inferInstanceAs (Decidable<|_/\_)
def N5:D->D->R D
 |.int a,.int b=>if AW b then .ok (.int (a.fdiv b))else .bad
 |_,_=>.bad
def lI:D->D->R D
 |.int a,.int b=>if b≠0 then .ok (.int (a.fmod b))else .bad
 |_,_=>.bad
def sQ:D->D->R D
 |.int a,.int b=>if 0<=b/\b<=1000000/\a.natAbs<2^64 then .ok (.int (a^b.toNat))else .bad
 |_,_=>.bad
def ltR:D->D->R D
 |.int a,.int b=>.ok (.bl (decide (a<b)))
 |_,_=>.bad
def leR:D->D->R D
 |.int a,.int b=>.ok (.bl (decide (a<=b)))
 |_,_=>.bad
def gtR:D->D->R D
 |.int a,.int b=>.ok (.bl (decide (b<a)))
 |_,_=>.bad
def geR:D->D->R D
 |.int a,.int b=>.ok (.bl (decide (b<=a)))
 |_,_=>.bad
def LV (h0:b≠0)(h:aBe b<=n):b.natAbs.log2<n:=by
 unfold aBe at h;split at h
 .rename_i z;exact absurd (by simpa using z) h0
 .omega
def OK (h:x8 a b):IntMulOk a b:=mulOk_of_bits (m:=60000000) (n:=60000000) h.1 h.2 (by decide)
section
def mI.aa9 {f:ao->ao->Sem ao}{g:D->D->R D}{C:Int->Int->Prop}{w:Int->Int->V}{dw:Int->Int->D}(h:lY X f (rI C w))(k:∀a b d,g a b=.ok d->∃i j,a=.int i/\b=.int j/\C i j/\d=dw i j)
  (l:∀a b e,g a b≠.ex e) (m:∀K H O i j,Rep K H O (w i j) (dw i j)):mI X f g:=by
 intro H O x y a b Q r n o q;cases e:g a b with
 |ok d=>rw[e]at q;obtain⟨i,j,rfl,rfl,p,rfl⟩:=k a b d e;cases n.aa8;cases o.aa8;exact⟨_,h,i,j,rfl,rfl,p,q _ H (Same.refl _) (m _ _ _ _ _)⟩
 |ex x=>exact absurd e (l _ _ _)
 |bad=>rw[e]at q;exact q.elim
def lY.c0 (h:lY X f (UT w)):lY X f (rI (λ_ _=>True) w):=by rintro a s σ H x y v u Q I b d ⟨i,j,e,g,_,q⟩;exact h a s σ H x y v u Q I b d ⟨i,j,e,g,q⟩
def u9:mI X (dF .Sub) QP:=mI.aa9 (dw:=λi j=>.int (i-j)) (lY.c0 pk) (λa b d h=>by cases a<;>cases b<;>simp only[QP,R.ok.injEq,reduceCtorEq]at h;exact⟨_,_,rfl,rfl,trivial,h.symm⟩) (λa b e h=>by cases a<;>cases b<;>simp only[QP,reduceCtorEq]at h) λ_ _ _ _ _=>.int
def AI:mI X (dq .Lt) ltR:=mI.aa9 (dw:=λi j=>.bl (decide (i<j))) (lY.c0 a1e) (λa b d h=>by cases a<;>cases b<;>simp only[ltR,R.ok.injEq,reduceCtorEq]at h;exact⟨_,_,rfl,rfl,trivial,h.symm⟩) (λa b e h=>by cases a<;>cases b<;>simp only[ltR,reduceCtorEq]at h) λ_ _ _ _ _=>.bl
def a1b:mI X (dq .LtE) leR:=mI.aa9 (dw:=λi j=>.bl (decide (i<=j))) (lY.c0 a2r) (λa b d h=>by cases a<;>cases b<;>simp only[leR,R.ok.injEq,reduceCtorEq]at h;exact⟨_,_,rfl,rfl,trivial,h.symm⟩) (λa b e h=>by cases a<;>cases b<;>simp only[leR,reduceCtorEq]at h) λ_ _ _ _ _=>.bl
def yZ:mI X (dq .Gt) gtR:=mI.aa9 (dw:=λi j=>.bl (decide (j<i))) (lY.c0 a0o) (λa b d h=>by cases a<;>cases b<;>simp only[gtR,R.ok.injEq,reduceCtorEq]at h;exact⟨_,_,rfl,rfl,trivial,h.symm⟩) (λa b e h=>by cases a<;>cases b<;>simp only[gtR,reduceCtorEq]at h) λ_ _ _ _ _=>.bl
def a2b:mI X (dq .GtE) geR:=mI.aa9 (dw:=λi j=>.bl (decide (j<=i))) (lY.c0 a1f) (λa b d h=>by cases a<;>cases b<;>simp only[geR,R.ok.injEq,reduceCtorEq]at h;exact⟨_,_,rfl,rfl,trivial,h.symm⟩) (λa b e h=>by cases a<;>cases b<;>simp only[geR,reduceCtorEq]at h) λ_ _ _ _ _=>.bl
def RQ:lY X (dF .FloorDiv) (rI (λ_ j=>AW j) λi j=>.int (i.fdiv j)):=opI λ_ _ _ _ _ _ _ a q=>floordiv_int a.1 q (.inl (PyProof.noPylong_of_log2<|LV a.1 a.2))
def p9:mI X (dF .FloorDiv) N5:=mI.aa9 (dw:=λi j=>.int (i.fdiv j)) RQ (λa b d h=>by
 cases a<;>cases b<;>simp only[N5,reduceCtorEq]at h;split at h
 .rename_i f;cases h;exact⟨_,_,rfl,rfl,f,rfl⟩
 .cases h) (λa b e h=>by
  cases a<;>cases b<;>simp only[N5,reduceCtorEq]at h;split at h<;>cases h) λ_ _ _ _ _=>.int
def o9:mI X (dF .Mod) lI:=mI.aa9 (dw:=λi j=>.int (i.fmod j)) UY (λa b d h=>by
 cases a<;>cases b<;>simp only[lI,reduceCtorEq]at h;split at h
 .rename_i f;cases h;exact⟨_,_,rfl,rfl,f,rfl⟩
 .cases h) (λa b e h=>by
  cases a<;>cases b<;>simp only[lI,reduceCtorEq]at h;split at h<;>cases h) λ_ _ _ _ _=>.int
def F6:mI X (dF .Pow) sQ:=mI.aa9 (dw:=λi j=>.int (i^j.toNat)) mz (λa b d h=>by
 cases a<;>cases b<;>simp only[sQ,reduceCtorEq]at h;split at h
 .rename_i f;cases h;exact⟨_,_,rfl,rfl,f,rfl⟩
 .cases h) (λa b e h=>by
  cases a<;>cases b<;>simp only[sQ,reduceCtorEq]at h;split at h<;>cases h) λ_ _ _ _ _=>.int
def XO:lY X (dF .Mult) (rI x8 λi j=>.int (i*j)):=opI λ_ _ _ _ _ _ _ a q=>mul_int q (OK a)
def j9:mI X (dF .Mult) qE:=mI.aa9 (dw:=λi j=>.int (i*j)) XO (λa b d h=>by
 cases a<;>cases b<;>simp only[qE,reduceCtorEq]at h;split at h
 .rename_i f;cases h;exact⟨_,_,rfl,rfl,f,rfl⟩
 .cases h) (λa b e h=>by
  cases a<;>cases b<;>simp only[qE,reduceCtorEq]at h;split at h<;>cases h) λ_ _ _ _ _=>.int
def WP:lY X (dF .Add) (λx y H Q=>∃l b Y e,x=.ref l/\y=.ref b/\Q8 X.K H l Y/\Q8 X.K H b e/\Y.length+e.length<=sizeLine/\∀p,H p=none->Q (.ref p) (upd H p (.lst (Y++e)))):=by
 intro g s σ H x y v u Q I A B h;obtain⟨l,b,Y,e,rfl,rfl,C,E,J,q⟩:=h;cases A;cases B;obtain⟨a,r,p,_⟩:=I.list C;obtain⟨f,i,L,_⟩:=I.list E;obtain⟨⟨N,O,j,T⟩,k,m,n,o⟩:=p.isList;obtain⟨⟨t,U,data2,uc⟩,w,z,n2,d⟩:=L.isList;simp only at m o z d;subst m o z d;have gu:a.toArray.size+f.toArray.size<=sizeLine:=by rw[aAq,aAq,<-r.length,<-i.length];exact J
 have ea:a.toArray++f.toArray=(a++f).toArray:=by simp
 refine aFS ⟨_,k,rfl⟩ ⟨_,w,rfl⟩ noFill_list_add seq_list_add PySem.F.slot_list_add PySem.F.entry_list_add (PySem.F.args_list_add_2 _ _) (list_addW l b a.toArray f.toArray n n2 O U T uc gu) ⟨k,w,?_⟩;rw[ea];exact⟨.ref _,_,I.af9 (t':=s.toks) (r.append i) (by rw[aAB];omega),rfl,q _ I.fresh⟩
def OL:lY X (dF .Add) (λx y H Q=>∃a b N,x=.ref a/\y=.ref b/\Y8 X.K H a []/\Y8 X.K H b N/\Q (.ref b) H):=by intro e s σ H x y v u Q I o p h;obtain⟨t,b,N,rfl,rfl,r,w,q⟩:=h;cases o;cases p;obtain⟨z,A,B,_⟩:=I.tuple r;obtain⟨Y,r2,C,_⟩:=I.tuple w;cases A;obtain⟨⟨E,J,f,L⟩,g,i,n,j⟩:=B;obtain⟨⟨k,O,data2,T⟩,l,m,U,d⟩:=C;simp only at i j m d;subst i j m d;exact aFS ⟨_,g,rfl⟩ ⟨_,l,rfl⟩ aFA seq_tuple_add PySem.F.slot_tuple_add PySem.F.entry_tuple_add (PySem.F.args_tuple_add_2 _ _) (tuple_addW0 t b _ _ n U J O L T (by simp)) ⟨g,l,.ref b,H,I,rfl,q⟩
def o6:mI X (dF .Add) qQ:=by
 intro H O x y u s Q v n o q;cases u with
 |int i=>
  cases s with
  |int j=>cases n.aa8;cases o.aa8;exact⟨_,qw,i,j,rfl,rfl,q _ H (Same.refl _) .int⟩
  |_=>exact aAm q
 |lst a=>
  cases s with
  |lst b=>
   simp only[qQ]at q;split at q
   .rename_i r;obtain⟨l,L,rfl,f,d⟩:=n.aa6;obtain⟨h,k,rfl,g,e⟩:=o.aa6;exact⟨_,WP,l,h,L,k,rfl,rfl,f,g,by rw[d.length,e.length];exact r,λp m=>q _ _ (m8 m _) (.lst (Q8.of l4) (v p m) ((d.append e).same (m8 m _)))⟩
   .exact q.elim
  |_=>exact aAm q
 |tup a=>
  cases s with
  |tup b=>
   cases a with
   |nil=>obtain⟨l,L,rfl,f,d⟩:=n.tupI;obtain⟨h,k,rfl,g,e⟩:=o.tupI;cases d;exact⟨_,OL,l,h,k,rfl,rfl,f,g,q _ H (Same.refl _) (.tup g e)⟩
   |cons x a=>
    cases b with
    |nil=>
     obtain⟨l,L,rfl,f,d⟩:=n.tupI;obtain⟨h,k,rfl,g,e⟩:=o.tupI;cases e;have t:L≠[]:=λz=>by subst z;have:=d.length;simp at this
     simp only[qQ]at q;split at q
     .rename_i r;exact⟨_,IZ,l,h,L,[],rfl,rfl,f,g,t,by rw[d.length];exact r,λ_=>q _ H (Same.refl _) (.tup f d),λz=>absurd rfl z⟩
     .exact q.elim
    |cons y b=>
     simp only[qQ]at q;split at q
     .rename_i r;obtain⟨l,L,rfl,f,d⟩:=n.tupI;obtain⟨h,k,rfl,g,e⟩:=o.tupI;have t:L≠[]:=λz=>by subst z;have:=d.length;simp at this
      have w:k≠[]:=λz=>by subst z;have:=e.length;simp at this
      exact⟨_,IZ,l,h,L,k,rfl,rfl,f,g,t,by rw[d.length,e.length];exact r,λz=>absurd z w,λ_ p m=>q _ _ (m8 m _) (.tup (Y8.of l4) ((d.append e).same (m8 m _)))⟩
     .exact q.elim
  |_=>cases a<;>exact aAm q
 |_=>exact aAm q
def P6 (x y:D):R D:=match x,y with
 |.lst Y,.int i=>match rO Y i with|some d=>.ok d|none=>.bad
 |.tup Y,.int i=>match rO Y i with|some d=>.ok d|none=>.bad
 |_,_=>.bad
def zV {K:iu}{H:Hp}{O:bb->Prop}{L:List V}{ds:List D}{i:Int}{d:D}(r:Reps K H O L ds)(h:rO ds i=some d):∃v,rO L i=some v/\Rep K H O v d:=by
 unfold rO at h⊢;rw[r.length];cases e:ZK ds.length i with
 |none=>rw[e]at h;cases h
 |some j=>rw[e]at h;exact r.get h
def j5 (N:PB X a f)(T:PD X b g)(r:YB b:=by exactλ_ _=>rfl):PD X (.Subscript a b U) (λρ=>(f ρ).bind λx=>(g ρ).bind λy=>P6 x y):=by
 refine zR λj s σ H Q I H9 O0 O ρ E q=>?_;refine Subscript_ (RT N T.pb I (oH E q) λv u t x y k z A B h=>?_);obtain⟨C,dy,fr,J,r2,q⟩:=h;cases dy with
 |int i=>
  cases r2.aa8;cases C with
  |lst Y=>
   simp only[P6]at q;cases e:rO Y i with
   |none=>rw[e]at q;exact q.elim
   |some d=>rw[e]at q;obtain⟨p,L,rfl,l,m⟩:=J.aa6;obtain⟨w,n,o⟩:=zV m e;exact VE a b j t σ k _ _ v u Q z A B ⟨p,L,i,w,rfl,rfl,l,n,q w k (Same.refl _) o⟩ (r _ _)
  |tup Y=>
   simp only[P6]at q;cases e:rO Y i with
   |none=>rw[e]at q;exact q.elim
   |some d=>rw[e]at q;obtain⟨p,L,rfl,l,m⟩:=J.tupI;obtain⟨w,n,o⟩:=zV m e;exact qk a b j t σ k _ _ v u Q z A B ⟨p,L,i,w,rfl,rfl,l,n,q w k (Same.refl _) o⟩ (r _ _)
  |_=>exact aAm q
 |_=>cases C<;>exact aAm q
def cutD (Y:List D)(lo a:Option Int):List D:=(Y.drop<|HT.sIx Y.length 0 lo).take (HT.sIx Y.length Y.length a-HT.sIx Y.length 0 lo)
def uY {K:iu}{H:Hp}{O:bb->Prop}{L:List V}{ds:List D}{lo a:Option Int}(r:Reps K H O L ds):Reps K H O (BP L lo a) (cutD ds lo a):=by unfold BP cutD;rw[r.length];exact(r.drop _).take _
def PTO (X:Cx)(e:Option cu)(f:Ev->R (Option Int)):Prop:=PO X e λσ H Q=>∃b d O ρ,EnvOk X.K b d H O σ ρ/\match f ρ with
 |.ok o=>∀a,Same H a->Q o a
 |.ex e=>∀a,Same H a->XW X e a
 |.bad=>False
def toI:D->R (Option Int)
 |.int i=>.ok (some i)
 |_=>.bad
def dU:PTO X none (λ_=>.ok none):=by rintro a s σ H Q I ⟨b,d,O,ρ,E,q⟩;exact VY a s σ H Q I (q H<|Same.refl _)
def O5 (h:PD X e f):PTO X (some e) (λρ=>(f ρ).bind toI):=by rintro a s σ H Q I ⟨b,g,O,ρ,E,q⟩;exact XA h a s σ H Q I ⟨b,g,O,ρ,E,by
 dsimp only at q;cases e:f ρ with
 |ok d=>
  rw[e]at q;cases d with
  |int i=>exactλv j k l=>by cases l;exact⟨i,rfl,q j k⟩
  |_=>exact aAm q
 |ex x=>rw[e]at q;exact q
 |bad=>rw[e]at q;exact q⟩
def KF (x:D)(lo a:Option Int):R D:=match x with
 |.lst Y=>.ok (.lst (cutD Y lo a))
 |.tup Y=>if HT.sIx Y.length 0 lo=0/\HT.sIx Y.length Y.length a=Y.length then .bad else .ok (.tup (cutD Y lo a))
 |_=>.bad
def pD {lo A:Option cu}{B:Pos}{m n:Ev->R (Option Int)}(C:PB X a f)(J:PTO X lo m)(N:PTO X A n):
  PD X (.Subscript a (.Slice lo A none B) T) (λρ=>(f ρ).bind λx=>(m ρ).bind λl=>(n ρ).bind λh=>KF x l h):=by
 refine zR λi s σ H Q I o t O ρ E q=>?_;have u:∀x d l h g,D2 X.K g O x d->(∀p,g p=none->¬O p)->RC X g O (KF d l h) Q->a1u X.K x l h g Q\/a1y X.K x l h g Q:=λx d l h g r U q=>by
  cases d with
  |lst Y=>obtain⟨p,L,rfl,v,k⟩:=r.aa6;exact .inl ⟨p,L,rfl,v,λp b=>q _ _ (m8 b _) (.lst (Q8.of l4) (U p b) ((uY k).same (m8 b _)))⟩
  |tup Y=>
   obtain⟨p,L,rfl,v,k⟩:=r.tupI;simp only[KF]at q;split at q
   .exact q.elim
   .rename_i hn;exact .inr ⟨p,L,rfl,v,by rw[k.length];exact hn,λp b=>q _ _ (m8 b _) (.tup (Y8.of l4) ((uY k).same (m8 b _)))⟩
  |_=>exact aAm q
 refine TY (XJ.or kw) C J N i s σ H Q I ⟨o,t,O,ρ,E,?_⟩;dsimp only at q;cases w:f ρ with
 |ok d=>
  rw[w]at q;intro x H1 s1 r1;refine⟨o,t,O,ρ,E.grow s1,?_⟩;rw[R.aa0]at q;cases y:m ρ with
  |ok l=>
   rw[y]at q;intro H2 s2;refine⟨o,t,O,ρ,(E.grow s1).grow s2,?_⟩;cases z:n ρ with
   |ok h=>rw[z]at q;intro j e;have q':RC X H O (KF d l h) Q:=q;exact u x d l h j ((r1.same s2).same e) (λp b=>(((E.grow s1).grow s2).grow e).fresh b) (q'.grow<|s1.trans<|s2.trans e)
   |ex x=>rw[z]at q;exactλj e=>q j (s1.trans<|s2.trans e)
   |bad=>rw[z]at q;exact q
  |ex x=>rw[y]at q;exactλj e=>q j (s1.trans e)
  |bad=>rw[y]at q;exact q
 |ex x=>rw[w]at q;exact q
 |bad=>rw[w]at q;exact q
def MB {K:iu}{H:Hp}{O:bb->Prop}{L:List V}{d:D}(r:Paired (D2 K H O) L [d]):∃v,L=[v]/\D2 K H O v d:=by
 cases r with
 |cons a b=>cases b;exact⟨_,rfl,a⟩
def pr2 {K:iu}{H:Hp}{O:bb->Prop}{L:List V}{d d':D}(r:Paired (D2 K H O) L [d,d']):∃v a,L=[v,a]/\D2 K H O v d/\D2 K H O a d':=by
 cases r with
 |cons b f=>obtain⟨a,e,g⟩:=MB f;subst e;exact⟨_,_,rfl,b,g⟩
def vX:List D->R D
 |[.lst Y]=>.ok (.int Y.length)
 |[.tup Y]=>.ok (.int Y.length)
 |_=>.bad
def eJ:dP X (.builtin "len") vX:=by
 intro H O L d Q e r q;match d,q with
 |[.lst Y],q=>obtain⟨v,rfl,z⟩:=MB r;obtain⟨p,N,rfl,a,b⟩:=z.aa6;exact⟨_,jV,p,N,rfl,.inl a,q _ H (Same.refl _) (by rw[b.length];exact .int)⟩
 |[.tup Y],q=>obtain⟨v,rfl,z⟩:=MB r;obtain⟨p,N,rfl,a,b⟩:=z.tupI;exact⟨_,jV,p,N,rfl,.inr a,q _ H (Same.refl _) (by rw[b.length];exact .int)⟩
def a3f:List D->R D
 |[.int i]=>.ok (.int (if i<0 then-i else i))
 |_=>.bad
def NY:dP X (.builtin "abs") a3f:=by
 intro H O L a Q b r q;match a,q with
 |[.int i],q=>obtain⟨v,rfl,z⟩:=MB r;cases z.aa8;exact⟨_,PL,i,rfl,q _ H (Same.refl _) .int⟩
def a2n:List D->R D
 |[.int i]=>.ok (.int i)
 |[.bl b]=>.ok (.int (if b then 1 else 0))
 |_=>.bad
def MT:dP X (.type "int") a2n:=by
 intro H O L a Q b r q;match a,q with
 |[.int i],q=>obtain⟨v,rfl,z⟩:=MB r;cases z.aa8;exact⟨_,uV,.inl ⟨i,rfl,q _ H (Same.refl _) .int⟩⟩
 |[.bl i],q=>obtain⟨v,rfl,z⟩:=MB r;cases z.blI;exact⟨_,uV,.inr ⟨i,rfl,q _ H (Same.refl _) .int⟩⟩
def a2a:List D->R D
 |[.lst Y]=>.ok (.lst Y)
 |[.tup Y]=>.ok (.lst Y)
 |_=>.bad
def yI:dP X (.type "list") a2a:=by
 intro H O L f Q e r q;match f,q with
 |[.lst Y],q=>obtain⟨v,rfl,z⟩:=MB r;obtain⟨p,N,rfl,b,d⟩:=z.aa6;exact⟨_,kK,p,N,rfl,.inl b,λl a=>q _ _ (m8 a _) (.lst (Q8.of l4) (e l a) (d.same<|m8 a _))⟩
 |[.tup Y],q=>obtain⟨v,rfl,z⟩:=MB r;obtain⟨p,N,rfl,b,d⟩:=z.tupI;exact⟨_,kK,p,N,rfl,.inr b,λl a=>q _ _ (m8 a _) (.lst (Q8.of l4) (e l a) (d.same<|m8 a _))⟩
end
section
variable{K:iu}
def Kp.lst (k:Kp H O H' d){a:bb}{Y:List V}(n:¬O a)(h:Q8 K H a Y)(f:∀o,K.lookup a=some o->¬d a):¬d a/\Q8 K H' a Y:=by
 rcases h with(h|⟨o,h⟩)|h
 .exact⟨(k _ _ h n).2,.inl (.inl (k _ _ h n).1)⟩
 .exact⟨(k _ _ h n).2,.inl (.inr ⟨o,(k _ _ h n).1⟩)⟩
 .obtain⟨o,b,m,e,g⟩:=h;exact⟨f o e,.inr ⟨o,b,m,e,g⟩⟩
def Kp.tup (k:Kp H O H' d)(b:∀a,O a->∃o,H a=some o/\Mt o){a:bb}{Y:List V}(h:Y8 K H a Y):Y8 K H' a Y:=by
 rcases h with(h|⟨o,h⟩)|h
 .exact .inl (.inl (k _ _ h λz=>by obtain⟨o,q,m⟩:=b a z;rw[h]at q;cases q;exact m).1)
 .exact .inl (.inr ⟨o,(k _ _ h λz=>by obtain⟨o,q,m⟩:=b a z;rw[h]at q;cases q;exact m).1⟩)
 .exact .inr h
end
def aX (K:iu)(O:bb->Prop):Prop:=∀a o,K.lookup a=some o->¬O a
def Kp.rep {K:iu}{H H':Hp}{O b:bb->Prop}(k:Kp H O H' b)(e:∀a,O a->∃o,H a=some o/\Mt o)(f:aX K b){v:V}{d:D}(r:Rep K H O v d):Rep K H' b v d:=
 r.mono (λ_ _ h=>k.tup e h) (λa _ n h=>k.lst n h λo q=>f a o q) λa _ n h=>⟨(k a _ h n).2,(k a _ h n).1⟩
def Kp.ac8 {K:iu}{H H':Hp}{O b:bb->Prop}(k:Kp H O H' b)(e:∀a,O a->∃o,H a=some o/\Mt o)(f:aX K b){v:List V}{d:List D}(r:Reps K H O v d):Reps K H' b v d:=
 r.mono (λ_ _ h=>k.tup e h) (λa _ n h=>k.lst n h λo q=>f a o q) λa _ n h=>⟨(k a _ h n).2,(k a _ h n).1⟩
inductive Out where
 |nx (ρ:Ev)|rt (d:D)|bk (ρ:Ev)|ct (ρ:Ev)
def RS (X:Cx)(g:Hp)(h:bb->Prop)(H:Hp)(O:bb->Prop)(r:R Out)(D:Ends):Prop:=match r with
 |.ok (.nx ρ)=>∀f a b,EnvOk X.K g h a b f ρ->aX X.K b->Kp H O a b->D.nx f a
 |.ok (.bk ρ)=>∀f a b,EnvOk X.K g h a b f ρ->aX X.K b->Kp H O a b->D.bk f a
 |.ok (.ct ρ)=>∀f a b,EnvOk X.K g h a b f ρ->aX X.K b->Kp H O a b->D.ct f a
 |.ok (.rt d)=>∀v a,Same g a->Rep X.K a h v d->D.rt v a
 |.ex e=>∀a,Same g a->XW X e a
 |.bad=>False
def tS (X:Cx)(a:Hp)(b:bb->Prop)(F:Ev->R Out):TS:=λD σ H=>∃O ρ,EnvOk X.K a b H O σ ρ/\aX X.K O/\RS X a b H O (F ρ) D
def rP (X:Cx)(st:cv)(F:Ev->R Out):Prop:=∀a b,PS X st (tS X a b F)
def bV (X:Cx)(st:List cv)(F:Ev->R Out):Prop:=∀a b,xG X st (tS X a b F)
def xq {X:Cx}{st:cv}{t t':TS}(h:PS X st t)(i:∀D σ H,t' D σ H->t D σ H):PS X st t':=λa s σ H D I q=>h a s σ H D I (i D σ H q)
def VF {X:Cx}{st:List cv}{t t':TS}(h:xG X st t)(i:∀D σ H,t' D σ H->t D σ H):xG X st t':=λa s σ H D I q=>h a s σ H D I (i D σ H q)
def DK {X:Cx}{st:cv}{t:TS}{F:Ev->R Out}{a:Hp}{b:bb->Prop}(h:PS X st t)(i:∀D σ H O ρ,EnvOk X.K a b H O σ ρ->aX X.K O->RS X a b H O (F ρ) D->t D σ H):PS X st (tS X a b F):=xq h λD σ H ⟨O,ρ,E,f,q⟩=>i D σ H O ρ E f q
def a0u {X:Cx}{st:List cv}{t:TS}{F:Ev->R Out}{a:Hp}{b:bb->Prop}(h:xG X st t)(i:∀D σ H O ρ,EnvOk X.K a b H O σ ρ->aX X.K O->RS X a b H O (F ρ) D->t D σ H):xG X st (tS X a b F):=VF h λD σ H ⟨O,ρ,E,f,q⟩=>i D σ H O ρ E f q
def RS.grow {X:Cx}{i:Hp}{j:bb->Prop}{H l:Hp}{O m:bb->Prop}{r:R Out}{D:Ends}(h:RS X i j H O r D)(k:Kp H O l m):RS X i j l m r D:=by
 cases r with
 |ok o=>
  cases o with
  |nx ρ=>exactλa b g E f q=>h a b g E f (k.trans q)
  |bk ρ=>exactλa b g E f q=>h a b g E f (k.trans q)
  |ct ρ=>exactλa b g E f q=>h a b g E f (k.trans q)
  |rt d=>exact h
 |ex e=>exact h
 |bad=>exact h
def F8 (r:R Out)(F:Ev->R Out):R Out:=match r with
 |.ok (.nx ρ)=>F ρ
 |r=>r
section
variable{st:cv} {rest:List cv}
def RS.seq {a:Hp}{b:bb->Prop}{H:Hp}{O:bb->Prop}{r:R Out}{D:Ends}(h:RS X a b H O (F8 r G) D):RS X a b H O r {D with nx:=tS X a b G D}:=by
 cases r with
 |ok o=>
  cases o with
  |nx ρ=>exactλi j g E f k=>⟨g,ρ,E,f,(show RS X a b H O (G ρ) D from h).grow k⟩
  |bk ρ=>exact h
  |ct ρ=>exact h
  |rt d=>exact h
 |ex e=>exact h
 |bad=>exact h
def n6:bV X [] (λρ=>.ok (.nx ρ)):=λa b=>a0u XT λD σ H O ρ E f q=>q σ H O E f (Kp.refl _ _)
def c5 (d:rP X st F)(e:bV X rest G):bV X (st::rest) (λρ=>F8 (F ρ) G):=λa b=>a0u (SJ (d a b)<|e a b) λD σ H O ρ E f q=>⟨O,ρ,E,f,RS.seq q⟩
def e9 (a:rP X st F):bV X [st] F:=λb d=>HK (a b d)
def j3 {e:cu}{f:Ev->R D}(g:PD X e f):rP X (.Return (some e) h) (λρ=>(f ρ).bind λd=>.ok (.rt d)):=λi j=>DK (NK g) λD σ H O ρ E k q=>⟨i,j,O,ρ,E,by
 cases a:f ρ with
 |ok d=>rw[a]at q;exactλv b s r=>q v b (E.same.trans s) (r.sub E.sub)
 |ex x=>rw[a]at q;exactλb s=>q b (E.same.trans s)
 |bad=>rw[a]at q;exact q⟩
def i8 (i:Nat){x:Str}{e:cu}{f:Ev->R D}{a:Pos}(j:PD X e f)(k:X.N.Nodup)(l:X.N[i]?=some x:=by rfl)(m:Loc X.env.scope x:=by first|exact aDd rfl|exact aCn rfl)
  (n:ek e (some (.Name x a)) b.line X.env=pure false:=by rfl) (o:X.fn x=true\/X.env.scope.names.lookup x=some .local:=by first|exact .inl rfl|exact .inr rfl|assumption):
  rP X (.Assign [.Name x a] e b) (λρ=>(f ρ).bind λd=>.ok (.nx (ρ.set i (.v d)))):=λp t=>DK (QG k l m j n o) λD σ H O ρ E u q=>⟨p,t,O,ρ,E,by
 cases g:f ρ with
 |ok d=>rw[g]at q;exactλv h s r=>q _ h O ((E.grow s).set i r) u (Kp.of s)
 |ex x=>rw[g]at q;exactλh s=>q h (E.same.trans s)
 |bad=>rw[g]at q;exact q⟩
def w5 {c:cu}{a b:List cv}{d:Ev->R Bool}(j:MN X c d)(k:bV X a F)(l:bV X b G):rP X (.If c a b m) (λρ=>(d ρ).bind λt=>if t=true then F ρ else G ρ):=λe f=>DK (a0v j (k e f)<|l e f) λD σ H O ρ E h q=>⟨e,f,O,ρ,E,by
 cases g:d ρ with
 |ok t=>
  rw[g]at q;intro i s;cases t with
  |true=>rw[hV rfl];exact⟨O,ρ,E.grow s,h,RS.grow q (Kp.of s)⟩
  |false=>rw[h9 aBc];exact⟨O,ρ,E.grow s,h,RS.grow q (Kp.of s)⟩
 |ex x=>rw[g]at q;exactλi s=>q i (E.same.trans s)
 |bad=>rw[g]at q;exact q⟩
def bw (K:iu)(J:It)(H:Hp)(O:bb->Prop)(ds:List D):Prop:=∀b e,Kp H O b e->aX K e->(∀a,O a->∃o,H a=some o/\Mt o)->(∀a,e a->∃o,b a=some o/\Mt o)->∀i:Nat,
 (∀d,ds[i]?=some d->J.go i b/\∀x f,J.yld i b x f->Same b f/\Rep K f e x d)/\(ds[i]?=none->J.stop i b)
def tI (X:Cx)(f:Ev->R (List D)):TI:=λσ H R=>∃b d O ρ,EnvOk X.K b d H O σ ρ/\aX X.K O/\match f ρ with
 |.ok g=>∀J a,Same H a->bw X.K J a O g->R J a
 |.ex e=>∀a,Same H a->XW X e a
 |.bad=>False
def ZV (X:Cx)(a A7:cu)(f:Ev->R (List D)):Prop:=PI X a A7 (tI X f)
def DS (h:PI X b A7 t)(i:∀σ H R,t' σ H R->t σ H R):PI X b A7 t':=λa s σ H R I q=>h a s σ H R I (i σ H R q)
def jX:D->R (List D)
 |.lst Y=>.ok Y
 |_=>.bad
def IM:D->R (List D)
 |.tup Y=>.ok Y
 |_=>.bad
def w6 (h:PD X A7 f):ZV X B A7 (λρ=>(f ρ).bind jX):=DS (XV h) λσ H R ⟨l,m,O,ρ,E,C,q⟩=>⟨l,m,O,ρ,E,by
 dsimp only at q;cases e:f ρ with
 |ok d=>
  rw[e]at q;cases d with
  |lst Y=>
   intro v p s r;cases r with
   |lst h n r=>
    rename_i a L;refine⟨a,rfl,⟨L,h⟩,q (Itl X.K a) p s ?_⟩;intro I J k g t u i;obtain⟨N,b⟩:=k.lst n h λo q=>g a o q;have w:=k.ac8 t g r;refine⟨λd e=>?_,λe=>⟨L,b,by rw[r.length];exact aCq.mp e⟩⟩;obtain⟨v,j,y⟩:=w.get e;exact⟨⟨L,v,b,j⟩,by rintro x Q ⟨z,A⟩;subst z;have:=A L b;rw[j]at this;cases this;exact⟨Same.refl _,y⟩⟩
  |_=>exact aAm q
 |ex x=>rw[e]at q;exact q
 |bad=>rw[e]at q;exact q⟩
def YQ (h:PD X A7 f):ZV X z A7 (λρ=>(f ρ).bind IM):=DS (mw h) λσ H R ⟨l,m,O,ρ,E,A,q⟩=>⟨l,m,O,ρ,E,by
 dsimp only at q;cases e:f ρ with
 |ok d=>
  rw[e]at q;cases d with
  |tup Y=>
   intro v n s r;cases r with
   |tup h r=>
    rename_i a L;refine⟨a,rfl,⟨L,h⟩,q (Itt X.K a) n s ?_⟩;intro B C k o g p i;have b:=k.tup g h;have t:=k.ac8 g o r;refine⟨λd e=>?_,λe=>⟨L,b,by rw[r.length];exact aCq.mp e⟩⟩;obtain⟨v,j,u⟩:=t.get e;exact⟨⟨L,v,b,j⟩,by rintro x I ⟨w,y⟩;subst w;have:=y L b;rw[j]at this;cases this;exact⟨Same.refl _,u⟩⟩
  |_=>exact aAm q
 |ex x=>rw[e]at q;exact q
 |bad=>rw[e]at q;exact q⟩
def mj (lo c:Int)(n:Nat):It:=⟨λi _=>i<n,λi H x a=>a=H/\x=.int (lo+i*c),λi _=>n<=i⟩
def AZ {P:bt}{w:cp}{K:iu}{J:cu}(it:bb)(lo c:Int)(n:Nat):Turn P w K J (mj lo c n) [it] it (λi h=>IsRangeIter h it (lo+(i:Nat)*c) ((n:Int)-(i:Nat)) c)where
 mem:=by simp
 obj:=λi h st b d=>by
  have e:b=it:=by simpa using d
  subst e;exact⟨_,st,λv z=>by have L:Data.fields _=Data.cell v:=z;cases L⟩
 keep:=λi h g st k=>k it (by simp) _ st
 item:=by intro X l m p q i a s σ H E I j st r;subst l m p;obtain⟨u,x,N,y,A,B⟩:=j it (by simp);have W:=Walks.range (prog:=X.prog) (w:=X.w) (I.ok.hd q) it lo c n;refine W.item i s _ _ r st λv g C O f kk=>?_;obtain⟨t,rfl⟩:=O;have Q:Inv X a σ H {s with heap:=g,toks:=C}:=I.turned (λb o d e=>kk b o (by simpa using d) e) u x y A B;exact⟨_,rfl,SB (s:={s with heap:=g,toks:=C}) (n:= "range_iterator") f rfl rfl (by decide) ⟨.int (lo+i*c),H,Q,⟨t,rfl⟩,⟨rfl,rfl⟩,f,λb d=>(j b d).1⟩⟩
 done:=by intro X l m p q i a s σ H E I j st r;subst l m p;obtain⟨u,x,N,y,A,B⟩:=j it (by simp);exact wpAny_pyNext_range_end (I.ok.hd q) st (by have:n<=i:=r;lia) λg T=>⟨rfl,I.turned (t':=s.toks) (λb o d e=>T b o d e) u x y A B⟩
 self:=λ_ _ _ _ _ st h=>wpAny_pyIter_rangeiter st h
def xJ (lo c:Int)(n:Nat):List D:=(aBa n).map λ(k:Nat)=>D.int (lo+(k:Int)*c)
def mF (K:iu)(H:Hp)(O:bb->Prop)(lo c:Int)(n:Nat):bw K (mj lo c n) H O (xJ lo c n):=by
 intro h j k l m b i;unfold xJ;rw[aAK];by_cases a:i<n
 .rw[List.getElem?_range a];refine⟨λd e=>?_,λe=>(by cases e)⟩;cases e;exact⟨a,by rintro x o ⟨f,g⟩;subst f g;exact⟨Same.refl _,.int⟩⟩
 .rw[aCq.mpr (by simpa using a)];exact⟨λd e=>(by cases e),λ_=>aEo a⟩
def iJ (a b c:Int):Nat:=if a<b then((b-a-1)/c+1).toNat else 0
def JL (d:0<c):aCD a b c=(iJ a b c:Int):=by
 unfold aCD iJ;rw[hV (by lia)];split
 .have:0<=(b-a-1)/c:=Int.ediv_nonneg (by lia) (by lia)
  lia
 .rfl
def MD (j:0<c)(k:c<2^30)(l:-(2^60)<=a)(i:a<2^60)(m:-(2^60)<=b)(n:b<2^60):aGk a b c=true:=by
 unfold aGk;have e:aCD a b c=if a<b then(b-a-1)/c+1 else 0:=by unfold aCD;rw[hV (by lia)]
 rw[e];have d:a<b->(b-a-1)/c<=b-a-1:=λh=>Int.ediv_le_self _ (by lia);have f:a<b->0<=(b-a-1)/c:=λh=>Int.ediv_nonneg (by lia) (by lia);have g:a<b->(b-a-1)/c*c<=b-a-1:=λh=>Int.ediv_mul_le _ (by lia);simp only[Builtin.Range.rangeFitsLong,aAQ,Bool.or_eq_true,decide_eq_true_eq,beq_iff_eq,show c>0 by lia,if_true];split
 .rename_i h;have d:=d h;have f:=f h;have g:=g h;generalize(b-a-1)/c=q at*
  lia
 .lia
def rD (a b c:Int):Prop:=0<c/\c<2^30/\-(2^60)<=a/\a<2^60/\-(2^60)<=b/\b<2^60
instance(a b c:Int):Decidable (rD a b c):=inferInstanceAs (Decidable<|_/\_)
def gE:List D->R (List D)
 |[.int b]=>if rD 0 b 1 then .ok (xJ 0 1 (iJ 0 b 1))else .bad
 |[.int a,.int b]=>if rD a b 1 then .ok (xJ a 1 (iJ a b 1))else .bad
 |[.int a,.int b,.int c]=>if rD a b c then .ok (xJ a c (iJ a b c))else .bad
 |_=>.bad
def lQ {R:It->Hp->Prop}{E:G0}(I:Inv X d σ H s)(h:rD a b c)(q:R (mj a c (iJ a b c)) H):aA (be X.prog X.w) X.A (pyIter (.ref s.heap.objs.size)) (PIE X d σ y R) E {s with heap:=s.heap.push {cls:=.type "range",data:=.fields #[.int a t,.int b u,.int c v]},toks:=tk}:=by
 obtain⟨g,i,j,k,l,m⟩:=h;refine wpAny_pyIter_range (IsRange.new ..) (MD g i j k l m) ?_;have f:Inv X d σ H {s with heap:=s.heap.push {cls:=.type "range",data:=.fields #[.int a t,.int b u,.int c v]},toks:=tk}:=I.kept λb o e=>aAc _ e;refine⟨(s.heap.push {cls:=.type "range",data:=.fields #[.int a t,.int b u,.int c v]}).objs.size,[(s.heap.push {cls:=.type "range",data:=.fields #[.int a t,.int b u,.int c v]}).objs.size],_,_,H,rfl,
  f.kept (t':=tk) λb o e=>aAc _ e,AZ _ a c (iJ a b c),?_,λn p=>?_,q⟩
 .have r:a+((0:Nat):Int)*c=a:=by simp
  have x:((iJ a b c:Nat):Int)-((0:Nat):Int)=aCD a b c:=by rw[JL g];simp
  show IsRangeIter _ _ (a+((0:Nat):Int)*c) (((iJ a b c:Nat):Int)-((0:Nat):Int)) c;rw[r,x];exact aAr _ rfl
 .have e:n=(s.heap.push {cls:=.type "range",data:=.fields #[.int a t,.int b u,.int c v]}).objs.size:=by simpa using p
  subst e;exact f.af1 (aAj _) (f.hok.fresh<|aAj _)
def MU {R:It->Hp->Prop}{O:bb->Prop}(I:Inv X e σ H s)(r:Paired (D2 X.K H O) L ds)(f:p5 L i)(h:gE ds=.ok j)(q:∀J,bw X.K J H O j->R J H):aA (be X.prog X.w) X.A (call (.type "range") i) (λv k=>aA (be X.prog X.w) X.A (pyIter v) (PIE X e σ y R) X.xe k) X.xe s:=by
 match ds,h with
 |[.int b],h=>
  obtain⟨v,rfl,z⟩:=MB r;cases z.aa8;obtain⟨u,rfl,t,rfl⟩:=vals1 f;simp only[gE]at h;split at h
  .rename_i d;cases h;exact call_range_1 (lQ I d<|q _<|mF _ _ _ _ _ _)
  .cases h
 |[.int a,.int b],h=>
  obtain⟨v,l,rfl,z,g⟩:=pr2 r;cases z.aa8;cases g.aa8;obtain⟨u,m,rfl,⟨t,rfl⟩,⟨n,rfl⟩⟩:=vals2 f;simp only[gE]at h;split at h
  .rename_i d;cases h;exact call_range_2 (lQ I d<|q _<|mF _ _ _ _ _ _)
  .cases h
 |[.int a,.int b,.int c],h=>
  cases r with
  |cons o r=>
   obtain⟨v,l,rfl,z,g⟩:=pr2 r;cases o.aa8;cases z.aa8;cases g.aa8;cases f with
   |cons p f=>
    obtain⟨u,m,rfl,⟨t,rfl⟩,⟨n,rfl⟩⟩:=vals2 f;obtain⟨B,rfl⟩:=p;simp only[gE]at h;split at h
    .rename_i d;cases h;have x:=d;obtain⟨C,E,_⟩:=x;exact call_range_3 (by lia) (lQ (tk:=s.toks) I d<|q _<|mF _ _ _ _ _ _) (.inl (PyProof.noPylong_small (by lia)))
    .cases h
def aL {o e:cu}{es:List cu}{p:Pos}{f:Ev->R (List D)}(t:tw X (e::es) f)(u:Gl X "range":=by rfl)(v:X.mg "range"=none:=by assumption)
  (w:ba (e::es) X.env=(false,dm e X.env)::ba es X.env:=by rfl) (y:(cy i (ba es X.env)).any (·.1)=false:=by rfl):
  ZV X o (.Call (.Name "range" p) (e::es) [] i) (λρ=>(f ρ).bind gE):=by
 rintro j s σ H Q I ⟨z,A,O,ρ,E,Y,q⟩;dsimp only at q;refine Call_ (X6 I u v boot_range<|aBu (J7 (t i j s σ H (λL g=>∃h k,Same H g/\Paired (D2 X.K g O) L h/\gE h=.ok k/\∀J,bw X.K J g O k->Q J g) I ⟨z,A,O,ρ,E,?_⟩) λus l B=>?_) w y)
 .cases m:f ρ with
  |ok h=>
   rw[m]at q;intro L g l n;rw[R.aa0]at q;cases d:gE h with
   |ok k=>rw[d]at q;exact⟨h,k,l,n,d,λJ C=>q J g l C⟩
   |ex x=>
    rw[d]at q;match h,d with
    |[.int b],d=>simp only[gE]at d;split at d<;>cases d
    |[.int a,.int b],d=>simp only[gE]at d;split at d<;>cases d
    |[.int a,.int b,.int c],d=>simp only[gE]at d;split at d<;>cases d
   |bad=>rw[d]at q;exact q.elim
  |ex x=>rw[m]at q;exact q
  |bad=>rw[m]at q;exact q
 .obtain⟨L,g,N,n,h,k,sm,r,T,U⟩:=B;exact MU N r n T U
def tG (X:Cx)(G:D->Ev->R Ev):TG:=λv σ H Q=>∃e f O ρ d a,EnvOk X.K e f H O σ ρ/\Rep X.K H O v d/\G d ρ=.ok a/\∀g b,Same H b->EnvOk X.K e f b O g a->Q g b
def ML (X:Cx)(a:cu)(G:D->Ev->R Ev):Prop:=PG X a (tG X G)
def ij (h:PG X b t)(i:∀v σ H Q,t' v σ H Q->t v σ H Q):PG X b t':=λa s σ H v u Q I r q=>h a s σ H v u Q I r (i v σ H Q q)
def t6 (i:Nat)(a:X.N.Nodup)(b:X.N[i]?=some x:=by rfl)(f:Loc X.env.scope x:=by first|exact aDd rfl|exact aCn rfl)(g:X.fn x=true\/X.env.scope.names.lookup x=some .local:=by first|exact .inl rfl|exact .inr rfl|assumption):
  ML X (.Name x h) (λd ρ=>.ok (ρ.set i (.v d))):=ij (XI a b f g)<|by
 rintro v σ H Q ⟨k,l,O,ρ,d,j,E,r,e,q⟩;cases e;exact q _ H (Same.refl _) (E.set i r)
def tGs (X:Cx)(G:List D->Ev->R Ev):bx:=λL σ H Q=>∃d e O ρ f a,EnvOk X.K d e H O σ ρ/\Reps X.K H O L f/\G f ρ=.ok a/\∀g b,Same H b->EnvOk X.K d e b O g a->Q g b
def YO (X:Cx)(a:List cu)(G:List D->Ev->R Ev):Prop:=PGs X a (tGs X G)
def HL {b:List cu}{t t':bx}(h:PGs X b t)(i:∀v σ H Q,t' v σ H Q->t v σ H Q):PGs X b t':=λa s σ H v u Q I r q=>h a s σ H v u Q I r (i v σ H Q q)
def jL:List D->Ev->R Ev
 |[],ρ=>.ok ρ
 |_,_=>.bad
def J1 (G:D->Ev->R Ev)(b:List D->Ev->R Ev):List D->Ev->R Ev
 |d::e,ρ=>(G d ρ).bind λa=>b e a
 |_,_=>.bad
def eU:YO X [] jL:=HL WF<|by
 rintro L σ H Q ⟨b,d,O,ρ,f,a,E,r,e,q⟩;cases r with
 |nil=>cases e;exact⟨rfl,q σ H (Same.refl _) E⟩
 |cons _ _=>cases e
def B5 {e:cu}{es:List cu}{G:D->Ev->R Ev}{g:List D->Ev->R Ev}(l:ML X e G)(m:YO X es g)
  (n:(dC (e::es) X.env).map (·.2)=gc e X.env::(dC es X.env).map (·.2):=by rfl):YO X (e::es) (J1 G g):=HL (RE l m n)<|by
 rintro L σ H Q ⟨h,i,O,ρ,j,f,E,r,e,q⟩;cases r with
 |nil=>cases e
 |@cons v d L j r o=>
  simp only[J1]at e;cases b:G d ρ with
  |ok a=>rw[b]at e;exact⟨v,L,rfl,h,i,O,ρ,d,a,E,r,b,λp z k s=>⟨h,i,O,a,j,f,s,o.same k,e,λt u w y=>q t u (k.trans w) y⟩⟩
  |ex x=>rw[b]at e;cases e
  |bad=>rw[b]at e;cases e
def cU (n:Nat)(b:List D->Ev->R Ev):D->Ev->R Ev
 |.tup a,ρ=>if a.length=n then b a ρ else .bad
 |.lst a,ρ=>if a.length=n then b a ρ else .bad
 |_,_=>.bad
end
section
theorem tR (f:t≠it):∀(n i:Nat) (s:a9) (Q:List ao->a9->Prop),s.heap.IsListIter it t i->s.heap.IsList t items->i+n<=items.size->
  (∀h',h'.IsListIter it t (i+n)->Heap.SameBut it s.heap h'->Q ((items.toList.drop i).take n) {s with heap:=h'})->aA (be prog w) A (draw (.ref it) n) Q E s
 |0,i,s,Q,a,_,_,e=>by show aA _ _ (pure []) Q E s;exact aAb (by simpa using e s.heap a (aGx ..))
 |n+1,i,s,Q,a,g,l,e=>by
  have h:i<items.size:=by omega
  show aA _ _ (fb (.ref it)>>=_) Q E s;refine aAa (wpAny_pyNext_list_item a g (x:=items[i]) (by simp[h]) λj b k=>?_);refine aAa (aAY (tR f n (i+1) _ _ b (g.extBut k.extBut f) (by omega) λm d o=>aAb ?_));have p:items.toList.drop i=items[i]::items.toList.drop (i+1):=by simp[aDL,h]
  have:=e m (by rw[show i+(n+1)=i+1+n by omega];exact d) (k.trans o);rw[p,List.take_succ_cons]at this;exact this
def kU {Q:List ao->a9->Prop}(n:A.handled=none)(g:s.heap.IsList t items)(p:∀h',Heap.ExtBut s.heap.objs.size s.heap h'->Q items.toList {s with heap:=h'}):aA (be prog w) A (unpackItems (.ref t) items.size none) Q E s:=by
 have k:t≠s.heap.objs.size:=by obtain⟨o,h,_⟩:=g;exact aAn (aAg h)
 unfold unpackItems;refine aAa ?_
 .unfold notIterableAtAll;refine aAa (aBC g.typeIs slot_list_iter.lookup ?_);refine aAb ?_;simp only[aAu,if_false];refine aAa (aAY<|aDF g ?_);have a:(s.heap.push {cls:=.type "list_iterator",data:=.fields #[.ref t,.int 0 0]}).IsList t items:=by obtain⟨o,h,r⟩:=g;exact⟨o,aAc _ h,r⟩
  refine aAa (aAY (tR k items.size 0 _ _ ⟨_,aAr _ rfl,rfl,rfl⟩ a (by omega) λd f l=>?_));have q:List.take items.size (List.drop 0 items.toList)=items.toList:=by rw[aGf];exact aDn (by simp)
  rw[q];rw[h9 (by simp)];have i:d.IsList t items:=a.extBut l.extBut k;refine aAa (aAY (wpAny_pyNext_list_end n f i (by simp) λu j=>?_));simp only[Option.isSome_none,aAu,if_false];refine aAb (p u λb o m e=>j b o m (l.extBut b o m<|aAc _ e))
def jM {d}{Q:Unit->a9->Prop}(e:A.handled=none)(f:s.heap.IsList t items)(g:(dC a env).length=items.size)(b:(dC a env).findIdx? (·.1)=none)(h:∀h',Heap.ExtBut s.heap.objs.size s.heap h'->aA (be prog w) A (assignInOrder ((dC a env).map (·.2)) items.toList) Q E {s with heap:=h'}):
  aA (be prog w) A (gc (.Tuple a d i) env (.ref t)) Q E s:=by
 rw[assign_Tuple];refine aAa (aEw ?_);unfold unpack;rw[g,b];exact aAa (aAY<|kU e f h)
end
section
def jW (A:X.calm=true)(h:YO X es T)(B:(dC es X.env).length=n:=by rfl)(C:(dC es X.env).findIdx? (·.1)=none:=by rfl):ML X (.Tuple es k U) (cU n T):=by
 rintro f s σ H v u Q I r ⟨J,N,O,ρ,d,g,E,Y,e,q⟩;cases Y with
 |@tup a L l m i=>
  cases r;simp only[cU]at e;split at e
  .rename_i p;obtain⟨t,j,w,hz⟩:=I.tuple m;refine assign_Tuple_tuple (I.ok.hd A) w (by simp[B,<-p,<-i.length,j.length]) C λx y=>?_;have z:Inv X f σ H {s with heap:=x}:=I.kept (t':=s.toks) λb o e=>y b o (aAn<|aAg e) e;exact h f _ σ H L _ Q z (by simpa using j) ⟨J,N,O,ρ,l,g,E,i,e,q⟩
  .cases e
 |@lst a L l m _ i=>
  cases r;simp only[cU]at e;split at e
  .rename_i p;obtain⟨t,j,w,hz⟩:=I.list m;refine jM (I.ok.hd A) w.isList (by simp[B,<-p,<-i.length,j.length]) C λx y=>?_;have z:Inv X f σ H {s with heap:=x}:=I.kept (t':=s.toks) λb o e=>y b o (aAn<|aAg e) e;exact h f _ σ H L _ Q z (by simpa using j) ⟨J,N,O,ρ,l,g,E,i,e,q⟩
  .cases e
 |_=>cases e
def OP (f:Ev->R D)(G:D->Ev->R Ev):Ev->R Out:=λρ=>(f ρ).bind λd=>match G d ρ with
 |.ok a=>.ok (.nx a)
 |_=>.bad
def JC (m:PD X e f)(n:ML X a G)(o:gn [a] e g.line X.env=pure false:=by rfl)(p:gv [a] e X.env=pure none:=by rfl)(t:(dC [a] X.env).map (·.2)=[gc a X.env]:=by rfl):rP X (.Assign [a] e g) (OP f G):=λj k=>DK (SU m n o p t) λD σ H O ρ E u q=>⟨j,k,O,ρ,E,by
 unfold OP at q;cases h:f ρ with
 |ok d=>
  rw[h,R.aa0]at q;intro v l s r;cases b:G d ρ with
  |ok i=>rw[b]at q;exact⟨j,k,O,ρ,d,i,E.grow s,r,b,λw y z A=>q w y O A u (Kp.of<|s.trans z)⟩
  |ex x=>rw[b]at q;exact aAm q
  |bad=>rw[b]at q;exact aAm q
 |ex x=>rw[h]at q;exactλl s=>q l (E.same.trans s)
 |bad=>rw[h]at q;exact q⟩
def RW (i j:Nat){e g FP}(o:X.calm=true)(p:X.N.Nodup)(t:NP X [a,b] f)(u:X.N[i]?=some x:=by rfl)(w:X.N[j]?=some y:=by rfl)(z:i≠j:=by decide)(A:X.env.scope.names.lookup x=some .local:=by rfl)(B:X.env.scope.names.lookup y=some .local:=by rfl)(C:gv [.Tuple [.Name x m,.Name y n] e pt] (.Tuple [a,b] g FP) X.env=pure (some [x,y]):=by rfl)(I:gn [.Tuple [.Name x m,.Name y n] e pt] (.Tuple [a,b] g FP) h.line X.env=pure false:=by rfl):
  rP X (.Assign [.Tuple [.Name x m,.Name y n] e pt] (.Tuple [a,b] g FP) h) (λρ=>(f ρ).bind λds=>match ds with
   |[d,d']=>.ok (.nx ((ρ.set i (.v d)).set j (.v d')))
   |_=>.bad):=λJ Q=>DK (ik o p u w z A B t C I) λD σ H O ρ E T q=>⟨J,Q,O,ρ,E,by
 cases k:f ρ with
 |ok ds=>
  rw[k,R.aa0]at q;intro L l s r;cases r with
  |nil=>exact aAm q
  |cons U r=>
   cases r with
   |nil=>exact aAm q
   |cons Y r=>
    cases r with
    |nil=>exact⟨_,_,rfl,q _ l O (((E.grow s).set i U).set j Y) T (Kp.of s)⟩
    |cons _ _=>exact aAm q
 |ex x=>rw[k]at q;exactλl s=>q l (E.same.trans s)
 |bad=>rw[k]at q;exact q⟩
def X9 (G:D->Ev->R Ev)(F:Ev->R Out):List D->Ev->R Out
 |[],ρ=>.ok (.nx ρ)
 |d::e,ρ=>match G d ρ with
  |.ok b=>match F b with
   |.ok (.nx a)=>X9 G F e a
   |.ok (.ct a)=>X9 G F e a
   |.ok (.bk a)=>.ok (.nx a)
   |r=>r
  |_=>.bad
def Y4 (hp:PassesOwn (be X.prog X.w) X.A X.env X.xe)(hc:X.calm=true)(hi:ZV X tg A7 f)(hg:ML X tg G)(hb:bV X body F)(hs:∀x,eQ A7 X.env x=pure x:=by intro _;rfl):rP X (.For tg A7 body [] pos) (λρ=>(f ρ).bind λds=>X9 G F ds ρ):=λk l=>DK (bq hp hc hi hg (hb k l) hs) λD σ H O ρ E fk q=>⟨k,l,O,ρ,E,fk,by
 cases Q:f ρ with
 |ex x=>rw[Q]at q;exactλj s=>q j (E.same.trans s)
 |bad=>rw[Q]at q;exact q
 |ok ds=>
  rw[Q,R.aa0]at q;intro J H1 T hJ;refine⟨λi m U j=>m=ds.length-i/\i<=ds.length/\∃g h,EnvOk X.K k l j g U h/\aX X.K g/\Kp H1 O j g/\RS X k l j g (X9 G F (ds.drop i) h) D,⟨ds.length,by simp,aAX _,O,ρ,E.grow T,fk,Kp.refl _ _,?_⟩,?_⟩
  .rw[aGf];exact q.grow (Kp.of T)
  .rintro i m U j ⟨rfl,hi,g,h,Y,n,k',a⟩;have z:=hJ j g k' n (E.grow T).trk Y.trk i;by_cases ah:i<ds.length
   .obtain⟨go,yl⟩:=z.1 ds[i] (aAh ah);refine .inr ⟨go,λuu v=>∃L b,EnvOk X.K k l v L uu b/\aX X.K L/\Kp H1 O v L/\RS X k l v L (X9 G F (ds.drop<|i+1) b) D,λuu v p=>⟨ds.length-(i+1),by omega,rfl,ah,p⟩,λx v y=>?_⟩;obtain⟨s2,r2⟩:=yl x v y;rw[aDL ah,X9]at a;cases N:G ds[i] h with
    |ex x=>rw[N]at a;exact(show False from a).elim
    |bad=>rw[N]at a;exact(show False from a).elim
    |ok r=>
     rw[N]at a;dsimp only at a;refine⟨k,l,g,h,ds[i],r,Y.grow s2,r2,N,λph H3 s3 E3=>⟨g,r,E3,n,?_⟩⟩;have kk:Kp j g H3 g:=Kp.of (s2.trans s3);cases e3:F r with
     |ex x=>rw[e3]at a;exact a
     |bad=>rw[e3]at a;exact a
     |ok o=>
      rw[e3]at a;cases o with
      |nx b=>exactλt H4 B C I u=>⟨B,b,C,I,k'.trans (kk.trans u),RS.grow a (kk.trans u)⟩
      |ct b=>exactλt H4 B C I u=>⟨B,b,C,I,k'.trans (kk.trans u),RS.grow a (kk.trans u)⟩
      |bk b=>exactλt H4 B C I u=>a t H4 B C I (kk.trans u)
      |rt d=>exact a
   .have e:i=ds.length:=by omega
    subst e;rw[List.drop_length,X9]at a;exact .inl ⟨z.2 (by simp),a U j g Y n (Kp.refl _ _)⟩⟩
def S9 (c:Ev->R Bool)(F:Ev->R Out):Nat->Ev->R Out
 |0,_=>.bad
 |n+1,ρ=>(c ρ).bind λb=>if b=true then(match F ρ with
  |.ok (.nx a)=>S9 c F n a
  |.ok (.ct a)=>S9 c F n a
  |.ok (.bk a)=>.ok (.nx a)
  |r=>r)else .ok (.nx ρ)
def lS (n:Ev->Nat)(Y:PassesOwn (be X.prog X.w) X.A X.env X.xe)(hc:MN X c y)(hb:bV X body F):rP X (.While c body [] pos) (λρ=>S9 y F (n ρ) ρ):=λi j=>DK (UH Y hc<|hb i j) λD σ H O ρ E fk q=>by
 refine⟨λm I z=>∃f e,EnvOk X.K i j z f I e/\aX X.K f/\RS X i j z f (S9 y F m e) D,⟨n ρ,O,ρ,E,fk,q⟩,?_⟩;rintro m I z ⟨f,e,B,l,a⟩;cases m with
 |zero=>exact(show False from a).elim
 |succ m=>
  rw[S9]at a;refine⟨i,j,f,e,B,?_⟩;cases J:y e with
  |ex x=>rw[J]at a;exactλC k=>a C (B.same.trans k)
  |bad=>rw[J]at a;exact a
  |ok b=>
   rw[J,R.aa0]at a;intro C k;cases b with
   |false=>rw[h9 aBc]at a⊢;exact a I C f (B.grow k) l (Kp.of k)
   |true=>
    rw[hV rfl]at a⊢;refine⟨λU L=>∃N r,EnvOk X.K i j L N U r/\aX X.K N/\RS X i j L N (S9 y F m r) D,λU L p=>⟨m,aDO m,p⟩,f,e,B.grow k,l,?_⟩;have kk:Kp z f C f:=Kp.of k;cases Q:F e with
    |ex x=>rw[Q]at a;exact a
    |bad=>rw[Q]at a;exact a
    |ok o=>
     rw[Q]at a;cases o with
     |nx g=>exactλh T s t u v=>⟨s,g,t,u,RS.grow a (kk.trans v)⟩
     |ct g=>exactλh T s t u v=>⟨s,g,t,u,RS.grow a (kk.trans v)⟩
     |bk g=>exactλh T s t u v=>a h T s t u (kk.trans v)
     |rt d=>exact a
end
def spD (K:iu)(n:Nat)(m:List D->R D):Sp:=λL H Q _=>∃O b d,Reps K H O L b/\b.length=n/\(∀a,O a->∃o,H a=some o/\Mt o)/\Tb H/\aX K O/\m b=.ok d/\∀v e,Same H e->Rep K e O v d->Q v e
def l6 (N:List Str)(ds:List D):Ev:=ds.map Sl.v++aCT (N.length-ds.length) Sl.no
def O6:R Out->R D
 |.ok (.rt d)=>.ok d
 |.ok (.nx _)=>.ok .non
 |.ex e=>.ex e
 |_=>.bad
def tV {K:iu}{H:Hp}{O:bb->Prop}{N:List Str}{L:List V}{ds:List D}(r:Reps K H O L ds)(t:∀a,O a->∃o,H a=some o/\Mt o)(tb:Tb H):EnvOk K H O H O (start N L) (l6 N ds)where
 len:=by simp[L2.start,l6,r.length]
 same:=Same.refl H
 sub:=λ_ h=>h
 trk:=t
 trk0:=λa h=>let⟨o,q,_⟩:=t a h;⟨o,q⟩
 tab:=tb
 slot:=λi g h=>by
  unfold l6 at h;unfold L2.start;by_cases b:i<ds.length
  .rw[aAZ (by simpa using b),aAK]at h;cases e:ds[i]? with
   |none=>rw[e]at h;cases h
   |some d=>rw[e]at h;have f:Sl.v d=g:=Option.some.inj h;subst f;obtain⟨v,k,l⟩:=r.get e;exact⟨v,by rw[aAZ (by rw[aAf,r.length];exact b),aAK,k];rfl,l⟩
  .rw[aAz (by simpa using b),aBy]at h;split at h
   .cases h;trivial
   .cases h
 inj:=λi j x y a h _ o=>by
  unfold l6 at h;by_cases b:i<ds.length
  .rw[aAZ (by simpa using b),aAK]at h;cases e:ds[i]? with
   |none=>rw[e]at h;cases h
   |some d=>rw[e]at h;have f:Sl.v d=x:=Option.some.inj h;subst f;exact o.elim
  .rw[aAz (by simpa using b),aBy]at h;split at h
   .cases h;exact o.elim
   .cases h
section
variable{K:iu}
abbrev UX (P:bt)(w:cp)(K:iu)(mg:dS)(base:cq)(N:List Str)(qual:Str)(sc:gW)(f:bb)(T:ao)(A:cf)(a:List Env)(s:a9)(H:Hp)(E:XK):Cx:=(FY vU P w K mg base N qual sc f T A a s H E).nox
def fnD {x qual:Str}{st:cv}{f:bb}{fd:dn}{N ps:List Str}{k:Nat}{m:List D->R D}{F:Ev->R Out}(j:Fun K x qual st f fd)(S:FnScope N ps (c8 st))
  (l:∀(T:ao) (A:cf) (a:List Env) (s:a9) (H:Hp) (E:XK),Room k (A.deeper (envOfC qual (c8 st) s.heap.objs.size f T))->bV (UX P w K mg base N qual (c8 st) f T A a s H E) (u7 st) F)
  (n:∀ds d,ds.length=ps.length->m ds=.ok d->O6 (F (l6 N ds))=.ok d):FnOk P w K mg base vU (k+1) f fd ps (spD K ps.length m):=by
 refine j.ok S (by rintro L H Q E ⟨O,ds,d,r,g,_⟩;rw[r.length];exact g) (λT A a s H L Q E p t=>?_);obtain⟨O,ds,d,r,g,u,v,y,e,q⟩:=t;refine⟨_,l T A a s H E p H O,O,_,tV r u v,y,?_⟩;have h:=n ds d g e;cases i:F (l6 N ds)with
 |ok o=>
  rw[i]at h;cases o with
  |rt z=>have b:R.ok z=R.ok d:=h;injection b with b;subst b;exact q
  |nx ρ=>have b:R.ok D.non=R.ok d:=h;injection b with b;subst b;exactλI B J C _ _=>q .non B C.same .non
  |bk ρ=>cases h
  |ct ρ=>cases h
 |ex x=>rw[i]at h;cases h
 |bad=>rw[i]at h;cases h
end
section
def xT (I:Inv X b σ H s)(O:bb->Prop)(t:∀a,O a->∃o,H a=some o/\Mt o):aX X.K O:=λa o d z=>by obtain⟨u,h,_⟩:=t a z;have:=(I.bs a o<|I.ok.mod.kin a o d).2;rw[h]at this;cases this
def VX (F:FnOk X.prog X.w X.K X.mg X.base vU k g o ps (spD X.K n m))(r:Room k X.A)(t:X.mg x=some (.ref g))(u:PySem.W.keepIn X.K (.ref g)=true)(y:Binds X.K o ps [])(B:NP X (e::es) f)(C:∀ρ ds,f ρ=.ok ds->ds.length=n)(J:Gl X x:=by rfl)(N:(x==ix)=false:=by decide)(T:ba (e::es) X.env=(false,dm e X.env)::ba es X.env:=by rfl)(U:(cy i (ba es X.env)).any (·.1)=false:=by rfl):
  PD X (.Call (.Name x p) (e::es) [] i) (λρ=>(f ρ).bind m):=by
 refine zR λa s σ H Q I Y O0 O ρ E q=>?_;refine XY F r J t u y .nil a2l B N T U a s σ H Q I ⟨Y,O0,O,ρ,E,?_⟩;dsimp only at q;cases b:f ρ with
 |ex z=>rw[b]at q;exact q
 |bad=>rw[b]at q;exact q
 |ok ds=>
  rw[b,R.aa0]at q;intro L H1 j r1;rw[aCs];have l:=E.grow j;cases h:m ds with
  |ex z=>rw[h]at q;exact(q H<|Same.refl _).elim
  |bad=>rw[h]at q;exact q.elim
  |ok d=>rw[h]at q;refine⟨O,ds,d,r1,C ρ ds b,l.trk,l.tab,?_,h,λv H' s2 r2=>q v H' (j.trans s2) r2⟩;exact xT I O E.trk
end
def MJ (env:Env):List (Str×d7)->List (Str×bb)->List (Str×bb)
 |[],B=>B
 |(n,k)::r,B=>MJ env r (if k=.free then(n,(env.cells.lookup n).getD 0)::B else B)
def gI (h:∀y∈d.names,y.2=.free->∃c,env.cells.lookup y.1=some c):closureFor d env=pure (MJ env d.names []):=by
 have p:∀(b:List (Str×d7)) (B:List (Str×bb)),(∀y∈b,y.2=.free->∃c,env.cells.lookup y.1=some c)->
   (forIn b B λ(x:Str×d7) (r:List (Str×bb))=>(match x with
    |(f,g)=>if(g==NameKind.free)=true then(do let a<-cellOf env f;pure (aCr ((f,a)::r)))else pure (aCr r):Sem (ForInStep<|List<|Str×bb)))=pure (MJ env b B):=by
  intro b;induction b with
  |nil=>intro B _;rfl
  |cons y r m=>
   intro B i;obtain⟨n,k⟩:=y;rw[aDb];by_cases j:k=.free
   .subst j;obtain⟨c,o⟩:=i (n,.free) aBn rfl;have e:cellOf env n=pure c:=by unfold cellOf;rw[o]
    simp only[beq_self_eq_true,if_true,e,pure_bind];rw[m _ λz l=>i z (aAe _ l)];simp[MJ,o]
   .have q:(k==NameKind.free)=false:=by simpa using j
    simp only[q,aAu,if_false,pure_bind];rw[m _ λz l=>i z (aAe _ l)];simp[MJ,j]
 have e:=p d.names [] h;show((forIn d.names ([]:List (Str×bb)) λ(x:Str×d7) (r:List (Str×bb))=>(match x with
    |(f,g)=>if(g==NameKind.free)=true then(do let a<-cellOf env f;pure (aCr ((f,a)::r)))else pure (aCr r):Sem (ForInStep<|List<|Str×bb)))>>=λs=>pure s)=_
 rw[e];rfl
theorem yX:∀(names:List (Str×d7)) (B:List (Str×bb)) {x:Str} {c:bb},(∀y∈names,y.2=.free->∃c,env.cells.lookup y.1=some c)->(∀x c,B.lookup x=some c->env.cells.lookup x=some c)->
  (MJ env names B).lookup x=some c->env.cells.lookup x=some c
 |[],B,x,c,_,b,h=>b x c h
 |(n,k)::r,B,x,c,f,b,h=>by
  refine yX r _ (λy l=>f y (aAe _ l)) (λd g a=>?_) h;by_cases e:k=.free
  .rw[hV e]at a;obtain⟨c0,i⟩:=f (n,k) aBn e;by_cases j:d=n
   .subst j;rw[aBM]at a;rw[i]at a;rw[i];exact a
   .rw[aBj,beq_eq_false_iff_ne.mpr j]at a;exact b d g a
  .rw[h9 e]at a;exact b d g a
theorem wK:∀(names:List (Str×d7)) (B:List (Str×bb)) {x:Str},((x,NameKind.free)∈names\/∃c,B.lookup x=some c)->∃c,(MJ env names B).lookup x=some c
 |[],B,x,h=>by
  rcases h with h|h
  .cases h
  .exact h
 |(n,k)::r,B,x,h=>by
  refine wK r _ ?_;rcases h with h|⟨c,h⟩
  .rcases aAd.mp h with e|h
   .cases e;right;rw[hV rfl,aBM];exact⟨_,rfl⟩
   .exact .inl h
  .right;by_cases a:k=.free
   .rw[hV a,aBj];cases(x==n)with
    |true=>exact⟨_,rfl⟩
    |false=>exact⟨c,h⟩
   .rw[h9 a];exact⟨c,h⟩
theorem jN {env:Env}:∀{names:List (Str×d7)} {x:Str},
  ((names.map λ(n,k)=>if(k==NameKind.free&&env.scope.kind==.function&&env.kindOf n==some .cell)then(n,aCc)else(n,k)).lookup x=some .cell\/
   (names.map λ(n,k)=>if(k==NameKind.free&&env.scope.kind==.function&&env.kindOf n==some .cell)then(n,aCc)else(n,k)).lookup x=some .free)->(x,NameKind.free)∈names\/names.lookup x=some .cell
 |[],_,h=>by rcases h with h|h<;>cases h
 |(n,k)::r,x,h=>by
  have d:=@jN env r x;rw[aAi]at h;dsimp only at h;by_cases b:x=n
  .subst b;by_cases a:(k==NameKind.free&&env.scope.kind==.function&&env.kindOf x==some .cell)=true
   .have e:k=.free:=by rw[aAQ,aAQ]at a;simpa using a.1.1
    subst e;exact .inl aBn
   .rw[h9 a,aBM]at h;rcases h with h|h
    .right;rw[aBM];exact h
    .have:k=.free:=Option.some.inj h;subst this;exact .inl aBn
  .have f:(r.map λ(n,k)=>if(k==NameKind.free&&env.scope.kind==.function&&env.kindOf n==some .cell)then(n,aCc)else(n,k)).lookup x=some .cell\/
     (r.map λ(n,k)=>if(k==NameKind.free&&env.scope.kind==.function&&env.kindOf n==some .cell)then(n,aCc)else(n,k)).lookup x=some .free:=by
    by_cases a:(k==NameKind.free&&env.scope.kind==.function&&env.kindOf n==some .cell)=true
    .rw[hV a,aBj,beq_eq_false_iff_ne.mpr b]at h;exact h
    .rw[h9 a,aBj,beq_eq_false_iff_ne.mpr b]at h;exact h
   rcases d f with h|h
   .exact .inl (aAe _ h)
   .right;rw[aBj,beq_eq_false_iff_ne.mpr b];exact h
theorem qK:∀(names:List (Str×d7)) (h:cq) (B:List (Str×bb)) {x:Str} {c:bb},(dA h.objs.size names B).lookup x=some c->B.lookup x=some c\/((pushCells h names).IsCell c none/\h.objs.size<=c)
 |[],h,B,x,c,e=>.inl e
 |(n,k)::r,h,B,x,c,e=>by
  unfold dA at e;unfold pushCells;split at e
  .rename_i b;rw[hV b];rcases qK r (h.push {cls:=.type "cell",data:=.cell none}) ((n,h.objs.size)::B) (x:=x) (c:=c) (by rw[aBH];exact e)with a|⟨a,d⟩
   .rw[aBj]at a;cases f:(x==n)with
    |true=>rw[f]at a;have g:h.objs.size=c:=Option.some.inj a;subst g;exact .inr ⟨⟨_,aEC _ _ _ _ (aAr _ rfl),rfl⟩,aAj _⟩
    |false=>rw[f]at a;exact .inl a
   .exact .inr ⟨a,by rw[aBH]at d;exact aCI d⟩
  .rename_i b;rw[h9 b];exact qK r h B e
theorem lG:∀(names:List (Str×d7)) (n:Nat) (B:List (Str×bb)) {x:Str} {c:bb},(dA n names B).lookup x=some c->B.lookup x=some c\/n<=c
 |[],n,B,x,c,e=>.inl e
 |(m,k)::r,n,B,x,c,e=>by
  unfold dA at e;split at e
  .rcases lG r (n+1) _ e with a|a
   .rw[aBj]at a;cases b:(x==m)with
    |true=>rw[b]at a;exact .inr (aEj (Option.some.inj a))
    |false=>rw[b]at a;exact .inl a
   .exact .inr (aCI a)
  .exact lG r n B e
theorem rF:∀(names:List (Str×d7)) (n:Nat) (B:List (Str×bb)) {x:Str} {c:bb},(x,aCc)∈names->(dA n names B).lookup x=some c->n<=c
 |[],n,B,x,c,a,e=>nomatch a
 |(m,k)::r,n,B,x,c,a,e=>by
  unfold dA at e;rcases aAd.mp a with a|a
  .cases a;rw[hV (show(aCc==aCc)=true from rfl)]at e;rcases lG r (n+1) _ e with b|b
   .rw[aBM]at b;exact aEj (Option.some.inj b)
   .exact aCI b
  .split at e
   .exact aCI (rF r (n+1) _ a e)
   .exact rF r n B a e
theorem pC:∀(names:List (Str×d7)) (n:Nat) (B:List (Str×bb)) {x:Str},(x,aCc)∉names->(dA n names B).lookup x=B.lookup x
 |[],n,B,x,_=>rfl
 |(m,k)::r,n,B,x,a=>by
  unfold dA;split
  .rename_i b;rw[pC r (n+1) _ λz=>a (aAe _ z),aBj];cases d:(x==m)with
   |true=>
    have e:x=m:=by simpa using d
    have f:k=.cell:=by simpa using b
    exact absurd (by rw[e,f];exact aBn) a
   |false=>rfl
  .exact pC r n B λz=>a (aAe _ z)
theorem kZ:∀(names:List (Str×d7)) (n:Nat) (B:List (Str×bb)),(∀x c,B.lookup x=some c->c<n)->(∀x y c,B.lookup x=some c->B.lookup y=some c->x=y)->
  ∀x y c,(dA n names B).lookup x=some c->(dA n names B).lookup y=some c->x=y
 |[],n,B,_,h=>h
 |(m,k)::r,n,B,g,h=>by
  unfold dA;split
  .refine kZ r (n+1) _ (λx c e=>?_) λx y c b a=>?_
   .rw[aBj]at e;cases d:(x==m)with
    |true=>rw[d]at e;rw[<-Option.some.inj e];exact aDO _
    |false=>rw[d]at e;exact aBI (g x c e)
   .rw[aBj]at b a;cases d:(x==m)with
    |true=>
     rw[d]at b;cases f:(y==m)with
     |true=>rw[show x=m by simpa using d,show y=m by simpa using f]
     |false=>rw[f]at a;rw[<-Option.some.inj b]at a;exact absurd (g y _ a) (aBs _)
    |false=>
     rw[d]at b;cases f:(y==m)with
     |true=>rw[f]at a;rw[<-Option.some.inj a]at b;exact absurd (g x _ b) (aBs _)
     |false=>rw[f]at a;exact h x y c b a
  .exact kZ r n B g h
abbrev cO (X:Cx)(a:gW)(C:bb):List (Str×bb):=dA (C+1) a.names (MJ X.env a.names [])
def JH {E:G0}{Q:Env->a9->Prop}(h:Q (newEnv a s.heap.objs.size g (dA (s.heap.objs.size+1) a.names i) q none .none (some env) builtinsNs) {s with heap:=pushCells (s.heap.push {cls:=.type "dict",data:=.dict #[]}) a.names}):
  aA M A (newFunctionEnv a g i [] q none .none (some env)) Q E s:=by
 simp only[newFunctionEnv,Option.isSome_some,if_true];refine aAa (wpAny_alloc ?_);refine aAa (wpAny_layCells _ (λf b d=>by cases e:b==aCc<;>simp[e]) _ _ _ _ ?_);rw[show({s with heap:=s.heap.push {cls:=.type "dict",data:=.dict #[]}}:a9).heap.objs.size=s.heap.objs.size+1 from aBH ..];exact aAa (aAb<|aAb h)
def KM {R:Result->a9->Prop}(I:Nat->a9->Prop)(turn:∀n s,I n s->aA (be prog w) A (fb it) (λr j=>match r with
   |none=>R (.ok .next) j
   |some v=>aA (be prog w) A (letOwnedTupleGo a it v) (λ_ f=>aA (be prog w) A (gc a env v) (λ_ p=>
    aA (be prog w) A (forIn g true λc r=>if r=true then do let ok<-isTrue c env (dm c env);pure (aCr ok)else pure (aCr r)) (λok k=>
     if ok=true then aA (be prog w) A (dm i env) (λx q=>aA (be prog w) A (call (.builtin "list.append") [B,x]) (λ_ t=>∃m,m<n/\I m t) (λ_ _=>False) q) (λ_ _=>False) k
     else∃m,m<n/\I m k) (λ_ _=>False) p) (λ_ _=>False) f) (λ_ _=>False) j) (λ_ _=>False) s) (n:Nat) (h:I n s):fh (be prog w) A (.compLoop (.ListComp i [⟨a,A7,g,0⟩] e l) 0 it B env) R s:=by
 refine codeAny_loop rfl I (λn s y=>?_) n h;show aA _ A ((compTurn (.ListComp i [⟨a,A7,g,0⟩] e l) 0 it B env).onRaise (λx=>do noteFrame x env;theTreesLotGoes x)) _ _ s;refine wpAny_noted ?_;rw[compTurn_list];refine aAa (aEw<|aAa<|aCH (turn n s y) (λr j d=>?_) λ_ _ b=>b.elim);cases r with
 |none=>exact aAb d
 |some v=>
  refine aAa (aCH d (λ_ f o=>?_) λ_ _ b=>b.elim);refine aAa (aCH o (λ_ p z=>aAa (aCH z (λok k u=>?_) λ_ _ b=>b.elim)) λ_ _ b=>b.elim);cases ok with
  |false=>exact aAb ⟨rfl,u⟩
  |true=>exact aAa (aAa<|aCH u (λx q C=>aAa (aCH C (λ_ t E=>aAb (aAb ⟨rfl,E⟩)) λ_ _ b=>b.elim)) λ_ _ b=>b.elim)
def IN (X:Cx)(pins:R4)(s9:a9)(H9:Hp)(b:List Str)(a:gW)(d:List (Str×bb))(C:bb)(e:List bb):Cx where
 prog:=X.prog
 w:=X.w
 K:=X.K
 mg:=X.mg
 base:=X.base
 A:=X.A
 N:=b
 s9:=s9
 H9:=H9
 env:=compEnvC a d C X.env
 outer:=X.stack
 stack:=X.stack
 ex:=e
 fn:=λx=>a.names.lookup x==some .cell
 calm:=X.calm
 pn:=X.pn++pins
 xe:=λ_ _=>False
structure CompSc (X:Cx)(scope:Scope)(own fr:List Str)(js:List Nat):Prop where
 kind:scope.kind=.function
 apart:∀y∈scope.names,y.2=.free->(y.1,aCc)∉scope.names
 names:∀y∈scope.names,y.2=.local->scope.names.lookup y.1=some .local
 free:∀y∈scope.names,y.2=.free->X.env.kindOf y.1=some .cell\/X.env.kindOf y.1=some .free
 len:js.length=fr.length
 at_:∀(i j:Nat) (x:Str),js[i]?=some j->fr[i]?=some x->X.N[j]?=some x/\(x,NameKind.free)∈scope.names
 nd:js.Nodup
 dis:∀y∈scope.names,y.2=.free->scope.names.lookup y.1=some .free
def seen:Sl->Sl
 |.v d=>.v d
 |.d k=>.d k
 |_=>.no
def j2 (own:List Str)(a:List Nat)(ρ:Ev):Ev:=aCT own.length Sl.no++a.map λj=>seen (ρ.getD j Sl.no)
def U0 (own:List Str)(a:List Nat)(σ:St):St:=aCT own.length none++a.map λj=>σ.getD j none
def Inv.ab7 (I:L2.Inv X b σ H s)(S:CompSc X a own f g):∀y∈a.names,y.2=.free->∃c,X.env.cells.lookup y.1=some c:=
 λy d e=>I.ok.has y.1 (S.free y d e)
def W0 (h:(j2 own l ρ)[i]?=some sl):sl=.no\/∃j,((∃d,sl=.v d)\/∃k,sl=.d k)/\own.length<=i/\l[i-own.length]?=some j/\ρ[j]?=some sl:=by
 unfold j2 at h;by_cases f:i<own.length
 .rw[aAZ (by simpa using f),aBy,hV f]at h;cases h;exact .inl rfl
 .have g:own.length<=i:=aEo f;rw[aAz (by simpa using g),aCt,aAK]at h;cases e:l[i-own.length]? with
  |none=>rw[e]at h;cases h
  |some j=>
   rw[e]at h;have a:seen (ρ.getD j Sl.no)=sl:=Option.some.inj h;rw[aAs]at a;cases b:ρ[j]? with
   |none=>rw[b]at a;subst a;exact .inl rfl
   |some z=>
    rw[b]at a;cases z with
    |v d=>subst a;exact .inr ⟨j,.inl ⟨d,rfl⟩,g,rfl,b⟩
    |d k=>subst a;exact .inr ⟨j,.inr ⟨k,rfl⟩,g,rfl,b⟩
    |_=>subst a;exact .inl rfl
def pQ {σ:St}(a:own.length<=i)(e:b[i-own.length]?=some j)(h:j<σ.length):(U0 own b σ)[i]?=σ[j]?:=by unfold U0;rw[aAz (by simpa using a),aCt,aAK,e];show some (σ.getD j none)=_;rw[aAs,aAh h];rfl
def JZ {K:iu}{l H:Hp}{m O:bb->Prop}{σ:St}{ρ:Ev}{own:List Str}{f:List Nat}(s:f.Nodup)(E:EnvOk K l m H O σ ρ):EnvOk K l m H O (U0 own f σ) (j2 own f ρ):=by
 have lt:∀{j g},ρ[j]?=some g->j<σ.length:=λh=>by rw[E.len];exact(aAC.mp h).1
 refine⟨by simp[U0,j2],E.same,E.sub,E.trk,E.trk0,E.tab,λi g h=>?_,λi v x y a b d o n q p=>?_⟩
 .rcases W0 h with rfl|⟨j,_,k,e,b⟩
  .trivial
  .rw[pQ k e (lt b)];exact E.slot j g b
 .rcases W0 b with rfl|⟨j,_,t,e,b⟩
  .exact o.elim
  rcases W0 d with rfl|⟨u,_,k,r,d⟩
  .exact n.elim
  rw[pQ t e (lt b)]at q;rw[pQ k r (lt d)]at p;have:=E.inj j u x y a b d o n q p;subst this;have:=(List.getElem?_inj (aAC.mp e).1 s).mp (e.trans r.symm)
  lia
def LU (I:L2.Inv X pins σ H s)(S:CompSc X a own fr js)(vm:∀b∈fp,sI X pins H b)(ah:∀b∈fp,b<s.heap.objs.size)(e8:h₁=pushCells (s.heap.push {cls:=.type "dict",data:=.dict #[]}) a.names):
  L2.Inv (IN X pins s H (own++fr) a (cO X a s.heap.objs.size) s.heap.objs.size fp) [] (U0 own js σ) H {s with heap:=h₁,toks:=tk}:=by
 have w:=Inv.ab7 I S;have g:∀b o,s.heap.get? b=some o->h₁.get? b=some o:=λb o e=>by rw[e8];exact aEC _ _ _ _ (aAc _ e)
 have yn:h₁.Ns s.heap.objs.size (λ_=>none):=by rw[e8];exact(Heap.Ns.new s.heap<|.type "dict").keeps (aEC _ _)
 have cc:∀x c,(cO X a s.heap.objs.size).lookup x=some c->(MJ X.env a.names []).lookup x=some c\/(h₁.IsCell c none/\s.heap.objs.size+1<=c):=λx c h=>by have:=qK a.names (s.heap.push {cls:=.type "dict",data:=.dict #[]}) (MJ X.env a.names []) (x:=x) (c:=c) (by rw[aBH];exact h);rw[aBH,<-e8]at this;exact this
 have J:∀x c,(MJ X.env a.names []).lookup x=some c->X.env.cells.lookup x=some c:=λx c h=>yX a.names [] w (λ_ _ z=>(by cases z)) h;have l:∀b o,X.base.get? b=some o->b∉fp:=λb o e B=>by
  rcases(vm b B).2.2.2.1 with z|z
  .exact I.ok.noex b o e z
  .exact absurd (aAv (aAg e)<|aAl I.ok.bsz z) (aBs _)
 have nfs:∀b∈fp,b∉AM X.stack:=λb B z=>by
  rcases aAd.mp (I.ab6 b z)with e|z
  .exact(vm b B).2.1 e
  .exact(vm b B).2.2.1 z
 have A:∀x c,X.env.cells.lookup x=some c->c<s.heap.objs.size+1:=λx c h=>by obtain⟨v,o,Q,_⟩:=I.cell x c h;exact aBI (aAg Q)
 have has:∀x,((relabel a X.env).names.lookup x=some .cell\/(relabel a X.env).names.lookup x=some .free)->∃c,(cO X a s.heap.objs.size).lookup x=some c:=λx N=>by
  have:((cO X a s.heap.objs.size).lookup x).isSome=true:=PySem.W.cellsFrom_some _ _ _ (by
   rcases jN N with h|h
   .obtain⟨c,hc⟩:=wK (env:=X.env) a.names [] (x:=x) (.inl h);exact .inr (by rw[hc];rfl)
   .exact .inl h)
  exact aFo.mp this
 refine⟨⟨I.ok.mod,S.kind,I.ok.glob,I.ok.blt,aAj _,kZ a.names _ _ (λx c h=>A x c (J x c h)) (λx y c h1 C=>I.ok.inj x y c (J x c h1) (J y c C)),has,λx c hf h=>aCI (rF a.names _ _ (PySem.mem_of_lookup<|eq_of_beq hf) h),I.ok.hd,I.ok.frames,.inl rfl,
  λb B=>⟨aAn (ah b B),λx c h=>(cc x c h).elim (λh=>(vm b B).2.2.2.2.1 x c (J x c h)) λ⟨_,C⟩ z=>absurd (aAv (ah b B)<|aCI C) (by rw[z];exact aBs _)⟩,I.bs,aAl I.ok.bsz I.sz,λb o e=>l b o e,nfs,I.stack,I.ad4⟩,rfl,I.bare,Un.kept g,⟨_,yn,λi x v e1 E L=>?_⟩,λx c h=>?_,I.hok.fresh (aAj _),λx c h=>(cc x c h).elim (λh=>I.freeC x c (J x c h)) λ⟨_,C⟩=>I.hok.fresh (aCI C),λp hp=>?_,I.hok.kept g,?_⟩
 .
  have hlen:(own++fr).length=(U0 own js σ).length:=by simp[U0,S.len]
  unfold U0 at E;by_cases hi:i<own.length
  .rw[aAZ (by simpa using hi),aBy,hV hi]at E;cases E
  .have dc:own.length<=i:=aEo hi;rw[aAz (by simpa using dc),aCt,aAK]at E;have T:(own++fr)[i]?=some x:=e1;rw[aAz dc]at T;cases e:js[i-own.length]? with
   |none=>rw[e]at E;cases E
   |some j=>
    rw[e]at E;have q:σ.getD j none=some v:=Option.some.inj E;obtain⟨hN,jn⟩:=S.at_ (i-own.length) j x e T;have hσ:σ[j]?=some (some v):=by
     rw[aAs]at q;cases e4:σ[j]? with
     |none=>rw[e4]at q;cases q
     |some z=>rw[e4]at q;exact ip some q
    have O:=S.free (x,.free) jn rfl;have U:HD X.env.scope x:=.inr O;obtain⟨m,hn,hl⟩:=I.loc;obtain⟨u,r,lk⟩:=hl j x v hN hσ U;refine⟨u,r,?_⟩;rcases lk with⟨kl,_⟩|⟨_,c,hc,ig⟩
    .rcases O with O|O<;>(rw[kl]at O;cases O)
    .right;obtain⟨c',Y⟩:=wK (env:=X.env) a.names [] (x:=x) (.inl jn);have:=J x c' Y;rw[hc]at this;cases this;refine⟨?_,c,(pC a.names _ _<|S.apart (x,.free) jn rfl).trans Y,?_⟩
     .rcases L with L|L|L
      .
       have hq:(relabel a X.env).names.lookup x=some .local:=L;exfalso;have:∀f:List (Str×d7),(f.map λ(n,k)=>if(k==NameKind.free&&X.env.scope.kind==.function&&X.env.kindOf n==some .cell)then(n,aCc)else(n,k)).lookup x=some .local->f.lookup x=some .local:=by
        intro f;induction f with
        |nil=>intro h;cases h
        |cons y r ih=>
         obtain⟨n,k⟩:=y;intro h;rw[aAi]at h;dsimp only at h;by_cases N:x=n
         .subst N;by_cases t:(k==NameKind.free&&X.env.scope.kind==.function&&X.env.kindOf x==some .cell)=true
          .rw[hV t,aBM]at h;cases h
          .rw[h9 t,aBM]at h;rw[aBM];exact h
         .rw[aBj,beq_eq_false_iff_ne.mpr N];by_cases t:(k==NameKind.free&&X.env.scope.kind==.function&&X.env.kindOf n==some .cell)=true
          .rw[hV t,aBj,beq_eq_false_iff_ne.mpr N]at h;exact ih h
          .rw[h9 t,aBj,beq_eq_false_iff_ne.mpr N]at h;exact ih h
       have C:=this a.names hq;rw[S.dis (x,.free) jn rfl]at C;cases C
      .exact .inl L
      .exact .inr L
     .obtain⟨o,Q,hd⟩:=ig;exact⟨o,g c o Q,hd⟩
 .rcases cc x c h with h|⟨h,_⟩
  .obtain⟨v,o,Q,hd⟩:=I.cell x c (J x c h);exact⟨v,o,g c o Q,hd⟩
  .exact⟨_,h⟩
 .have hp':p∈X.pn++pins:=by simpa[IN]using hp
  obtain⟨e,n,ne,nf,d⟩:=I.pin p hp';refine⟨g _ _ e,n,aAn (aAg e),λz=>?_,d⟩;rcases aAd.mp (I.ab6 p.1 z)with e'|z'
  .exact ne e'
  .exact nf z'
 .simp[U0,IN,S.len]
def z8 (G:D->Ev->R Ev)(ft:Ev->R Bool)(fe:Ev->R D)(ρ:Ev):List D->R (List D)
 |[]=>.ok []
 |d::e=>match G d ρ with
  |.ok a=>(ft a).bind λb=>if b=true then(fe a).bind λr=>(z8 G ft fe ρ e).bind λf=>.ok (r::f)else z8 G ft fe ρ e
  |_=>.bad
def lU (ρ1 ρ:Ev):Prop:=ρ1.length=ρ.length/\∀(i:Nat) (a:Sl),ρ[i]?=some a->a≠.no->ρ1[i]?=some a
def EnvOk.weak {K:iu}{b H:Hp}{d O:bb->Prop}{σ:St}{ρ1 ρ:Ev}(E:EnvOk K b d H O σ ρ1)(h:lU ρ1 ρ):EnvOk K b d H O σ ρ where
 len:=E.len.trans h.1
 same:=E.same
 sub:=E.sub
 trk:=E.trk
 trk0:=E.trk0
 tab:=E.tab
 slot:=λi f e=>by
  by_cases n:f=.no
  .subst n;trivial
  .exact E.slot i f (h.2 i _ e n)
 inj:=λi j x y a l m g k=>E.inj i j x y a (h.2 i _ l (by rintro rfl;exact g)) (h.2 j _ m (by rintro rfl;exact k)) g k
def T5 (H:Hp)(a:bb):Hp:=λb=>if b=a then none else H b
def FH (H:Hp)(a:bb):T5 H a a=none:=hV rfl
def S5 (h:b≠a):T5 H a b=H b:=h9 h
def KH (h:H a=some o):upd (T5 H a) a o=H:=by
 funext b
 unfold upd T5;by_cases d:b=a
 .subst d;rw[hV rfl,h]
 .rw[h9 d,h9 d]
def EnvOk.ae4 {K:iu}{d H:Hp}{e O:bb->Prop}{σ:St}{ρ:Ev}{a:bb}{L:List V}(E:EnvOk K d e H O σ ρ)(h:H a=none)(f:K.lookup a=none):EnvOk K d e (upd H a (.lst L)) (λb=>O b\/b=a) σ ρ:=E.ab8 h f trivial
def Rep.hidden {K:iu}{H:Hp}{O:bb->Prop}{a:bb}{L:List V}{v:V}{d:D}(h:H a=some (.lst L))(r:Rep K H (λb=>O b\/b=a) v d):Rep K (T5 H a) O v d:=by
 refine r.mono (λb Y q=>?_) (λb Y n q=>⟨λz=>n (.inl z),?_⟩) λb φ n q=>⟨λz=>n (.inl z),by rw[S5 λz=>n (.inr z)];exact q⟩
 .rcases q with(q|⟨o,q⟩)|q
  .exact .inl (.inl (by rw[S5 (by rintro rfl;rw[h]at q;cases q)];exact q))
  .exact .inl (.inr ⟨o,by rw[S5 (by rintro rfl;rw[h]at q;cases q)];exact q⟩)
  .exact .inr q
 .have e:b≠a:=λz=>n (.inr z);rcases q with(q|⟨o,q⟩)|q
  .exact .inl (.inl (by rw[S5 e];exact q))
  .exact .inl (.inr ⟨o,by rw[S5 e];exact q⟩)
  .exact .inr q
def W6 (h:H a=none)(s:Same (upd H a (.lst L)) H'):Same H (T5 H' a):=λb o q=>by
 have d:b≠a:=by rintro rfl;rw[h]at q;cases q
 rw[S5 d];exact s b o (by rw[m9 d];exact q)
def ItC (K:iu)(J:It)(H:Hp)(O:bb->Prop)(ds:List D):Prop:=∀b e,Same H b->Kp H O b e->aX K e->(∀a,O a->∃o,H a=some o/\Mt o)->(∀a,e a->∃o,b a=some o/\Mt o)->∀i:Nat,
 (∀d,ds[i]?=some d->J.go i b/\∀x f,J.yld i b x f->Same b f/\Rep K f e x d)/\(ds[i]?=none->J.stop i b)
def bw.c {K:iu}(h:bw K J H O ds):ItC K J H O ds:=λa b _=>h a b
def tIc (X:Cx)(f:Ev->R (List D)):TI:=λσ H R=>∃b d O ρ,EnvOk X.K b d H O σ ρ/\aX X.K O/\match f ρ with
 |.ok g=>∀J a,Same H a->ItC X.K J a O g->R J a
 |.ex e=>∀a,Same H a->XW X e a
 |.bad=>False
def PIC (X:Cx)(a A7:cu)(f:Ev->R (List D)):Prop:=PI X a A7 (tIc X f)
def pic (h:ZV X a A7 f):PIC X a A7 f:=DS h λσ H R ⟨b,d,O,ρ,E,k,q⟩=>⟨b,d,O,ρ,E,k,by
 cases e:f ρ with
 |ok i=>rw[e]at q;exactλJ g s h=>q J g s h.c
 |ex x=>rw[e]at q;exact q
 |bad=>rw[e]at q;exact q⟩
section
def XZ (X:Cx)(b:List cu)(ft:Ev->R Bool):Prop:=
 ∀(a:R4) (s:a9) (σ:St) (H:Hp) (Q:Bool->Hp->Prop),Inv X a σ H s->tDT X ft σ H Q->
  aA (be X.prog X.w) X.A (forIn b true λc r=>if r=true then do let ok<-isTrue c X.env (dm c X.env);pure (aCr ok)else pure (aCr r)) (TP X a σ Q) X.xe s
def yN:XZ X [] (λ_=>.ok true):=by rintro a s σ H Q I ⟨b,d,O,ρ,E,q⟩;exact wpAny_tests_nil ⟨H,I,q H (Same.refl _)⟩
def WA (h:MN X c ft):XZ X [c] ft:=λa s σ H Q I q=>wpAny_tests_one (h a s σ H Q I q)
def CN {tg elt A7:cu}{ifs:List cu}{scope:gW}{own fr:List Str}{js:List Nat}{G:D->Ev->R Ev}{ft:Ev->R Bool}{fe:Ev->R D}{pins:R4}{σ:St}{H:Hp}{s:a9}{H9:Hp}{O0 O:bb->Prop}{ρ:Ev}
  {it:bb} {U:List bb} {tn:Nat->cq->Prop} {J:It} {ds rs:List D} {RR:ao->bb->Result->a9->Prop} {EE:G0} (hc:X.calm=true) (S:CompSc X scope own fr js)
  (hX:∀t:Cx,(∃s9 Ha C,t=IN X pins s9 Ha (own++fr) scope (cO X scope C) C U)->ML t tg G/\XZ t ifs ft/\PD t elt fe)
  (hG:∀d ρ1,G d (j2 own js ρ)=.ok ρ1->lU ρ1 (j2 own js ρ))
  (I:Inv X pins σ H s) (T:Turn X.prog X.w X.K tg J U it tn) (st:tn 0 s.heap) (vm:∀b∈U,sI X pins H b) (E:EnvOk X.K H9 O0 H O σ ρ) (hJ:ItC X.K J H O ds) (hrs:z8 G ft fe (j2 own js ρ) ds=.ok rs) (hlen:ds.length<=sizeLine)
  (fin:∀B C s' H' m,s'.heap.Ns C m->C≠B->s.heap.objs.size<=C->s.heap.objs.size<=B->Same H H'->Rep X.K H' O (.ref B) (.lst rs)->(∃H1 L,Same H H1/\H1 B=none/\H'=upd H1 B (.lst L)/\Reps X.K H1 O L rs)->H' C=none->(∀h',Heap.SameBut C s'.heap h'->Inv X pins σ H' {s' with heap:=h'})->RR (.ref B) C (.ok .next) s'):
  aA (be X.prog X.w) X.A (newList []) (λB sh=>aA (be X.prog X.w) X.A (newFunctionEnv scope X.env.globals (MJ X.env scope.names []) [] X.env.qual none .none (some X.env)) (λcenv si=>fh (be X.prog X.w) X.A (.compStart (.ListComp elt [⟨tg,A7,ifs,0⟩] scope pos) 0 (.ref it) B {cenv with scope:=relabel scope X.env}) (RR B cenv.locals) si) EE sh) EE s:=by
 have hO:=xT I O E.trk;refine aBG ?_;have hfr:H s.heap.objs.size=none:=I.hok.fresh (aAj _);have hkl:X.K.lookup s.heap.objs.size=none:=by
  cases e:X.K.lookup s.heap.objs.size with
  |none=>rfl
  |some o=>exact absurd (aAg<|I.kIn _ o e) (aBs _)
 have I1:Inv X pins σ (upd H s.heap.objs.size<|.lst []) {s with heap:=s.heap.push {cls:=.type "list",dict:=none,data:=.seq ([]:List ao).toArray}}:=
  I.laid (t':=s.toks) (λb u e=>aAc _ e) (aAj _) ⟨aAX _,[],0,.nil,aAr _ rfl⟩
 generalize df:s.heap.objs.size=B at*
 generalize yo:({s with heap:=s.heap.push {cls:=.type "list",dict:=none,data:=.seq ([]:List ao).toArray}}:a9)=s1 at I1⊢;have sz1:s1.heap.objs.size=B+1:=by rw[<-yo,<-df];exact aBH _ _
 have keep1:∀b o,s.heap.get? b=some o->s1.heap.get? b=some o:=λb o e=>by rw[<-yo];exact aAc _ e
 have vo:∀b∈U,b<B:=λb g=>by obtain⟨o,e,_⟩:=T.obj 0 _ st b g;rw[<-df];exact aAg e
 have hfp1:∀b∈U,sI X pins (upd H B<|.lst []) b:=λb g=>by obtain⟨f0,f⟩:=vm b g;exact⟨by rw[m9 (aAn<|vo b g)];exact f0,f⟩
 refine JH ?_;obtain⟨N,e8⟩:∃N,pushCells (s1.heap.push {cls:=.type "dict",data:=.dict #[]}) scope.names=N:=⟨_,rfl⟩;rw[e8];have keep2:∀b o,s1.heap.get? b=some o->N.get? b=some o:=λb o e=>by rw[<-e8];exact aEC _ _ _ _ (aAc _ e)
 have IB:=LU (tk:=s1.toks) I1 S hfp1 (λb g=>by rw[sz1];exact aBI (vo b g)) e8.symm;generalize hC:s1.heap.objs.size=C at*
 obtain⟨hG',hT',hE'⟩:=hX _ ⟨s1,upd H B (.lst []),C,rfl⟩;generalize ni:IN X pins s1 (upd H B<|.lst []) (own++fr) scope (cO X scope C) C U=t at IB hG' hT' hE';have eP:t.prog=X.prog:=by rw[<-ni];rfl
 have eW:t.w=X.w:=by rw[<-ni];rfl
 have eK:t.K=X.K:=by rw[<-ni];rfl
 have eA:t.A=X.A:=by rw[<-ni];rfl
 have eC:t.calm=true:=by rw[<-ni];exact hc
 have eX:t.xe=λ_ _=>False:=by rw[<-ni];rfl
 have eE:t.env=compEnvC scope (cO X scope C) C X.env:=by rw[<-ni];rfl
 have eX0:t.ex=U:=by rw[<-ni];rfl
 have ePn:t.pn=X.pn++pins:=by rw[<-ni];rfl
 have eFs:t.fs=AM X.stack:=by rw[<-ni];rfl
 have eS0:t.s9=s1:=by rw[<-ni];rfl
 have eH0:t.H9=upd H B (.lst []):=by rw[<-ni];rfl
 have eL:t.env.locals=C:=by rw[eE];rfl
 have eCe:t.env.cells=cO X scope C:=by rw[eE];rfl
 have I2of:=IB;have cell_ne:∀b∈U,∀x c,t.env.cells.lookup x=some c->c≠b:=λb g x c h=>(I2of.ok.exf b (by rw[eX0];exact g)).2 x c h;have accC:B≠C:=by rw[sz1];exact aAn (aDO _)
 have fpC:∀b∈U,b≠C:=λb g=>by have h1:=vo b g;rw[sz1];exact aAn (aBI h1)
 have fpB:∀{H':Hp},(∀b∈U,H' b=none)->∀b∈U,sI t [] H' b:=λ{H'} hn b g=>by
  obtain⟨f0,f1,f2,f3,f4,f5⟩:=vm b g;refine⟨hn b g,by rw[eL];exact fpC b g,?_,.inl (by rw[eX0];exact g),λx c h=>cell_ne b g x c h,λp hp=>f5 p (by rw[ePn,aCs]at hp;exact hp)⟩;rw[eFs];intro z;rcases aAd.mp (I.ab6 b z)with e|z
  .exact f1 e
  .exact f2 z
 have aw:tn 0 N:=T.keep 0 s.heap N st λb g o e=>keep2 b o (keep1 b o e)
 let Iv:Nat->a9->Prop:=λn s'=>∃i af Q L rd,n=ds.length-i/\i<=ds.length/\Inv t [] af (upd Q B<|.lst L) s'/\Q B=none/\tn i s'.heap/\(∀b∈U,Q b=none)/\EnvOk X.K H9 O0 Q O af (j2 own js ρ)/\Same H Q/\
  Reps X.K Q O L rd/\(∃rest,z8 G ft fe (j2 own js ρ) (ds.drop i)=.ok rest/\rs=rd++rest)/\L.length<=i
 have loop:fh (be X.prog X.w) X.A (.compLoop (.ListComp elt [⟨tg,A7,ifs,0⟩] scope pos) 0 (.ref it) (.ref B) (compEnvC scope (cO X scope C) C X.env)) (RR (.ref B) C) {s1 with heap:=N}:=by
  refine KM Iv ?_ ds.length ⟨0,_,H,[],[],by simp,aAX _,IB,hfr,aw,λb g=>(vm b g).1,JZ S.nd E,Same.refl H,.nil,⟨rs,by rw[aGf];exact hrs,rfl⟩,aAX _⟩;rintro n s2 ⟨i,uu,Q,L,rd,rfl,hi,I2,xt,km,fx2,E2,xu,r2,⟨rest,l,vp⟩,hvl⟩;have fr2:∀b∈U,(upd Q B<|.lst L) b=none:=λb g=>by rw[m9 (aAn<|vo b g)];exact fx2 b g
  have sU:=m8 xt (.lst L);have hit:=hJ (upd Q B<|.lst L) (λb=>O b\/b=B) (xu.trans sU) (λb o q n=>⟨sU b o (xu b o q),λz=>z.elim n λz=>by subst z;rw[hfr]at q;cases q⟩) (λa o q z=>z.elim (hO a o q) λz=>by subst z;rw[hkl]at q;cases q) E.trk
   (λa z=>(E2.ae4 (L:=L) xt hkl).trk a z) i
  by_cases ah:i<ds.length
  .obtain⟨go,yl⟩:=hit.1 ds[i] (aAh ah);rw[aDL ah,z8]at l;have nv:=T.item t eP eW eK eC i [] s2 uu _ (λ_ _=>False) I2 (fpB fr2) km go;rw[eA]at nv;refine J7 nv λr s3 z9=>?_;obtain⟨u,hr,h3⟩:=z9;subst hr;refine J7 h3 λ_ s4 z9=>?_;obtain⟨x,H4,I4,ru,y4,st4,fr4⟩:=z9;obtain⟨sm4,rep4⟩:=yl x H4 y4;cases e1:G ds[i] (j2 own js ρ)with
   |ex z=>rw[e1]at l;cases l
   |bad=>rw[e1]at l;cases l
   |ok ρ1=>
    rw[e1]at l;dsimp only at l;have EB:EnvOk X.K H9 O0 H4 (λb=>O b\/b=B) uu (j2 own js ρ):=(E2.ae4 xt hkl).grow sm4;have I4':=I4.pinned (fpB fr4) (T.obj _ _ st4);have again:∀{s7:a9} {oo:St} {y:Hp} {vs7:List V} {rd7:List D} {rest7:List D},Inv t ([]++pW U s4.heap) oo y s7->y B=some (.lst vs7)->EnvOk X.K H9 O0 (T5 y B) O oo (j2 own js ρ)->Same H (T5 y B)->Reps X.K (T5 y B) O vs7 rd7->
      z8 G ft fe (j2 own js ρ) (ds.drop<|i+1)=.ok rest7->rs=rd7++rest7->vs7.length<=i+1->∃m,m<ds.length-i/\Iv m s7:=λ{s7 oo y vs7 rd7 rest7} I7 h7 E7 sm7 r7 hr7 hrs7 hv7=>by
     refine⟨ds.length-(i+1),by omega,i+1,oo,T5 y B,vs7,rd7,rfl,ah,?_,FH _ _,T.keep _ _ _ st4 λb g o e=>(I7.pin (b,o)<|aAL _<|aAL _<|bS g e).1,λb g=>?_,E7,sm7,r7,⟨rest7,hr7,hrs7⟩,hv7⟩
     .rw[KH h7];exact I7.ab4
     .rw[S5 (aAn<|vo b g)];obtain⟨o,e,d⟩:=T.obj _ _ st4 b g;exact(I7.pin (b,o)<|aAL _<|aAL _<|bS g e).2.1
    have hasg:=hG' _ s4 uu H4 x u (λY H5=>Same H4 H5/\EnvOk X.K H9 O0 H5 (λb=>O b\/b=B) Y ρ1) I4' ru ⟨H9,O0,_,_,ds[i],ρ1,by rw[eK];exact EB,by rw[eK];exact rep4,e1,λY H5 s5 E5=>⟨s5,by rw[eK]at E5;exact E5⟩⟩;rw[eP,eW,eA,eE,eX]at hasg;refine J7 hasg λ_ s5 z9=>?_;obtain⟨Y,H5,I5,sm5,E5⟩:=z9;have hacc5:H5 B=some (.lst L):=sm5 B _ (sm4 B _ l4);cases e2:ft ρ1 with
    |ex z=>rw[e2]at l;cases l
    |bad=>rw[e2]at l;cases l
    |ok b=>
     rw[e2,R.aa0]at l;have htst:=hT' _ s5 Y H5 (λc H6=>c=b/\Same H5 H6) I5 ⟨H9,O0,_,ρ1,by rw[eK];exact E5,by rw[e2];exactλH6 s6=>⟨rfl,s6⟩⟩;rw[eP,eW,eA,eE,eX]at htst;refine J7 htst λok s6 z9=>?_;obtain⟨H6,I6,g,sm6⟩:=z9;subst g;have sm46:Same (upd Q B<|.lst L) H6:=sm4.trans (sm5.trans sm6);have hacc6:H6 B=some (.lst L):=sm6 B _ hacc5;have smx6:Same Q (T5 H6 B):=W6 xt sm46;have W1:lU ρ1 (j2 own js ρ):=hG _ _ e1;have Eb:∀{y:Hp},Same H5 y->EnvOk X.K H9 O0 (T5 y B) O Y (j2 own js ρ):=λ{y} s7=>by
      have E7:=(E5.grow s7).weak W1;have h7:y B=some (.lst L):=s7 B _ hacc5;refine⟨E7.len,E2.same.trans (W6 xt<|sm4.trans<|sm5.trans s7),E2.sub,λa z=>?_,E2.trk0,E2.tab.same (W6 xt<|sm4.trans<|sm5.trans s7),λj sl e=>?_,E7.inj⟩
      .obtain⟨o,q,mt⟩:=E2.trk a z;exact⟨o,W6 xt (sm4.trans<|sm5.trans s7) a o q,mt⟩
      .rcases W0 e with rfl|⟨_,⟨d,rfl⟩|⟨k,rfl⟩,_⟩
       .trivial
       .obtain⟨v,h1,h2⟩:=E7.val j d e;exact⟨v,h1,Rep.hidden h7 h2⟩
       .obtain⟨b,o,es,h1,g,h3,h4,h5,h6,h8⟩:=E7.slot j _ e;have nb:b≠B:=by rintro rfl;rw[h7]at h4;cases h4
        exact⟨b,o,es,h1,g.resolve_right nb,h3,by rw[S5 nb];exact h4,h5,h6.mono (Rep.hidden h7),h8⟩
     cases ok with
     |false=>rw[h9 aBc]at l⊢;exact again I6 hacc6 (Eb sm6) (xu.trans smx6) (r2.same smx6) l vp (Nat.le_succ_of_le hvl)
     |true=>
      rw[hV rfl]at l⊢;cases e3:fe ρ1 with
      |ex z=>rw[e3]at l;cases l
      |bad=>rw[e3]at l;cases l
      |ok dv=>
       rw[e3,R.aa0]at l;cases e4:z8 G ft fe (j2 own js ρ) (ds.drop<|i+1)with
       |ex z=>rw[e4]at l;cases l
       |bad=>rw[e4]at l;cases l
       |ok rest'=>
        rw[e4,R.aa0]at l;have qa:dv::rest'=rest:=R.ok.inj l;have helt:=hE' _ s6 Y H6 (λv y=>Same H6 y/\Rep X.K y (λb=>O b\/b=B) v dv) I6 ⟨H9,O0,_,ρ1,by rw[eK];exact E5.grow sm6,by rw[e3,RC];exactλv y s7 r7=>⟨s7,by rw[eK]at r7;exact r7⟩⟩;rw[eP,eW,eA,eE,eX]at helt;refine J7 helt λuv s7 z9=>?_;obtain⟨v,y,I7,ruv,sm7,r7⟩:=z9;have hacc7:y B=some (.lst L):=sm7 B _ hacc6;have happ:=uJ (X:=t) _ s7 Y y (.ref B) [v] (.ref B) [uv] (λ_ H8=>H8=upd y B (.lst (L++[v]))) I7 rfl (.cons ruv .nil) ⟨B,L,v,rfl,rfl,hacc7,by omega,rfl⟩;rw[eP,eW,eA,eX]at happ;refine J7 happ λ_ s8 z9=>?_;obtain⟨_,H8,I8,_,h8⟩:=z9;subst h8;have hh:T5 (upd y B<|.lst (L++[v])) B=T5 y B:=by
         funext b
         unfold T5 upd;by_cases g:b=B
         .rw[hV g,hV g]
         .rw[h9 g,h9 g,h9 g]
        have smx7:Same Q (T5 y B):=W6 xt (sm46.trans sm7);refine again (vs7:=L++[v]) (rd7:=rd++[dv]) (rest7:=rest') I8 l4 (by rw[hh];exact Eb (sm6.trans sm7)) (by rw[hh];exact xu.trans smx7) ?_ e4 (by rw[vp,<-qa,aFp];rfl) (by rw[aAB];exact Nat.succ_le_succ hvl);rw[hh];exact(r2.same smx7).snoc (Rep.hidden hacc7 r7)
  .have dc:i=ds.length:=by omega
   subst dc;have hstop:=hit.2 (by simp);have nv:=T.done t eP eW eK eC ds.length [] s2 uu _ (λ_ _=>False) I2 (fpB fr2) km hstop;rw[eA]at nv;refine J7 nv λr s3 z9=>?_;obtain⟨hr,I3⟩:=z9;subst hr;rw[List.drop_length,z8]at l;have qa:([]:List D)=rest:=R.ok.inj l;rw[<-qa,aCs]at vp;obtain⟨m,hm,_⟩:=id I3.loc;rw[eL]at hm;have hfin:Same H (upd Q B<|.lst L):=xu.trans sU;refine fin B C s3 (upd Q B<|.lst L) m hm (aCa accC) (by omega) (aAj _) hfin ?_ ⟨Q,L,xu,xt,rfl,by rw[vp];exact r2⟩ (by rw[<-eL];exact I3.free) (λh' ke=>?_)
   .rw[vp];exact .lst (Q8.of l4) (E2.fresh xt) (r2.same sU)
   .have hU:Un (AM X.stack) U (upd H B<|.lst []) (upd Q B<|.lst L) s1.heap s3.heap:=by have:=I3.base;rw[eFs,eX0,eH0,eS0]at this;exact this
    have hCn:∀b o,s1.heap.get? b=some o->b≠C:=λb o e=>by have:=aAg e;rw[hC]at this;exact aAn this
    have hU':Un (AM X.stack) U (upd H B<|.lst []) (upd Q B<|.lst L) s1.heap h':=⟨λb o e n g hx=>(ke.2 b (hCn b o e)).trans (hU.keep b o e n g hx),λb o e n g hx=>by
      obtain⟨sl,q⟩:=hU.slot b o e n g hx;exact⟨sl,(ke.2 b (hCn b o e)).trans q⟩,hU.free,λb o e hx=>by
      obtain⟨o',q⟩:=hU.there b o e hx;exact⟨o',(ke.2 b (hCn b o e)).trans q⟩,hU.tups,hU.frzs,hU.tbls⟩
    have hCf:upd Q B (.lst L) C=none:=by rw[<-eL];exact I3.free
    have yp:gO X.prog X.w (upd Q B<|.lst L) h':=λb u e=>by
     have g:b≠C:=by rintro rfl;rw[hCf]at e;cases e
     have:=I3.hok b u e;rw[eP,eW]at this;refine this.ac1 (λc v hc q=>(ke.2 c ?_).trans q) (λ_ q=>q) λ_ _ _ q=>q;rcases hc with z|z
     .rw[z];exact g
     .rintro rfl;rw[hCf]at z;cases z
    have hos:s3.os=s1.os:=by have:=I3.os;rw[eS0]at this;exact this
    exact I1.af7 (s':={s3 with heap:=h'}) (ch:=U) hos hU' yp I3.bare λb g=>by obtain⟨f0,f1,f2,f3,f4,f5⟩:=vm b g;exact⟨f3,f1,f4,f5⟩
 exact codeAny_compStart_list loop (T.self _ 0 _ _ _ aw loop)
def UB (own L:List Str)(g:List Nat)(hc:X.calm=true)(S:CompSc X b own L g)(hi:PIC X N A7 U)(hX:∀(a:R4) (k:List bb) (i:Cx),(∃s9 Ha C,i=IN X a s9 Ha (own++L) b (cO X b C) C k)->ML i N G/\XZ i l ft/\PD i n fe)(hG:∀ρ d ρ1,G d (j2 own g ρ)=.ok ρ1->lU ρ1 (j2 own g ρ))(hs:∀x,eQ A7 X.env x=pure x:=by intro _;rfl):
  PD X (.ListComp n [⟨N,A7,l,0⟩] b pos) (λρ=>(U ρ).bind λds=>if ds.length<=sizeLine then(z8 G ft fe (j2 own g ρ) ds).bind λf=>.ok (.lst f)else .bad):=by
 refine zR λa s σ H Q I H9 O0 O ρ E q=>?_;dsimp only at q;rw[eval_ListComp];refine wpAny_comprehension_free (use:=none) rfl hs (gI<|Inv.ab7 I S) S.kind S.names ?_;refine J7 (hi a s σ H (λJ o=>∃ds f,Same H o/\ItC X.K J o O ds/\ds.length<=sizeLine/\z8 G ft fe (j2 own g ρ) ds=.ok f/\∀v h,Same H h->Rep X.K h O v (.lst f)->Q v h) I ⟨H9,O0,O,ρ,E,xT I O E.trk,?_⟩) λv Y h1=>J7 h1 λitv s2 h2=>?_
 .cases p:U ρ with
  |ex x=>rw[p]at q;exact q
  |bad=>rw[p]at q;exact q
  |ok ds=>
   rw[p,R.aa0]at q;intro J o Y t;split at q
   .rename_i u;cases j:z8 G ft fe (j2 own g ρ) ds with
    |ex x=>rw[j]at q;exact(q H<|Same.refl _).elim
    |bad=>rw[j]at q;exact q.elim
    |ok f=>rw[j]at q;exact⟨ds,f,Y,t,u,j,q⟩
   .exact q.elim
 .obtain⟨it,k,tn,J,H2,e,I2,T,km,f2,ds,f,sm,t,u,y,q⟩:=h2;subst e;refine CN (RR:=λB C=>compPost (be X.prog X.w) X.A X.xe none (EP X a σ Q) B C) hc S (hX a k) (hG ρ) I2 T km f2 (E.grow sm) t y u ?_;intro B C s' h m hn _ _ _ z r _ _ hI;exact⟨m,hn,λh' ke=>⟨.ref B,h,hI h' ke,rfl,q _ h (sm.trans z) r⟩⟩
def G6 (own g:List Str)(b:List Nat)(k:X.calm=true)(S:CompSc X a own g b)(l:ZV X j A7 m)(n:∀(e:R4) (o:List bb) (f:Cx),(∃p q C,f=IN X e p q (own++g) a (cO X a C) C o)->ML f j G/\XZ f h ft/\PD f i fe)(r:∀ρ d ρ1,G d (j2 own b ρ)=.ok ρ1->lU ρ1 (j2 own b ρ))(s:∀x,eQ A7 X.env x=pure x:=by intro _;rfl):
 PD X (.ListComp i [⟨j,A7,h,0⟩] a t) (λρ=>(m ρ).bind λds=>if ds.length<=sizeLine then(z8 G ft fe (j2 own b ρ) ds).bind λu=>.ok (.lst u)else .bad):=UB own g b k S (pic l) n r s
end
def _root_.L2.ObjOk.live (x:ObjOk P w H h a o):h.get? a≠none:=by
 intro z;have b:∀{u:Obj},h.get? a=some u->False:=λq=>by rw[z]at q;cases q
 cases o with
 |lst Y=>obtain⟨_,_,_,_,e⟩:=x;exact b e
 |tup Y=>obtain⟨_,_,_,o,e,_⟩:=x;exact b e
 |dK J=>obtain⟨_,_,_,_,o,_,_,e,_⟩:=x;exact b e
 |dT J=>obtain⟨_,_,_,_,o,_,_,e,_⟩:=x;exact b e
 |set S n=>obtain⟨o,_,_,_,e,_⟩:=x;exact b e
 |ins C d fs=>obtain⟨_,_,_,e,_⟩:=x;exact b e
 |own y=>obtain⟨_,e⟩:=x;exact b e
 |xd fs=>obtain⟨_,⟨_,_,_,e,_⟩,_⟩:=x;exact b e
 |rng lo g=>obtain⟨_,_,_,e⟩:=x;exact b e
 |frz i u=>obtain⟨e,_⟩:=x;exact b e
 |tbl j=>obtain⟨_,e,_⟩:=x;exact b e
 |met f y=>exact b (show h.get? a=some _ from x)
 |ext φ=>obtain⟨_,⟨_,e⟩,_⟩:=x;exact b e
section
end
section
variable{P:bt} {w:cp} {K:iu} {mg:dS} {base:cq}
end
section
variable{X:Cx} {E:XK} {st:cv} {rest:List cv} {F:Ev->R Out} {G Ga Gb:Ev->Option ao} {pos:Pos}
end
section
variable{K:iu} {h:cq} {C:bb} {bmB:List ao} {newId:String}
end
section
variable{X:Cx} {E:XK} {pos ai np:Pos} {x:Str} {C:bb} {bmB:List ao} {B newId initId:String}
end
end
end DL
namespace TS
open PySem PyProof.Rows HT
def uP (f:Bool)(x y:ao):keyLt' (tupK f) x y=(do
 let Y<-aCO x;let N<-aCO y
 for ((p,q),i)in(Y.toList.zip N.toList).zipIdx do
  if !(<-eqBool p q)then return<-oneLt' (f&&i==0) p q
 return decide (Y.size<N.size)):=rfl
def NZ:ao->Sem (Option ao):=sortPriv%PySem.Builtin.firstOfTuple?
def OU:Array ao->Sem (Option ao):=sortPriv%PySem.Builtin.oneTypeOnly
def KT (v:ao):NZ v=(do
 if(<-typeOf v) !=.type "tuple"then return none
 return (<-aCO v)[0]?):=rfl
def RG (L:Array ao):OU L=(do
 let a<-L.mapM typeOf
 match a[0]? with
 |some t=>return if a.all (· ==t)then some t else none
 |none=>return none):=rfl
def DW (a:Array ao):keyKind' a=(do
 let firsts<-a.mapM NZ
 if firsts.all (·.isSome)then
  rule "list.sort.keys-are-tuples"
  return tupK ((<-OU (firsts.filterMap id)).any (· !=.type "tuple"))
 if(firsts[0]?.bind id).isSome then return general'
 return if(<-OU a).isSome then oneType' else general'):=rfl
section
def OV {Q:BL}(f:Bool)(h:Q (decide (a<b)) s):aA (be prog w) A (oneLt' f (.int a t) (.int b u)) Q E s:=by
 cases f with
 |true=>exact oneLt_int h
 |false=>rw[oneLt'_eq];simp only[aAu,if_false];exact aAa (CA A s a t b u prog w _ _<|aBO h)
def lt_ints (f:Bool){Q:BL}(hl:IsTup s.heap l items)(hb:IsTup s.heap b r)(Y:IntsAre items.toList ns)(hj:IntsAre r.toList N)(h:Q (HT.lexLt ns N) s):aA (be prog w) A (keyLt' (tupK f) (.ref l) (.ref b)) Q E s:=by
 obtain⟨o,ho,hc,n,hd⟩:=hl;obtain⟨o2,kg,jo,n2,O⟩:=hb;have z1:items.size=ns.length:=by rw[<-Y.length];simp
 have z2:r.size=N.length:=by rw[<-hj.length];simp
 rw[uP];refine aAa (aEi ho hd<|aAa<|aEi kg O ?_);refine aAa (aCA _ (λrest b m=>b.1=none/\m=s/\∃(k:Nat) (L I:List ao) (v B:List Int),rest=(L.zip I).zipIdx k/\IntsAre L v/\IntsAre I B/\v.length+r.size=B.length+items.size/\Q (HT.lexLt v B) s)
  (λb m=>m=s/\(∀c,b.1=some c->Q c s)/\(b.1=none->Q (decide (items.size<r.size)) s)) ?turn ?fin _ _ ⟨rfl,rfl,0,items.toList,r.toList,ns,N,rfl,Y,hj,by lia,h⟩|>λz=>aCH z ?post λ_ _ e=>e)
 case post=>
  rintro⟨b1,b2⟩ m ⟨rfl,q1,q2⟩;cases b1 with
  |none=>exact aAb (q2 rfl)
  |some c=>exact aAb (q1 c rfl)
 case fin=>
  rintro⟨b1,b2⟩ m ⟨jg,rfl,k,L,I,v,B,j,T,J,d,g⟩;refine⟨rfl,λc e=>(by rw[jg]at e;cases e),λ_=>?_⟩;cases T with
  |nil=>
   cases J with
   |nil=>rw[Z5]at g;simp only[aBg]at d;rw[decide_eq_false (by lia)];exact g
   |cons c u hw=>rw[N7]at g;simp only[aBg,aAp]at d;rw[decide_eq_true (by lia)];exact g
  |cons a t hv=>
   cases J with
   |nil=>rw[D8]at g;simp only[aBg,aAp]at d;rw[decide_eq_false (by lia)];exact g
   |cons c u hw=>rw[aBZ,aEp]at j;cases j
 case turn=>
  rintro⟨⟨y,x⟩,i⟩ rest b m ⟨jg,rfl,k,L,I,v,B,j,T,J,d,g⟩;cases T with
  |nil=>rw[List.zip_nil_left,aED]at j;cases j
  |cons a t C=>
   cases J with
   |nil=>rw[List.zip_nil_right,aED]at j;cases j
   |cons c u H=>
    rw[aBZ,aEp]at j;injection j with p ae;injection p with p U;injection p with hy hx;subst hy hx U;rw[J3]at g;simp only[aAp]at d;obtain⟨e,he,vf⟩:=zC A m a t c u;refine aAa (he prog w _ _ ?_);cases e with
    |true=>rw[hV (vf.mp rfl)]at g;exact aAb ⟨rfl,rfl,_,_,_,_,_,ae,C,H,by lia,g⟩
    |false=>rw[h9 (λq=>absurd (vf.mpr q) aBc)]at g;exact aAa (OV _ (aAb ⟨rfl,λc e=>(by cases e;exact g),λe=>(by cases e)⟩))
end
section
theorem HP {α β:Type}{M:Model}{f:α->Sem β}(g:α->β):∀(Y:List α) {Q:List β->a9->Prop},(∀x∈Y,∀{Q:β->a9->Prop},Q (g x) s->aA M A (f x) Q E s)->Q (Y.map g) s->aA M A (Y.mapM f) Q E s
 |[],Q,_,q=>by rw[List.mapM_nil];exact aAb q
 |x::Y,Q,h,q=>by rw[List.mapM_cons];exact aAa (h x (.head _) (aAa (HP g Y (λy a=>h y (.tail _ a)) (aAb q))))
def GM {α β:Type}{M:Model}{f:α->Sem β}(g:α->β)(Y:List α){Q:Array β->a9->Prop}(h:∀x∈Y,∀{Q:β->a9->Prop},Q (g x) s->aA M A (f x) Q E s)(q:Q (Y.map g).toArray s):aA M A (Y.toArray.mapM f) Q E s:=by rw[List.mapM_toArray];show aA M A (List.toArray<$>Y.mapM f) Q E s;rw[map_eq_pure_bind];exact aAa (HP g Y h<|aAb q)
def kind_tuples {L:List ao}{f:Bool}{T:String}{Q:SortKind->a9->Prop}(b:ao->ao)(h:∀x∈L,∃a items,x=.ref a/\IsTup s.heap a items/\items[0]?=some (b x)/\s.TypeIs (b x) T)(i:L≠[])(j:f=(aCx T !=aCx "tuple"))
  (q:Q (tupK f) s):aA (be prog w) A (keyKind' L.toArray) Q E s:=by
 rw[DW];refine aAa (GM (λx=>some (b x)) L (λx d {Q} e=>?_) ?_)
 .obtain⟨a,items,rfl,⟨o,g,k,n,l⟩,m,_⟩:=h x d;rw[KT];refine aAa (aDS (T:= "tuple") ⟨o,g,k⟩ ?_);rw[h9 (by simp)];refine aAa (aEi g l ?_);rw[m];exact aAb e
 .have p:((L.map λx=>some (b x)).toArray.all λx=>x.isSome)=true:=by simp
  have r:(L.map λx=>some (b x)).toArray.filterMap id=(L.map b).toArray:=by
   rw[List.filterMap_toArray,aDp];congr 1;induction L with
   |nil=>rfl
   |cons v L B=>simp
  simp only[p,if_true,r];refine aAa (aDC ?_);refine aAa ?_;rw[RG];refine aAa (GM (λ_=>aCx T) (L.map b) (λx d {Q} e=>?_) ?_)
  .obtain⟨y,t,rfl⟩:=aAk.mp d;obtain⟨_,_,_,_,_,u⟩:=h y t;exact aDS u e
  .cases L with
   |nil=>exact absurd rfl i
   |cons v L=>
    simp only[aAi,aAV];have z:((aCx T::aDr ((λ_=>aCx T)∘b) L).toArray.all λx=>x==aCx T)=true:=by simp
    simp only[aCS,aDg,z,if_true];refine aAb (aAb ?_);rw[j]at q;exact q
end
theorem lex_irrefl:∀a:List Int,HT.lexLt a a=false
 |[]=>rfl
 |x::Y=>by rw[J3,hV rfl];exact lex_irrefl Y
theorem lex_total:∀a b:List Int,HT.lexLt a b=false->HT.lexLt b a=false->a=b
 |[],[],_,_=>rfl
 |[],_::_,h,_=>by rw[N7]at h;cases h
 |_::_,[],_,h=>by rw[N7]at h;cases h
 |x::Y,y::N,d,f=>by
  rw[J3]at d f;by_cases e:x=y
  .subst e;rw[hV rfl]at d f;rw[lex_total Y N d f]
  .rw[h9 e]at d;rw[h9 (aCa e)]at f;have:=of_decide_eq_false d;have:=of_decide_eq_false f;omega
theorem lex_trans:∀a b c:List Int,HT.lexLt a b=true->HT.lexLt b c=true->HT.lexLt a c=true
 |[],[],_,h,_=>by rw[Z5]at h;cases h
 |[],_::_,[],_,h=>by rw[D8]at h;cases h
 |[],_::_,_::_,_,_=>rfl
 |_::_,[],_,h,_=>by rw[D8]at h;cases h
 |_::_,_::_,[],_,h=>by rw[D8]at h;cases h
 |x::Y,y::N,z::i,f,d=>by
  rw[J3]at f d⊢;by_cases e:x=y
  .subst e;rw[hV rfl]at f;by_cases g:x=z
   .subst g;rw[hV rfl]at d⊢;exact lex_trans Y N i f d
   .rw[h9 g]at d⊢;exact d
  .rw[h9 e]at f;have j:=of_decide_eq_true f;by_cases g:y=z
   .subst g;rw[h9 e];exact f
   .rw[h9 g]at d;have k:=of_decide_eq_true d;rw[h9 (by omega)];exact decide_eq_true (by omega)
theorem oD:∀a b c:List Int,HT.lexLt a c=true->HT.lexLt a b=true\/HT.lexLt b c=true
 |[],[],_,h=>.inr h
 |[],_::_,_,_=>.inl rfl
 |_::_,_,[],h=>by rw[D8]at h;cases h
 |_::_,[],_::_,_=>.inr rfl
 |x::Y,y::N,z::f,h=>by
  rw[J3]at h;rw[J3,J3];by_cases e:x=y
  .subst e;rw[hV rfl];by_cases d:x=z
   .subst d;rw[hV rfl]at h⊢;exact oD Y N f h
   .rw[h9 d]at h⊢;exact .inr h
  .rw[h9 e];by_cases l:x<y
   .exact .inl (decide_eq_true l)
   .refine .inr ?_;by_cases d:x=z
    .subst d;rw[h9 (aCa e)];exact decide_eq_true (by omega)
    .rw[h9 d]at h;have:=of_decide_eq_true h;rw[h9 (by omega)];exact decide_eq_true (by omega)
open Classical in
def kV (L:List ao) (key:ao->List Int):KeyKind where
 α:=List Int
 blt:=HT.lexLt
 irrefl:=lex_irrefl
 trans:=lex_trans
 negTrans:=oD
 total:=lex_total
 keyOf:=λv=>if v∈L then some (key v)else none
 dflt:=[]
open Classical in
def ZT (h:v∈L):(kV L key).keyOf v=some (key v):=hV h
open Classical in
def ZI (e:(kV L key).keyOf v=some l):v∈L/\key v=l:=by
 have a:(if v∈L then some (key v)else none)=some l:=e;split at a
 .rename_i h;cases a;exact⟨h,rfl⟩
 .cases a
def rG (L:List ao):(pairsOf L).toList=L.map λv=>(v,v):=by
 unfold pairsOf;rw[List.zip_toArray];show L.zip L=_;induction L with
 |nil=>rfl
 |cons v L a=>rw[aBZ,aAi,a]
section
def JK {a:bb}{L:List ao}{n:Nat}{f:Bool}{key:ao->List Int}{P:Fin->a9->Prop}(I:s.heap.get? a=some (seqObj "list" L.toArray n))
  (J:∀d,Bar a s d->∀x∈L,∀y∈L,∀(prog:bt) (w:cp) (E:G0) {Q:BL},Q (HT.lexLt (key x) (key y)) d->aA (be prog w) A (keyLt' (tupK f) x y) Q E d)
  (N:2<=L.length->∀d,Bar a s d->∀{Q:SortKind->a9->Prop},Q (tupK f) d->aA (be prog w) A (keyKind' L.toArray) Q E d) (m:L.length<64)
  (h:∀o:List ao,o.Perm L->o.Pairwise (λx y=>HT.lexLt (key y) (key x)=false)->P (.done (.ret .none)) {s with heap:=sortedHeap s.heap a L o.toArray}):
  aA (be prog w) A (Builtin.«list.sort» ⟨[.ref a],[]⟩) P E s:=by
 refine BY (κ:=kV L key) (f:=f) I (λp g=>?_) (λd r prog w E x y k l Q O T q=>?_) (λU d r {Q} q=>N U d r q) m λb e Y=>?_
 .rw[rG]at g;obtain⟨v,t,rfl⟩:=aAk.mp g;exact⟨key v,ZT t⟩
 .obtain⟨m1,u⟩:=ZI O;obtain⟨m2,z⟩:=ZI T;subst u z;exact J d r x m1 y m2 prog w E q
 .have B:(arrOf b).toList.Perm (L.map λv=>(v,v)):=by rw[<-rG];exact aEO.mp e
  have same:∀p∈(arrOf b).toList,p.1=p.2/\p.2∈L:=λp g=>by obtain⟨v,t,rfl⟩:=aAk.mp (B.mem_iff.mp g);exact⟨rfl,t⟩
  have ea:(arrOf b).map (·.2)=((arrOf b).toList.map (·.2)).toArray:=by apply Array.ext';simp
  rw[ea];refine h _ ?_ ?_
  .have:=B.map (·.2);rw[aAV,show((λx:ao×ao=>x.2)∘λv=>(v,v))=id from rfl,List.map_id]at this;exact this
  .rw[aCo];intro i j hi hj jm;have dc:i<(arrOf b).size:=by simpa using hi
   have C:j<(arrOf b).size:=by simpa using hj
   have gu:(arrOf b).size=(pairsOf L).size:=e.size_eq;have q:=Y i j (aDx jm) (by rw[<-gu];exact C);have kk:∀k (H:k<(arrOf b).size),KK (kV L key) (arrOf b) k=key (arrOf b)[k].2:=λk H=>by unfold KK;rw[getElem?_pos _ k H];obtain⟨u,z⟩:=same (arrOf b)[k] (by simp);show((kV L key).keyOf (arrOf b)[k].1).getD _=_;rw[u,ZT z];rfl
   rw[kk i dc,kk j C]at q;rw[aEq,aEq,aGa,aGa];exact q
def sorted_keys {x:ao}{L:List ao}{f:Bool}{key:ao->List Int}{Q:G0}{C:a9->Prop}(u:∀{p:List ao->a9->Prop},(∀s',C s'->p L s')->aA (be prog w) A.in1 (collect x) p E s)
  (v:∀s',C s'->∀a,(∀b o,s'.heap.get? b=some o->a.heap.get? b=some o)->∀x∈L,∀y∈L,∀(prog:bt) (w:cp) (r:cf) (E:G0) (O:r.units<=A.units+5) {Q:BL},Q (HT.lexLt (key x) (key y)) a->aA (be prog w) r (keyLt' (tupK f) x y) Q E a)
  (z:2<=L.length->∀s',C s'->∀a,(∀b o,s'.heap.get? b=some o->a.heap.get? b=some o)->∀(A:cf) {Q:SortKind->a9->Prop},Q (tupK f) a->aA (be prog w) A (keyKind' L.toArray) Q E a) (j:L.length<64)
  (h:∀(s':a9) (g:List ao) (h':cq) (l:bb),C s'->g.Perm L->g.Pairwise (λx y=>HT.lexLt (key y) (key x)=false)->(∀b o,s'.heap.get? b=some o->h'.get? b=some o)->s'.heap.objs.size<=l->(∃n,h'.get? l=some (seqObj "list" g.toArray n))->Q (.ref l) {s' with heap:=h'}):
  aA (be prog w) A (call (.builtin "sorted") [x]) Q E s:=by
 refine Calls.call_function_entry kind_sorted plain_sorted entry_sorted (args_sorted1 _) ?_;unfold Builtin.«sorted»;refine aAa (m:=checkCount "sorted" 1 1 _) (aAb ?_);refine aAa (u λs' k=>?_);refine aAa (wpAny_newList ?_);have d:(s'.heap.push<|seqObj "list" L.toArray 0).get? s'.heap.objs.size=some (seqObj "list" L.toArray 0):=aAr _ rfl;have t:∀a,Bar s'.heap.objs.size {s' with heap:=s'.heap.push (seqObj "list" L.toArray 0)} a->∀b o,s'.heap.get? b=some o->a.heap.get? b=some o:=λa i b o e=>i b o (aAn<|aAg e) (aAc _ e);refine aAa (aAY (aBB slot_list_sort ⟨_,d,rfl⟩ entry_list_sort (JK (key:=key) (f:=f) d (λa i x B y H prog w E {Q} q=>v s' k a (t a i) x B y H prog w _ E (by simp) q) (λI a i {Q} q=>z I s' k a (t a i) _ q) j λg J N=>⟨_,rfl,?_⟩)<|args_list_sort _));refine aAb ⟨_,rfl,h s' g _ _ k J N (λb o e=>?_) (aAj _) (sortedHeap_at d)⟩;rw[sortedHeap_old (aAn<|aAg e) (by rw[aBH];exact aBI (aAg e))];exact aAc _ e
end
end TS
namespace DL
open PySem PySem.Spec L2
open PyProof.Rows hiding St
variable [Tabs]
omit [Tabs]in
def AE {ns:List Int}(h:PySem.W.WData.layableAll [PySem.W.WData.list (ns.map PySem.W.WData.int)]=true):∀x∈ns,aBe x<=1048576:=λx a=>by
 have b:=(PySem.W.layW_cons h).1;have d:=PySem.W.layableW_item b (.int x) (aAk.mpr ⟨x,a,rfl⟩);have e:=PySem.W.lay0_int d;have f:PyData.layable0 (.int x)=true:=by simpa[PyData.layableAll0]using e
 exact PyData.bits_of_layable f
def y9 (P:bt)(w:cp)(K:iu)(mg:dS)(base:cq)(k:Nat)(x:Str)(n:Nat)(m:List D->R D):Prop:=
 ∃g a b,FnOk P w K mg base vU k g a b (spD K n m)/\Binds K a b []/\PySem.W.keepIn K (.ref g)=true/\mg x=some (.ref g)
def LB (f:Ev->R (List D))(n:Nat):Prop:=∀ρ a,f ρ=.ok a->a.length=n
def aM:LB V2 0:=λρ a h=>by cases h;rfl
def C1 (h:LB g n):LB (t4 f g) (n+1):=λρ j e=>by
 unfold t4 at e;cases b:f ρ with
 |ok d=>
  rw[b,R.aa0]at e;cases a:g ρ with
  |ok i=>rw[a]at e;cases e;rw[aAp,h ρ i a]
  |ex x=>rw[a]at e;cases e
  |bad=>rw[a]at e;cases e
 |ex x=>rw[b]at e;cases e
 |bad=>rw[b]at e;cases e
section
def yE (c:y9 X.prog X.w X.K X.mg X.base k x n m)(d:Room k X.A)(h:NP X (e::es) f)(i:LB f n)(j:Gl X x:=by rfl)(l:(x==ix)=false:=by decide)(o:ba (e::es) X.env=(false,dm e X.env)::ba es X.env:=by rfl)(q:(cy a (ba es X.env)).any (·.1)=false:=by rfl):
  PD X (.Call (.Name x p) (e::es) [] a) (λρ=>(f ρ).bind m):=by
 obtain⟨g,s,t,F,b,r,em⟩:=c;exact VX F d em r b h i j l o q
end
def rq {P:bt}{w:cp}{K:iu}{mg:dS}{base:cq}{x qual:Str}{st:cv}{f:bb}{fd:dn}{N ps:List Str}{k:Nat}{m:List D->R D}{F:Ev->R Out}(e:Fun K x qual st f fd)(S:FnScope N ps (c8 st))(b:Binds K fd ps [])(g:mg x=some (.ref f))
  (h:∀(T:ao) (A:cf) (a:List Env) (s:a9) (H:Hp) (E:XK),Room k (A.deeper (envOfC qual (c8 st) s.heap.objs.size f T))->bV (UX P w K mg base N qual (c8 st) f T A a s H E) (u7 st) F)
  (i:∀ds d,ds.length=ps.length->m ds=.ok d->O6 (F (l6 N ds))=.ok d):y9 P w K mg base (k+1) x ps.length m:=
 ⟨f,fd,ps,fnD e S h i,b,e.kp,g⟩
def v7:∀d ρ1,(R.ok ((j2 [x] a ρ).set 0 (Sl.v d)):R Ev)=.ok ρ1->lU ρ1 (j2 [x] a ρ):=λd ρ1 h=>by
 cases h;refine⟨by simp,λi e h b=>?_⟩;cases i with
 |zero=>exact absurd (by simpa[j2]using h.symm) b
 |succ i=>rw[aCB (by lia)];exact h
def QR (sc:gW)(N:List Str)(a:gW)(d:List Str)(b:List Nat):Bool:=
 decide (a.kind=.function)&&a.names.all (λy=>decide (y.2=.free->(y.1,aCc)∉a.names))&&a.names.all (λy=>decide (y.2=.local->a.names.lookup y.1=some .local))&&
 a.names.all (λy=>decide (y.2=.free->sc.names.lookup y.1=some .cell\/sc.names.lookup y.1=some .free))&&decide (b.length=d.length)&&(b.zip d).all (λp=>decide (N[p.1]?=some p.2/\(p.2,NameKind.free)∈a.names))&&decide b.Nodup&&
 a.names.all (λy=>decide (y.2=.free->a.names.lookup y.1=some .free))
def L0 (b:X.env.scope=sc:=by rfl)(d:X.N=N:=by rfl)(h:QR sc N a e f=true:=by decide+kernel):CompSc X a own e f:=by simp only[QR,aAQ,aCi,decide_eq_true_eq]at h;obtain⟨⟨⟨⟨⟨⟨⟨g,k⟩,l⟩,m⟩,n⟩,o⟩,p⟩,q⟩:=h;subst b d;refine⟨g,k,l,m,n,λi j x r s=>?_,p,q⟩;refine o (j,x) (aAw (i:=i) ?_);rw[aBF];exact⟨r,s⟩
def rK (σ:List (Nat×D))(h:∀p∈σ,p.1<Y.length):lU (σ.foldl (λr p=>r.set p.1 (Sl.v p.2)) (j2 Y a ρ)) (j2 Y a ρ):=by
 have f:∀(σ:List (Nat×D)) (r:Ev),(∀p∈σ,p.1<Y.length)->r.length=(j2 Y a ρ).length->(∀i,Y.length<=i->r[i]?=(j2 Y a ρ)[i]?)->
   (σ.foldl (λr p=>r.set p.1 (Sl.v p.2)) r).length=(j2 Y a ρ).length/\∀i,Y.length<=i->(σ.foldl (λr p=>r.set p.1 (Sl.v p.2)) r)[i]?=(j2 Y a ρ)[i]?:=by
  intro σ;induction σ with
  |nil=>intro r _ b d;exact⟨b,d⟩
  |cons p σ l=>intro r g b d;refine l _ (λq m=>g q (aAe _ m)) (by rw[List.length_set];exact b) λi k=>?_;have:=g p aBn;rw[aCB (by lia)];exact d i k
 obtain⟨b,d⟩:=f σ _ h rfl λ_ _=>rfl;refine⟨b,λi n e o=>?_⟩;by_cases k:i<Y.length
 .have:n=.no:=by
   rcases W0 e with z|⟨j,_,s,_⟩
   .exact z
   .lia
  exact absurd this o
 .rw[d i (by lia)];exact e
def QK:∀d ρ1,cU 2 (J1 (λd ρ=>.ok (ρ.set 0 (.v d))) (J1 (λd ρ=>.ok (ρ.set 1 (.v d))) jL)) d (j2 [x,y] e ρ)=.ok ρ1->lU ρ1 (j2 [x,y] e ρ):=λd ρ1 h=>by
 have f:∀g:List D,g.length=2->J1 (λd ρ=>.ok (ρ.set 0<|.v d)) (J1 (λd ρ=>.ok (ρ.set 1<|.v d)) jL) g (j2 [x,y] e ρ)=.ok ρ1->lU ρ1 (j2 [x,y] e ρ)
  |[a,b],_,h=>by cases h;exact rK (Y:=[x,y]) [(0,a),(1,b)] (by simp)
 unfold cU at h;split at h
 .split at h
  .exact f _ ‹_› h
  .cases h
 .split at h
  .exact f _ ‹_› h
  .cases h
 .cases h
def GA:∀d ρ1,cU 3 (J1 (λd ρ=>.ok (ρ.set 0 (.v d))) (J1 (λd ρ=>.ok (ρ.set 1 (.v d))) (J1 (λd ρ=>.ok (ρ.set 2 (.v d))) jL))) d (j2 [x,y,z] e ρ)=.ok ρ1->lU ρ1 (j2 [x,y,z] e ρ):=λd ρ1 h=>by
 have f:∀g:List D,g.length=3->J1 (λd ρ=>.ok (ρ.set 0<|.v d)) (J1 (λd ρ=>.ok (ρ.set 1<|.v d))<|J1 (λd ρ=>.ok (ρ.set 2<|.v d)) jL) g (j2 [x,y,z] e ρ)=.ok ρ1->lU ρ1 (j2 [x,y,z] e ρ)
  |[a,b,c],_,h=>by cases h;exact rK (Y:=[x,y,z]) [(0,a),(1,b),(2,c)] (by simp)
 unfold cU at h;split at h
 .split at h
  .exact f _ ‹_› h
  .cases h
 .split at h
  .exact f _ ‹_› h
  .cases h
 .cases h
end DL
namespace DL.Att2
open PySem PySem.W PySem.Calls PyProof.Rows
def attach_bits {l:OpenLaw}{n:Nat}{q:bt}{b:List Str}{u:(Str->Option ao)->cq->Prop}{v:cp->cq->Prop}{d:DefRec}
  (B:l.most=some n) (m:d.params.defaults=[])
  (call:∀(w:cp) (p e:a9) (mg s:dS) (fa:bb) (o:Obj) (t cd h:ao) (a:bb) (L:List ao) (ns:List Int),
   Ground q b [] u w p mg s e.heap->v w e.heap->
   e.heap.get? fa=some o->o.data=.func (docDef d.name d.params d.body d.scope t cd h)->e.heap.CodeRec cd d.name->mg d.name=some (.ref fa)->
   e.heap.get? a=some {cls:=.type "list",data:=.seq L.toArray}->IntsAre L ns->ns.length<=n->(∀x∈ns,aBe x<=1048576)->e.gens=#[]->
   fh (be l.prog w) callerA (.call (.ref fa) ⟨[.ref a],[]⟩) (λr s'=>r=.ok (.ret (.bool true))/\OldK e.heap s'.heap/\s'.os=e.os/\AllBare s'.gens) e):
  WalkO q b u v l.row.toRowW d [] (λf L=>PySem.call f L):=by
 intro w p e mg s G Y fa o t cd h C kV E H I y J N z A as O g Q T U;obtain rfl:C=.none:=Dflts.none y m;obtain rfl:kV=.none:=Dflts.noKw y;obtain⟨a,L,ns,rfl,rfl,j,i,k⟩:=Att.script_of B O T;have hb:=DL.AE (ns:=ns) (by first|exact g|exact g.1|(simpa using g));refine enter_call (aDR (call w p e mg s fa o t cd h a L ns G Y E (fd_plain H) I J j i k hb N) λr s' hq=>?_);obtain⟨rfl,h2,h3,h4⟩:=hq;exact⟨.inl ⟨.bool true,.bool true,[],rfl,λ_=>rfl,.bool true,Att.post_true l _,λ_=>⟨aGt,λ_ hm=>(nomatch hm)⟩⟩,h2,h3,h4⟩
end DL.Att2
namespace DL
open PySem PySem.Spec L2
open PyProof.Rows hiding St
variable [Tabs]
end DL
namespace DL
open PySem L2
abbrev bits (a:Int):Nat:=aBe a
def l9 (h:x8 a b):qE (.int a) (.int b)=.ok (.int (a*b)):=hV h
def uF (h:AW b):N5 (.int a) (.int b)=.ok (.int (a.fdiv b)):=hV h
def CC (h:b≠0):lI (.int a) (.int b)=.ok (.int (a.fmod b)):=hV h
def x8.of (d:bits a<=m)(e:bits b<=n)(f:m<=60000000:=by decide)(g:n<=60000000:=by decide):x8 a b:=⟨aAl d f,aAl e g⟩
def bits_add (d:bits a<=n)(e:bits b<=n):bits (a+b)<=n+1:=by have:=PyProof.Rows.bits_add d e;rw[Nat.max_self]at this;exact this
def bits_sub (d:bits a<=n)(e:bits b<=n):bits (a-b)<=n+1:=by have:=PyProof.Rows.bits_sub d e;rw[Nat.max_self]at this;exact this
def bits_mul (d:bits a<=m)(e:bits b<=n):bits (a*b)<=m+n:=PyProof.Rows.bits_mul d e
def bits_neg (b:bits a<=m):bits (-a)<=m:=PyProof.Rows.bits_neg b
def IL (h:a.natAbs<2^n):bits a<=n:=PyProof.Rows.intBits_le h
def GN (h:bits a<=n):a.natAbs<2^n:=PyProof.Rows.lt_pow_of_bits h (aAj n)
@[simp]def P4 (d:D)(ρ:Ev):dZ 0 (Sl.v d::ρ)=.ok d:=rfl
@[simp]def Z0 (i:Nat)(x:Sl)(ρ:Ev):dZ (i+1) (x::ρ)=dZ i ρ:=rfl
@[simp]def K8 (d:D)(ρ:Ev):zN 0 (Sl.v d::ρ)=.ok d:=rfl
@[simp]def CW (d:List D)(ρ:Ev):zN 0 (Sl.o d::ρ)=.ok (.lst d):=rfl
@[simp]def M2 (i:Nat)(x:Sl)(ρ:Ev):zN (i+1) (x::ρ)=zN i ρ:=rfl
@[simp]def E6 (d:D)(ρ:Ev):ZY d ρ=.ok d:=rfl
@[simp]def E9 (ρ:Ev)(F:Ev->R Out):F8 (.ok (.nx ρ)) F=F ρ:=rfl
@[simp]def a0r (d:D)(F:Ev->R Out):F8 (.ok (.rt d)) F=.ok (.rt d):=rfl
@[simp]def a3m (d:D):O6 (.ok (.rt d))=.ok d:=rfl
@[simp]def a3o (ρ:Ev):O6 (.ok (.nx ρ))=.ok .non:=rfl
@[simp]def u0 (f:Ev->R D)(g:Ev->R (List D))(ρ:Ev):t4 f g ρ=(f ρ).bind λd=>(g ρ).bind λds=>.ok (d::ds):=rfl
@[simp]def x9 (ρ:Ev):V2 ρ=.ok []:=rfl
@[simp]def a5z (a:D):sF [a]=.ok (.tup [a]):=rfl
@[simp]def a6l (a b:D):sF [a,b]=.ok (.tup [a,b]):=rfl
@[simp]def a0y (a b c:D):sF [a,b,c]=.ok (.tup [a,b,c]):=rfl
@[simp]def a6c (a b c d:D):sF [a,b,c,d]=.ok (.tup [a,b,c,d]):=rfl
@[simp]def a3g (a:D):CY [a]=.ok (.lst [a]):=rfl
@[simp]def a6g (a b:D):CY [a,b]=.ok (.lst [a,b]):=rfl
@[simp]def a5y (x y z:D):P6 (.tup [x,y,z]) (.int 0)=.ok x:=rfl
@[simp]def a6i (x y z:D):P6 (.tup [x,y,z]) (.int 1)=.ok y:=rfl
@[simp]def a5w (x y z:D):P6 (.tup [x,y,z]) (.int 2)=.ok z:=rfl
@[simp]def a5x (x y z t:D):P6 (.tup [x,y,z,t]) (.int 0)=.ok x:=rfl
@[simp]def a6b (x y z t:D):P6 (.tup [x,y,z,t]) (.int 1)=.ok y:=rfl
@[simp]def a6d (x y z t:D):P6 (.tup [x,y,z,t]) (.int 2)=.ok z:=rfl
@[simp]def a5s (x y z t:D):P6 (.tup [x,y,z,t]) (.int 3)=.ok t:=rfl
@[simp]def a6k (x y:D):P6 (.tup [x,y]) (.int 0)=.ok x:=rfl
@[simp]def a6h (x y:D):P6 (.tup [x,y]) (.int 1)=.ok y:=rfl
def gM (h:rO Y i=some d):P6 (.lst Y) (.int i)=.ok d:=by simp only[P6,h]
def UG {Y:List D}{i:Int}{d:D}(h:rO Y i=some d):P6 (.tup Y) (.int i)=.ok d:=by simp only[P6,h]
@[simp]def fK (a b:Int):qQ (.int a) (.int b)=.ok (.int (a+b)):=rfl
@[simp]def Z1 (a b:Int):QP (.int a) (.int b)=.ok (.int (a-b)):=rfl
@[simp]def a3z (a b:Int):ltR (.int a) (.int b)=.ok (.bl (decide (a<b))):=rfl
@[simp]def DO (a b:Int):leR (.int a) (.int b)=.ok (.bl (decide (a<=b))):=rfl
@[simp]def xN (a b:Int):gtR (.int a) (.int b)=.ok (.bl (decide (b<a))):=rfl
@[simp]def OG (a b:Int):geR (.int a) (.int b)=.ok (.bl (decide (b<=a))):=rfl
@[simp]def a4m (a:Int):a2m (.int a)=.ok (.int (-a)):=rfl
@[simp]def uZ (b:Bool):CT (.bl b)=.ok b:=rfl
@[simp]def a1j (b:Int):toI (.int b)=.ok (some b):=rfl
@[simp]def GB (Y:List D):vX [.lst Y]=.ok (.int Y.length):=rfl
@[simp]def SC (a:Int):a3f [.int a]=.ok (.int (if a<0 then-a else a)):=rfl
@[simp]def a4b (a:Bool):a2n [.bl a]=.ok (.int (if a then 1 else 0)):=rfl
@[simp]def xY (f g:Ev->R Bool)(ρ:Ev):FE f g ρ=(f ρ).bind λb=>if b=true then g ρ else .ok false:=rfl
@[simp]def a3y (f g:Ev->R Bool)(ρ:Ev):orB f g ρ=(f ρ).bind λb=>if b=true then .ok true else g ρ:=rfl
@[simp]def vZ (a b:Int):UR (.int a) (.int b)=.ok (.bl (a==b)):=by simp only[UR,J0,y6];rfl
@[simp]def oq (a b:Int):NA (.int a) (.int b)=.ok (.bl (!(a==b))):=by simp only[NA,J0,y6];rfl
@[simp]def tx (a b c d e f:Int):UR (.tup [.int a,.int b,.int c]) (.tup [.int d,.int e,.int f])=.ok (.bl (a==d&&(b==e&&c==f))):=by simp[UR,J0,N1,y6,Z3]
@[simp]def FN (a b c d e f:Int):NA (.tup [.int a,.int b,.int c]) (.tup [.int d,.int e,.int f])=.ok (.bl (!(a==d&&(b==e&&c==f)))):=by simp[NA,J0,N1,y6,Z3]
def bP {α:Type}{Y:List α}{k:Int}(h0:0<=k):rO Y k=Y[k.toNat]?:=by
 unfold rO ZK;rw[hV h0];by_cases h:k<Y.length
 .rw[hV h];rfl
 .rw[h9 h,aCq.mpr (by omega)];rfl
def fF (n:Nat)(Y:List D):Prop:=∀x∈Y,∃i,x=.int i/\bits i<=n
def VT {n:Nat}{ns:List Int}(h:∀x∈ns,bits x<=n):fF n (ns.map D.int):=λx a=>by obtain⟨i,b,rfl⟩:=aAk.mp a;exact⟨i,rfl,h i b⟩
def BZ (g:Int->Int)(Y:List D)(k:Int):D:=match Y[k.toNat]? with
 |some d=>d
 |none=>.int (g k)
def l7 (b:-((2:Int)^n)<a)(d:a<(2:Int)^n):bits a<=n:=IL (by
 have e:((2^n:Nat):Int)=(2:Int)^n:=by simp
 omega)
def bits_fmod {a b:Int}{n:Nat}(h0:b≠0)(d:bits b<=n):bits (a.fmod b)<=n:=PyProof.Rows.bits_fmod_by h0 d
def bits_fdiv (d:bits a<=n):bits (a.fdiv b)<=n:=PyProof.Rows.bits_fdiv d
def f6 (h:bits a<=m)(b:m<=n:=by decide):bits a<=n:=aAl h b
@[simp]def V8 (Y:List D):jX (.lst Y)=.ok Y:=rfl
@[simp]def JT (Y:List D):IM (.tup Y)=.ok Y:=rfl
@[simp]def zk (G:D->Ev->R Ev)(ft:Ev->R Bool)(fe:Ev->R D)(ρ:Ev):z8 G ft fe ρ []=.ok []:=rfl
@[simp]def iz (i:Nat)(ft:Ev->R Bool)(fe:Ev->R D)(ρ:Ev)(d:D)(ds:List D):z8 (λd ρ=>.ok (ρ.set i (Sl.v d))) ft fe ρ (d::ds)=(ft (ρ.set i (Sl.v d))).bind λb=>if b=true then(fe (ρ.set i (Sl.v d))).bind λr=>(z8 (λd ρ=>.ok (ρ.set i (Sl.v d))) ft fe ρ ds).bind λa=>.ok (r::a)else z8 (λd ρ=>.ok (ρ.set i (Sl.v d))) ft fe ρ ds:=rfl
@[simp]def a3u (d:D):seen (.v d)=.v d:=rfl
def a0k (x:D)(r:List D):P6 (.tup (x::r)) (.int 0)=.ok x:=UG (by rw[bP (by decide)];rfl)
def a1i (x y:D)(r:List D):P6 (.tup (x::y::r)) (.int 1)=.ok y:=UG (by rw[bP (by decide)];rfl)
def a1s (x y z:D)(r:List D):P6 (.tup (x::y::z::r)) (.int 2)=.ok z:=UG (by rw[bP (by decide)];rfl)
theorem iB (Iv:Nat->Ev->Prop)(b:∀n ρ,Iv (n+1) ρ->c ρ=.ok false\/(c ρ=.ok true/\∃ρ2,F ρ=.ok (.nx ρ2)/\Iv n ρ2))(a:∀ρ,¬Iv 0 ρ):∀n ρ,Iv n ρ->∃m ρ',S9 c F n ρ=.ok (.nx ρ')/\Iv m ρ'/\c ρ'=.ok false
 |0,ρ,h=>absurd h (a ρ)
 |n+1,ρ,h=>by
  rcases b n ρ h with e|⟨e,ρ2,d,f⟩
  .exact⟨n+1,ρ,by rw[S9,e];rfl,h,e⟩
  .obtain⟨m,ρ',g,i,j⟩:=iB Iv b a n ρ2 f;exact⟨m,ρ',by rw[S9,e];simp only[R.aa0,if_true,d];exact g,i,j⟩
def LO {Iv:Nat->Ev->Prop}(b:∀n ρ,Iv (n+1) ρ->c ρ=.ok false\/(c ρ=.ok true/\∃ρ2,F ρ=.ok (.nx ρ2)/\Iv n ρ2))(h0:Iv n ρ)(f:∀n ρ',Iv n ρ'->c ρ'=.ok false->O6 (g ρ')=.ok d)(a:∀ρ,¬Iv 0 ρ:=by(intro ρ;rintro⟨x,y,_,z,_⟩;omega)):
  O6 (F8 (S9 c F n ρ) g)=.ok d:=by
 obtain⟨m,ρ',e,h,i⟩:=iB Iv b a n ρ h0;rw[e];exact f m ρ' h i
end DL
namespace DL
open PySem PySem.Spec L2
open PyProof.Rows hiding St
section
variable [Tabs]
section
variable{K:iu}
def EnvOk.ae1 (E:EnvOk K e f H O σ ρ)(i:Nat)(h:H a=none)(d:K.lookup a=none)(r:Reps K H O L Y):
  EnvOk K e f (upd H a (.lst L)) (λb=>O b\/b=a) (σ.set i (some (.ref a))) (ρ.set i (.o Y)):=
 E.ae3 i h d trivial λg=>⟨a,L,rfl,.inr rfl,g,l4,r.ab8 h d⟩
def EnvOk.disown (E:EnvOk K f g H O σ ρ)(e:ρ[i]?=some (.o Y)):∃d,EnvOk K f g H d σ (ρ.set i (.v (.lst Y)))/\(∀b,d b->O b):=by obtain⟨a,L,h,l,m,j,k⟩:=E.own i Y e;exact⟨λb=>O b/\b≠a,E.ae8 e trivial h (λz=>z) ⟨.ref a,rfl,.lst (Q8.of j) (λz=>z.2 rfl) (k.sub λ_ z=>z.1)⟩,λb z=>z.1⟩
def EnvOk.write (E:EnvOk K j k H O σ ρ)(e:ρ[i]?=some (.o Y))(b:σ[i]?=some (some (V.ref a)))(r:Reps K H O d l):
  EnvOk K j k (upd H a (.lst d)) O σ (ρ.set i (.o l))/\Kp H O (upd H a (.lst d)) O:=by
 obtain⟨f,L,m,g,n,h,q⟩:=E.own i Y e;have p:f=a:=by rw[m]at b;cases b;rfl
 subst p;exact E.ad7 e trivial b h trivial trivial λ_ _ _=>⟨f,d,rfl,g,n,l4,r.upd h trivial g⟩
end
section
def tF (X:Cx)(f:Ev->R (List D)):TE:=λσ H Q=>∃g h O ρ,EnvOk X.K g h H O σ ρ/\match f ρ with
 |.ok i=>∀L b a,Same H b->b a=none->Reps X.K b O L i->Q (.ref a) (upd b a<|.lst L)
 |.ex e=>∀d,Same H d->XW X e d
 |.bad=>False
def PF (X:Cx)(e:cu)(f:Ev->R (List D)):Prop:=PE X e (tF X f)
def QM (I:Inv X b σ H s)(h:H a=some o):X.K.lookup a=none:=by
 cases e:X.K.lookup a with
 |none=>rfl
 |some d=>have:=(I.bs a d<|I.ok.mod.kin a d e).2;rw[h]at this;cases this
def PF.pd (h:PF X e f):PD X e (λρ=>(f ρ).bind λds=>.ok (.lst ds)):=UM h λσ H Q i j O ρ E q=>⟨i,j,O,ρ,E,by
 dsimp only at q;cases b:f ρ with
 |ok ds=>rw[b]at q;intro L k a g d r;exact q _ _ (g.trans<|m8 d _) (.lst (Q8.of l4) ((E.grow g).fresh d) (r.same<|m8 d _))
 |ex x=>rw[b]at q;exact q
 |bad=>rw[b]at q;exact q⟩
def lN (h:NP X es f):PF X (.List es e) (λρ=>(f ρ).bind λds=>if ds.length<=sizeLine then .ok ds else .bad):=
 UM (QA h) λσ H Q g i O ρ E q=>⟨g,i,O,ρ,E,by
  dsimp only at q;cases a:f ρ with
  |ok ds=>
   rw[a,R.aa0]at q;intro L j k d;by_cases b:ds.length<=sizeLine
   .rw[hV b]at q;exact⟨by rw[d.length];exact b,λp l=>q L j p k l d⟩
   .rw[h9 b]at q;exact aAm q
  |ex x=>rw[a]at q;exact q
  |bad=>rw[a]at q;exact q⟩
def fY (i:Nat)(J:PF X e f)(Q:X.N.Nodup)(T:X.N[i]?=some x:=by rfl)(U:Loc X.env.scope x:=by first|exact aDd rfl|exact aCn rfl)(Y:ek e (some (.Name x g)) m.line X.env=pure false:=by rfl)(hf:X.fn x=true\/X.env.scope.names.lookup x=some .local:=by first|exact .inl rfl|exact .inr rfl|assumption):
  rP X (.Assign [.Name x g] e m) (λρ=>(f ρ).bind λds=>.ok (.nx (ρ.set i (.o ds)))):=by
 rintro u w h s σ H D I ⟨O,ρ,E,fk,q⟩;dsimp only at q;refine aFm (J7 (J h s σ H (λv A=>∃L d a ds,v=.ref a/\A=upd d a (.lst L)/\Same H d/\d a=none/\Reps X.K d O L ds/\RS X u w H O (.ok (.nx (ρ.set i<|.o ds))) D) I ⟨u,w,O,ρ,E,?_⟩) λv B z9=>?_) Y
 .cases j:f ρ with
  |ok ds=>rw[j,R.aa0]at q;exactλL d a B k r=>⟨L,d,a,ds,rfl,rfl,B,k,r,q⟩
  |ex x=>rw[j]at q;exactλH' s=>q H' (E.same.trans s)
  |bad=>rw[j]at q;exact q
 .obtain⟨y,A,p,r2,L,d,a,ds,j,e2,l,k,r,q'⟩:=z9;subst j e2;refine R8 p Q T U r2 (λs3 I3=>⟨_,_,I3,?_⟩) hf;have hk:=QM p (l4 (H:=d) (a:=a) (o:=.lst L));have C:=(E.grow l).ae1 i k hk r;refine q' _ _ _ C (xT p _ C.trk) ?_;exactλb o t n=>⟨by rw[m9 (u4 (l b o t) k)];exact l b o t,λz=>z.elim n (u4 (l b o t) k)⟩
def NQ (i:Nat)(ρ:Ev):Ev:=match ρ[i]? with
 |some (.o Y)=>ρ.set i (.v (.lst Y))
 |_=>ρ
def yB (i:Nat){st:cv}(h:rP X st F):rP X st (λρ=>F (NQ i ρ)):=by
 intro g j f s σ H D I ⟨O,ρ,E,k,q⟩;dsimp only at q;unfold NQ at q;cases e:ρ[i]? with
 |none=>rw[e]at q;exact h g j f s σ H D I ⟨O,ρ,E,k,q⟩
 |some l=>
  rw[e]at q;cases l with
  |x C=>exact h g j f s σ H D I ⟨O,ρ,E,k,q⟩
  |c m φ=>exact h g j f s σ H D I ⟨O,ρ,E,k,q⟩
  |d J=>exact h g j f s σ H D I ⟨O,ρ,E,k,q⟩
  |no=>exact h g j f s σ H D I ⟨O,ρ,E,k,q⟩
  |v d=>exact h g j f s σ H D I ⟨O,ρ,E,k,q⟩
  |o Y=>obtain⟨p,r,sub⟩:=E.disown e;exact h g j f s σ H D I ⟨p,_,r,λa o t z=>k a o t (sub a z),RS.grow q λb o u n=>⟨u,λz=>n (sub b z)⟩⟩
def CG (i:Nat)(ρ:Ev)(d:D):R Out:=match ρ[i]? with
 |some (.o Y)=>if Y.length<sizeLine then .ok (.nx (ρ.set i<|.o (Y++[d])))else .bad
 |_=>.bad
def W4 (i:Nat)(y:PD X e f)(z:X.N[i]?=some x:=by rfl)(A:HD X.env.scope x:=by first|exact aDd rfl|exact aCn (aDd rfl)|exact aCn (aCn rfl))(B:(x==ix)=false:=by decide)(I:(x==i3)=false:=by decide)(Q:fg (.Name x p) "append" X.env (dm (.Name x p) X.env)=dm (.Name x p) X.env:=by rfl)(T:((cy g (ba [e] X.env)).all (λx=>!x.1)&&(backToKw g (keywordEach [] X.env)).all (λx=>x.1.isSome)
   &&decide ([e].length+([]:List Keyword).length+(if([]:List Keyword).isEmpty then 0 else 1)<30))=true:=by rfl) (U:(b.endLine==g.line)=true:=by rfl) (r:ba [e] X.env=(false,dm e X.env)::ba [] X.env:=by rfl) (jr:(cy g (ba [] X.env)).any (·.1)=false:=by rfl) (vt:ek (.Call (.Attribute (.Name x p) "append" b) [e] [] g) none l.line X.env=pure false:=by rfl):
  rP X (.Expr (.Call (.Attribute (.Name x p) "append" b) [e] [] g) l) (λρ=>(f ρ).bind (CG i ρ)):=λH9 O0=>
 DK (oK (ak PySem.F.plainAttrs_list PySem.F.slot_list_append PySem.F.type_list_append uJ (W2 z A B I) (j0 y u8 r) Q T U r jr) vt) λD σ H O ρ E fk q=>by
 cases j:f ρ with
 |ok d=>
  rw[j,R.aa0]at q;unfold CG at q;cases h:ρ[i]? with
  |none=>rw[h]at q;exact aAm q
  |some s=>
   rw[h]at q;cases s with
   |x C=>exact aAm q
   |c m φ=>exact aAm q
   |d J=>exact aAm q
   |no=>exact aAm q
   |v d=>exact aAm q
   |o Y=>
    dsimp only at q;split at q
    .rename_i hz;obtain⟨a,L,t,h2,h3,u,w⟩:=E.own i Y h;refine⟨_,t,.inl ⟨rfl,L,Q8.of u⟩,H9,O0,O,ρ,E,?_⟩;show JP X H O ((f ρ).bind λd=>(R.ok []).bind λds=>.ok (d::ds)) _;rw[j];intro us H1 k n;cases n with
     |cons n rn=>cases rn;have E1:=E.grow k;refine⟨a,L,_,rfl,rfl,k _ _ u,by rw[w.length];exact hz,?_⟩;obtain⟨E2,k2⟩:=E1.write h t ((w.same k).snoc n);exact q σ _ O E2 fk ((Kp.of k).trans k2)
    .exact aAm q
 |ex x=>
  rw[j]at q;cases h:ρ[i]? with
  |none=>exact(q H E.same).elim
  |some s=>exact(q H E.same).elim
 |bad=>rw[j]at q;exact aAm q
def jw (i:Nat)(ρ:Ev)(d:D):R Out:=match ρ[i]?,d with
 |some (.o Y),.lst N=>if Y.length+N.length<=sizeLine then .ok (.nx (ρ.set i<|.o (Y++N)))else .bad
 |_,_=>.bad
def FT (i:Nat)(ρ:Ev):R (D×Ev):=match ρ[i]? with
 |some (.o Y)=>match Y[Y.length-1]? with
  |some d=>.ok (d,ρ.set i (.o Y.dropLast))
  |none=>.bad
 |_=>.bad
def VN (i:Nat)(n:X.N[i]?=some x:=by rfl)(r:HD X.env.scope x:=by first|exact aDd rfl|exact aCn (aDd rfl)|exact aCn (aCn rfl))(s:(x==ix)=false:=by decide)(t:(x==i3)=false:=by decide)(u:fg (.Name x p) "pop" X.env (dm (.Name x p) X.env)=dm (.Name x p) X.env:=by rfl)(w:(b.endLine==j.line)=true:=by rfl)(y:ek (.Call (.Attribute (.Name x p) "pop" b) [] [] j) none f.line X.env=pure false:=by rfl):
  rP X (.Expr (.Call (.Attribute (.Name x p) "pop" b) [] [] j) f) (λρ=>(FT i ρ).bind λz=>.ok (.nx z.2)):=λU O0=>
 DK (oK (TN PySem.F.plainAttrs_list PySem.F.slot_list_pop PySem.F.type_list_pop PC (W2 n r s t) u w) y) λD σ H O ρ E A q=>by
 unfold FT at q;cases e:ρ[i]? with
 |none=>rw[e]at q;exact aAm q
 |some B=>
  rw[e]at q;cases B with
  |x C=>exact aAm q
  |c m φ=>exact aAm q
  |d J=>exact aAm q
  |no=>exact aAm q
  |v d=>exact aAm q
  |o Y=>
   dsimp only at q;cases g:Y[Y.length-1]? with
   |none=>rw[g]at q;exact aAm q
   |some d=>rw[g]at q;obtain⟨a,L,k,h2,h3,l,h⟩:=E.own i Y e;obtain⟨v,I,g2⟩:=h.get g;refine⟨_,k,.inl ⟨rfl,L,Q8.of l⟩,a,L,v,rfl,rfl,l,by rw[h.length];exact I,?_⟩;obtain⟨Q,T⟩:=E.write e k h.dropLast;exact q σ _ O Q A T
def DF (j i:Nat)(f:X.N.Nodup)(jm:i≠j:=by decide)(w:X.N[i]?=some x:=by rfl)(A:X.N[j]?=some y:=by rfl)(B:HD X.env.scope x:=by first|exact aDd rfl|exact aCn (aDd rfl)|exact aCn (aCn rfl))(I:(x==ix)=false:=by decide)(Q:(x==i3)=false:=by decide)(T:fg (.Name x p) "pop" X.env (dm (.Name x p) X.env)=dm (.Name x p) X.env:=by rfl)(U:(b.endLine==n.line)=true:=by rfl)(g:Loc X.env.scope y:=by first|exact aDd rfl|exact aCn rfl)(vt:ek (.Call (.Attribute (.Name x p) "pop" b) [] [] n) (some (.Name y py)) h.line X.env=pure false:=by rfl)(hf:X.fn y=true\/X.env.scope.names.lookup y=some .local:=by first|exact .inl rfl|exact .inr rfl|assumption):
  rP X (.Assign [.Name y py] (.Call (.Attribute (.Name x p) "pop" b) [] [] n) h) (λρ=>(FT i ρ).bind λz=>.ok (.nx (z.2.set j (.v z.1)))):=λH9 O0=>
 DK (QG f A g (TN PySem.F.plainAttrs_list PySem.F.slot_list_pop PySem.F.type_list_pop PC (W2 w B I Q) T U) vt hf) λD σ H O ρ E r q=>by
 unfold FT at q;cases e:ρ[i]? with
 |none=>rw[e]at q;exact aAm q
 |some sl=>
  rw[e]at q;cases sl with
  |x C=>exact aAm q
  |c m φ=>exact aAm q
  |d J=>exact aAm q
  |no=>exact aAm q
  |v d=>exact aAm q
  |o Y=>
   dsimp only at q;cases k:Y[Y.length-1]? with
   |none=>rw[k]at q;exact aAm q
   |some d=>rw[k]at q;obtain⟨a,L,s,h2,h3,t,l⟩:=E.own i Y e;obtain⟨v,g1,g2⟩:=l.get k;refine⟨_,s,.inl ⟨rfl,L,Q8.of t⟩,a,L,v,rfl,rfl,t,by rw[l.length];exact g1,?_⟩;obtain⟨E2,u⟩:=E.write e s l.dropLast;exact q _ _ O (E2.set j<|u.rep E.trk r g2) r u
def KO (i:Nat)(own fr:List Str)(U:List Nat)(hN:X.N.Nodup)(hc:X.calm=true)(S:CompSc X f own fr U)(hi:ZV X tg A7 fi)(hX:∀(g:R4) (fp:List bb) (X':Cx),(∃s9 Ha C,X'=IN X g s9 Ha (own++fr) f (cO X f C) C fp)->ML X' tg G/\XZ X' k ft/\PD X' l fe)(hG:∀ρ d ρ1,G d (j2 own U ρ)=.ok ρ1->lU ρ1 (j2 own U ρ))(hy:X.N[i]?=some y:=by rfl)(Y:X.env.scope.names.lookup y=some .local:=by rfl)(vt:ek (.ListComp l [⟨tg,A7,k,0⟩] f pos) (some (.Name y py)) spos.line X.env=pure true:=by rfl)(hs:∀x,eQ A7 X.env x=pure x:=by intro _;rfl):
  rP X (.Assign [.Name y py] (.ListComp l [⟨tg,A7,k,0⟩] f pos) spos) (λρ=>((fi ρ).bind λds=>if ds.length<=sizeLine then(z8 G ft fe (j2 own U ρ) ds).bind λh=>R.ok h else .bad).bind λh=>.ok (.nx (ρ.set i (.o h)))):=by
 rintro H9 O0 g s σ H D I ⟨O,ρ,E,fk,q⟩;dsimp only at q;rw[exec_Assign_Name_used _ _ _ _ vt];refine aAa (aEw<|aAa ?_);show aA _ X.A (do let _<-comprehension (.ListComp l [⟨tg,A7,k,0⟩] f pos) f X.env _ (newList []) false (dm A7 X.env) (some<|gc (.Name y py) X.env)) _ _ s;refine aAa (aCH (wpAny_comprehension_free (use:=some (gc (.Name y py) X.env)) (Q:=λ_ t=>SP X g D .next t) rfl hs (gI<|Inv.ab7 I S) S.kind S.names ?_) (λ_ t hq=>aAb (aAb hq)) λ_ _ e=>e);refine J7 (hi g s σ H (λJ H1=>∃ds h,Same H H1/\bw X.K J H1 O ds/\ds.length<=sizeLine/\z8 G ft fe (j2 own U ρ) ds=.ok h/\RS X H9 O0 H O (.ok (.nx (ρ.set i<|.o h))) D) I ⟨H9,O0,O,ρ,E,xT I O E.trk,?_⟩) λv s1 h1=>J7 h1 λitv s2 h2=>?_
 .cases e1:fi ρ with
  |ex x=>rw[e1]at q;exactλH' s=>q H' (E.same.trans s)
  |bad=>rw[e1]at q;exact q
  |ok ds=>
   rw[e1,R.aa0]at q;intro J H1 s1 hJ;split at q
   .rename_i hl;cases e2:z8 G ft fe (j2 own U ρ) ds with
    |ex x=>rw[e2]at q;exact(q H E.same).elim
    |bad=>rw[e2]at q;exact q.elim
    |ok h=>rw[e2]at q;exact⟨ds,h,s1,hJ,hl,e2,q⟩
   .exact q.elim
 .obtain⟨it,fp,tn,J,H2,e,I2,T,km,f2,ds,h,sm,hJ,hl,hrs,q⟩:=h2;subst e;refine CN (RR:=λB C=>compPost (be X.prog X.w) X.A X.xe (some<|gc (.Name y py) X.env) (λ_ t=>SP X g D .next t) B C) hc S (hX g fp) (hG ρ) I2 T km f2 (E.grow sm) hJ.c hrs hl ?_;intro B C t H' m hn hCa j has sm' r nw hC hI;have I3:=hI t.heap (aGx ..);show aA _ X.A (gc (.Name y py) X.env<|.ref B) _ _ t;refine wpAny_assign_Name (uR (i:=i) (v:=.ref B) I3 hN hy (.inl Y) rfl (λs4 I4 z9=>?_)<|.inr Y);obtain⟨a,hsb,ha⟩:=z9;have ig:∀x c,X.env.cells.lookup x=some c->c≠C:=λx c hc=>by obtain⟨v,hv⟩:=I2.cell x c hc;exact aAn (aAv hv.lt j)
  have hCL:C≠X.env.locals:=aDy (aAv I2.lt j);have hCa2:C≠a:=by
   rcases ha with ha|ha
   .rw[ha];exact hCL
   .exact aCa (ig y a ha)
  refine⟨m,hn.sameBut hsb hCa2,λh' ke=>?_⟩;obtain⟨H1,L,yr,u,eH,rr⟩:=nw;subst eH;have E2:=((E.grow sm).grow yr).ae1 i u (QM I3<|l4 (H:=H1) (a:=B) (o:=.lst L)) rr;refine⟨_,_,?_,q _ _ _ E2 (xT I3 _ E2.trk) λb o hb n=>⟨by rw[m9 (u4 ((sm.trans yr) b o hb) u)];exact(sm.trans yr) b o hb,λz=>z.elim n (u4 ((sm.trans yr) b o hb) u)⟩⟩;exact I4.turned (t':=s4.toks) (it:=C) (λb o hb e=>(ke.2 b hb).trans e) hC hCL (.inr (aAl I2.sz j)) ig λp hp=>aAn (aAv (aAg (I2.pin p hp).1) j)
def AA (i:Nat)(own s:List Str)(g:List Nat)(hN:X.N.Nodup)(hc:X.calm=true)(S:CompSc X f own s g)(t:ZV X u A7 Q)(hX:∀(h:R4) (fp:List bb) (p:Cx),(∃s9 Ha C,p=IN X h s9 Ha (own++s) f (cO X f C) C fp)->ML p u G/\XZ p j ft/\PD p l fe)(hG:∀ρ d ρ1,G d (j2 own g ρ)=.ok ρ1->lU ρ1 (j2 own g ρ))(hy:X.N[i]?=some y:=by rfl)(w:X.env.scope.names.lookup y=some .local:=by rfl)(vt:ek (.ListComp l [⟨u,A7,j,0⟩] f A) (some (.Name y py)) m.line X.env=pure true:=by rfl)(hs:∀x,eQ A7 X.env x=pure x:=by intro _;rfl):
  rP X (.Assign [.Name y py] (.ListComp l [⟨u,A7,j,0⟩] f A) m) (λρ=>((Q ρ).bind λds=>if ds.length<=sizeLine then(z8 G ft fe (j2 own g ρ) ds).bind λr=>.ok (D.lst r)else .bad).bind λd=>.ok (.nx (ρ.set i (.v d)))):=λT U=>DK (KO i own s g hN hc S t hX hG hy w vt hs T U) λD σ H O ρ E fk q=>⟨O,ρ,E,fk,by
 dsimp only at q⊢;cases B:Q ρ with
 |ex x=>rw[B]at q;exact q
 |bad=>rw[B]at q;exact q
 |ok ds=>
  rw[B,R.aa0]at q;rw[R.aa0];by_cases hl:ds.length<=sizeLine
  .rw[hV hl]at q⊢;cases I:z8 G ft fe (j2 own g ρ) ds with
   |ex x=>rw[I]at q;exact q
   |bad=>rw[I]at q;exact q
   |ok r=>
    rw[I]at q;intro af H' O' J f' L;by_cases t:i<ρ.length
    .obtain⟨O2,E2,sub⟩:=J.disown (i:=i) (Y:=r) (by rw[aBK t]);rw[List.set_set]at E2;exact q af H' O2 E2 (λa o k z=>f' a o k (sub a z)) λb o hb n=>⟨(L b o hb n).1,λz=>(L b o hb n).2 (sub b z)⟩
    .have e:∀x,ρ.set i x=ρ:=λx=>List.set_eq_of_length_le (by lia);have q:RS X T U H O (.ok (.nx (ρ.set i<|.v (.lst r)))) D:=q;rw[e]at J q;exact q af H' O' J f' L
  .rw[h9 hl]at q;exact aAm q⟩
def lT {st:cv}:rP X st (λ_=>.bad):=λa b=>DK SF λD σ H O ρ E d q=>q
end
end
section
theorem cJ {α β:Type}[BEq α][LawfulBEq α]:∀{l:List (α×β)} {a:α} {b:β},(l.map (·.1)).Nodup->(a,b)∈l->l.lookup a=some b
 |(x,y)::l,a,b,h,f=>by
  rw[aAi,aAF]at h;rw[aBj];rcases aAd.mp f with e|d
  .cases e;simp
  .have:(a==x)=false:=by rw[beq_eq_false_iff_ne];rintro rfl;exact h.1 (aAk.mpr ⟨(a,b),d,rfl⟩)
   rw[this];exact cJ h.2 d
theorem mem_lookup {α β:Type}[BEq α][LawfulBEq α]:∀{l:List (α×β)} {a:α} {b:β},l.lookup a=some b->(a,b)∈l
 |(x,y)::l,a,b,h=>by
  rw[aBj]at h;split at h
  .rename_i q;cases h;rw[eq_of_beq q];exact .head _
  .exact .tail _ (mem_lookup h)
def xI (o:Obj):Prop:=∃v,o.data=.cell v
def dW (H:Hp)(cs:R4):Hp:=λb=>match cs.lookup b with
 |some o=>some (.frz o (.own b))
 |none=>H b
def R7 (H:Hp)(cs:R4):Hp:=λb=>match cs.lookup b with
 |some _=>none
 |none=>H b
section
variable{K:iu}
def fG (e:cs.lookup b=some o):dW H cs b=some (.frz o (.own b)):=by unfold dW;rw[e]
def R9 (e:cs.lookup b=none):dW H cs b=H b:=by unfold dW;rw[e]
def bO (e:cs.lookup b=some o):R7 H cs b=none:=by unfold R7;rw[e]
def N9 (e:cs.lookup b=none):R7 H cs b=H b:=by unfold R7;rw[e]
def G2 (a:∀b o,cs.lookup b=some o->H b=none)(e:H b=some u):dW H cs b=some u:=by
 cases q:cs.lookup b with
 |none=>rw[R9 q];exact e
 |some o=>rw[a b o q]at e;cases e
def fM (a:∀b o,cs.lookup b=some o->H b=none):Same H (dW H cs):=λb u e=>G2 a e
def A0 (a:∀b o,cs.lookup b=some o->H b=some (.frz o (.own b)))(e:H b=some u)(ne:∀o,cs.lookup b=some o->u≠.frz o (.own b)):R7 H cs b=some u:=by
 cases q:cs.lookup b with
 |none=>rw[N9 q];exact e
 |some o=>rw[a b o q]at e;cases e;exact absurd rfl (ne o q)
def OX (x:gO P w H h)(a:∀b o,cs.lookup b=some o->h.get? b=some o/\H b=none):gO P w (dW H cs) h:=λb u e=>by
 have d:∀b o,cs.lookup b=some o->H b=none:=λb o q=>(a b o q).2;cases q:cs.lookup b with
 |some o=>rw[fG q]at e;cases e;exact⟨(a b o q).1,⟨o,(a b o q).1⟩⟩
 |none=>rw[R9 q]at e;exact(x b u e).ac1 (λ_ _ _ z=>z) (λc z=>G2 d z) λc u _ z=>G2 d z
def RI (x:gO P w H h)(d:∀b o,cs.lookup b=some o->H b=some (.frz o (.own b))/\xI o):gO P w (R7 H cs) h:=λb u e=>by
 have g:∀b o,cs.lookup b=some o->H b=some (.frz o (.own b)):=λb o q=>(d b o q).1;cases q:cs.lookup b with
 |some o=>rw[bO q]at e;cases e
 |none=>rw[N9 q]at e;refine(x b u e).ac1 (λ_ _ _ z=>z) (λc z=>A0 g z λo _ a=>by cases a) λc u f z=>A0 g z λo q a=>?_;subst a;obtain⟨L,j⟩:=f;obtain⟨v,i⟩:=(d c o q).2;rw[j]at i;cases i
def gw (U:Un fs [] (dW H cs) g h h')(k:gO P w g h')(i:∀b o,cs.lookup b=some o->h.get? b=some o/\H b=none/\xI o):Un fs [] H (R7 g cs) h h'/\gO P w (R7 g cs) h'/\∀b o,cs.lookup b=some o->g b=some (.frz o (.own b)):=by
 have j:∀b o,cs.lookup b=some o->H b=none:=λb o q=>(i b o q).2.1;have a:∀b o,cs.lookup b=some o->g b=some (.frz o (.own b)):=λb o q=>U.frzs b o _ (fG q);refine⟨⟨λb o e n l d=>?_,λb o e n l d=>?_,λb o e n d=>?_,λb o e d=>U.there b o e d,λb Y e=>?_,λb o u e=>?_,λb m e=>?_⟩,RI k λb o q=>⟨a b o q,(i b o q).2.2⟩,a⟩
 .cases q:cs.lookup b with
  |none=>exact U.keep b o e (by rw[R9 q];exact n) l d
  |some f=>have:=(i b f q).1;rw[e]at this;cases this;exact(k b _<|a b o q).1
 .cases q:cs.lookup b with
  |none=>exact U.slot b o e (by rw[R9 q];exact n) l d
  |some f=>have:=(i b f q).1;rw[e]at this;cases this;exact⟨o.slots,(k b _<|a b o q).1⟩
 .cases q:cs.lookup b with
  |none=>rw[N9 q];exact U.free b o e (by rw[R9 q];exact n) d
  |some f=>exact bO q
 .exact A0 a (U.tups b Y<|G2 j e) λo _ z=>by cases z
 .refine A0 a (U.frzs b o u<|G2 j e) λf q z=>?_;rw[j b f q]at e;cases e
 .exact A0 a (U.tbls b m<|G2 j e) λo _ z=>by cases z
def rj (U:Un fs [] (R7 H cs) f h h')(k:gO P w f h')(i:∀b o,cs.lookup b=some o->h.get? b=some o/\H b=some (.frz o (.own b))/\b∉fs):Un fs [] H (dW f cs) h h'/\gO P w (dW f cs) h'/\Same f (dW f cs):=by
 have j:∀b o,cs.lookup b=some o->H b=some (.frz o (.own b)):=λb o q=>(i b o q).2.1;have g:∀b o,cs.lookup b=some o->f b=none:=λb o q=>U.free b o (i b o q).1 (bO q) (by simp);have m:∀b o,cs.lookup b=some o->h'.get? b=some o:=λb o q=>U.keep b o (i b o q).1 (bO q) (i b o q).2.2 (by simp);have a:∀b,H b=none->cs.lookup b=none:=λb n=>by
  cases q:cs.lookup b with
  |none=>rfl
  |some o=>rw[j b o q]at n;cases n
 refine⟨⟨λb o e n l d=>U.keep b o e (by rw[N9 (a b n)];exact n) l d,λb o e n l d=>U.slot b o e (by rw[N9 (a b n)];exact n) l d,λb o e n d=>?_,λb o e d=>U.there b o e d,λb Y e=>?_,λb o u e=>?_,λb p e=>?_⟩,
  OX k λb o q=>⟨m b o q,g b o q⟩,fM g⟩
 .rw[R9 (a b n)];exact U.free b o e (by rw[N9 (a b n)];exact n) d
 .exact G2 g (U.tups b Y (A0 j e λo _ z=>by cases z))
 .cases q:cs.lookup b with
  |none=>exact G2 g (U.frzs b o u (by rw[N9 q];exact e))
  |some r=>rw[j b r q]at e;cases e;exact fG q
 .exact G2 g (U.tbls b p (A0 j e λo _ z=>by cases z))
def GU (d:∀b o,cs.lookup b=some o->H b=some (.frz o (.own b)))(q:Y8 K H a Y):Y8 K (R7 H cs) a Y:=by
 rcases q with(q|⟨o,q⟩)|q
 .exact .inl (.inl (A0 d q λo _ z=>by cases z))
 .exact .inl (.inr ⟨o,A0 d q λo _ z=>by cases z⟩)
 .exact .inr q
def GY (d:∀b o,cs.lookup b=some o->H b=some (.frz o (.own b)))(q:Q8 K H a Y):Q8 K (R7 H cs) a Y:=by
 rcases q with(q|⟨o,q⟩)|q
 .exact .inl (.inl (A0 d q λo _ z=>by cases z))
 .exact .inl (.inr ⟨o,A0 d q λo _ z=>by cases z⟩)
 .exact .inr q
def GV {cs:R4}{φ:cq->Prop}(a:∀b o,cs.lookup b=some o->H b=some (.frz o (.own b)))(q:H b=some (.ext φ)):R7 H cs b=some (.ext φ):=by
 unfold R7;cases e:cs.lookup b with
 |none=>simpa[e]using q
 |some o=>have:=a b o e;rw[q]at this;cases this
def Rep.hid (a:∀b o,cs.lookup b=some o->H b=some (.frz o (.own b)))(r:Rep K H O v d):Rep K (R7 H cs) O v d:=r.mono (λ_ _ q=>GU a q) (λ_ _ n q=>⟨n,GY a q⟩) λb φ n q=>⟨n,GV a q⟩
def Reps.hid (a:∀b o,cs.lookup b=some o->H b=some (.frz o (.own b)))(r:Reps K H O v d):Reps K (R7 H cs) O v d:=r.mono (λ_ _ q=>GU a q) (λ_ _ n q=>⟨n,GY a q⟩) λb φ n q=>⟨n,GV a q⟩
end
variable [Tabs]
section
variable(P:bt) (w:cp) (K:iu) (mg:dS) (base:cq) (k:Nat)
def MK (n:Nat)(m:List D->R D)(H:Hp)(O:bb->Prop)(a:bb):Prop:=
 (∃h i j l,H a=some (.frz ⟨h,i,.func j,l⟩ (.own a)))/\
 ∀(A:cf) (b:List Env) (s:a9) (g:List ao) (L:List V) (e:List D) (d:D) (Q:VK) (E:XK),Room k A->Env0 P w K mg base A b s H->p5 L g->Reps K H O L e->e.length=n->(∀a,O a->∃o,H a=some o/\Mt o)->Tb H->aX K O->m e=.ok d->
  (∀v f,Same H f->Rep K f O v d->Q v f)->fh (be P w) A (.call (.ref a) ⟨g,[]⟩) (CR vU b P w H s Q E) s
end
open Classical in
def callC (Φ:(List D->R D)->Hp->(bb->Prop)->bb->Prop) (i:Nat) (f:Ev->R (List D)):Ev->R D:=λρ=>match ρ[i]? with
 |some (.c m φ)=>if φ=Φ m then(f ρ).bind m else .bad
 |_=>.bad
section
def NL (i:Nat)(ha:NP X (e::es) f)(hl:LB f n)(hr:Room k X.A)(hN:X.N[i]?=some x:=by rfl)(hv:HD X.env.scope x:=by first|exact aDd rfl|exact aCn (aDd rfl)|exact aCn (aCn rfl))(hd:(x==ix)=false:=by decide)(ia:(x==i3)=false:=by decide)(he:ba (e::es) X.env=(false,dm e X.env)::ba es X.env:=by rfl)(bp:(cy h (ba es X.env)).any (·.1)=false:=by rfl):
  PD X (.Call (.Name x p) (e::es) [] h) (callC (MK X.prog X.w X.K X.mg X.base k n) i f):=by
 refine zR λb s σ H Q I H9 O0 O ρ E q=>?_;unfold callC at q;cases y:ρ[i]? with
 |none=>rw[y]at q;exact q.elim
 |some l=>
  rw[y]at q;cases l with
  |c m φ=>
   dsimp only at q;split at q
   .rename_i B;subst B;obtain⟨a,h1,U⟩:=E.slot i _ y;obtain⟨⟨Y,od,fd,l,hf⟩,_⟩:=U H O (Kp.refl _ _);refine aBi (J7 (W2 hN hv hd ia b s σ H (λv H'=>v=.ref a/\H'=H) I ⟨_,h1,rfl,rfl⟩) λu s1 z9=>?_);obtain⟨v,H1,I1,r1,ev,eH⟩:=z9;subst ev eH;obtain rfl:u=aDJ a:=r1;refine PySem.W.callWith_F ⟨Y,od,fd,l,(I1.hok a _ hf).1⟩ (J7 (ha h b s1 σ H1 _ I1 ⟨H9,O0,O,ρ,E,JP.seq q⟩) λus s2 ⟨L,H2,o,rv,C,e2,J,rr,g⟩=>⟨⟨Y,od,fd,l,(o.hok a _<|J _ _ hf).1⟩,?_⟩) he bp;cases t:m C with
    |ex z=>rw[t]at g;exact(g H2<|Same.refl _).elim
    |bad=>rw[t]at g;exact g.elim
    |ok d=>
     rw[t]at g;have T:=E.grow J;refine wpAny_call (aDR ((U H2 O<|Kp.of J).2 X.A X.stack s2 us L C d Q (λ_ _ _=>False) hr o.af4 rv rr (hl ρ C e2) T.trk T.tab (xT o O T.trk) t g) λr s' j=>?_);cases r with
     |error e=>exact j.elim
     |ok fl=>
      cases fl with
      |ret u=>exact o.after j
      |next=>exact aAm j
      |brk=>exact aAm j
      |cont=>exact aAm j
   .exact q.elim
  |_=>exact q.elim
end
def spF (K:iu)(Φ:(List D->R D)->Hp->(bb->Prop)->bb->Prop)(M:D->(List D->R D)->(List D->R D)->R D):Sp:=λL H Q _=>∃O v1 g h i j k d,L=[v1,.ref h,.ref j]/\Rep K H O v1 g/\(∀b e,Kp H O b e->Φ i b e h)/\(∀b e,Kp H O b e->Φ k b e j)/\
 (∀a,O a->∃o,H a=some o/\Mt o)/\Tb H/\aX K O/\M g i k=.ok d/\∀v f,Same H f->Rep K f O v d->Q v f
def mD (N:List Str)(Φ:(List D->R D)->Hp->(bb->Prop)->bb->Prop)(d:D)(a b:List D->R D):Ev:=.v d::.c a (Φ a)::.c b (Φ b)::aCT (N.length-3) Sl.no
def DH {K:iu}{H:Hp}{O:bb->Prop}{N:List Str}{v1:V}{f:D}{a1 a2:bb}{g k:List D->R D}{Φ:(List D->R D)->Hp->(bb->Prop)->bb->Prop}(r:Rep K H O v1 f)(l:∀d e,Kp H O d e->Φ g d e a1)(m:∀d e,Kp H O d e->Φ k d e a2)
  (t:∀a,O a->∃o,H a=some o/\Mt o) (tb:Tb H):EnvOk K H O H O (start N [v1,.ref a1,.ref a2]) (mD N Φ f g k)where
 len:=by simp[L2.start,mD]
 same:=Same.refl H
 sub:=λ_ h=>h
 trk:=t
 trk0:=λa h=>let⟨o,q,_⟩:=t a h;⟨o,q⟩
 tab:=tb
 slot:=λi n h=>by
  match i with
  |0=>cases h;exact⟨v1,rfl,r⟩
  |1=>cases h;exact⟨a1,rfl,l⟩
  |2=>cases h;exact⟨a2,rfl,m⟩
  |i+3=>
   have b:(aCT (N.length-3) Sl.no)[i]?=some n:=h;rw[aBy]at b;split at b
   .cases b;trivial
   .cases b
 inj:=λi j x y a h _ o=>by
  match i with
  |0=>cases h;exact o.elim
  |1=>cases h;exact o.elim
  |2=>cases h;exact o.elim
  |i+3=>
   have b:(aCT (N.length-3) Sl.no)[i]?=some x:=h;rw[aBy]at b;split at b
   .cases b;exact o.elim
   .cases b
section
variable{K:iu}
def fnF {x qual:Str}{st:cv}{f:bb}{fd:dn}{N ps:List Str}{k:Nat}{M:D->(List D->R D)->(List D->R D)->R D}{Φ:(List D->R D)->Hp->(bb->Prop)->bb->Prop}{F:Ev->R Out}(m:Fun K x qual st f fd)(S:FnScope N ps (c8 st))(n:ps.length=3)
  (p:∀(T:ao) (A:cf) (a:List Env) (s:a9) (H:Hp) (E:XK),Room k (A.deeper (envOfC qual (c8 st) s.heap.objs.size f T))->bV (UX P w K mg base N qual (c8 st) f T A a s H E) (u7 st) F)
  (t:∀g i j d,M g i j=.ok d->O6 (F (mD N Φ g i j))=.ok d):FnOk P w K mg base vU (k+1) f fd ps (spF K Φ M):=by
 refine m.ok S (λL H Q E z=>by obtain⟨O,v1,g,u,i,v,j,d,e,_⟩:=z;rw[e,n];rfl) (λT A a s H L Q E y z=>?_);obtain⟨O,v1,g,u,i,v,j,d,B,r,C,I,J,U,Y,e,q⟩:=z;subst B;refine⟨_,p T A a s H E y H O,O,_,DH r C I J U,Y,?_⟩;have h:=t g i j d e;cases l:F (mD N Φ g i j)with
 |ok o=>
  rw[l]at h;cases o with
  |rt d'=>have b:R.ok d'=R.ok d:=h;injection b with b;subst b;exact q
  |nx ρ=>have b:R.ok D.non=R.ok d:=h;injection b with b;subst b;exactλaf H' O' E' _ _=>q .non H' E'.same .non
  |bk ρ=>cases h
  |ct ρ=>cases h
 |ex x=>rw[l]at h;cases h
 |bad=>rw[l]at h;cases h
end
structure NScope (ps ls fn:List Str)(sc:Scope):Prop where
 kind:sc.kind=.function
 co:sc.isCoroutine=false
 gen:sc.isGenerator=false
 nd:(ps++(ls++fn)).Nodup
 par:∀x∈ps,sc.names.lookup x=some .local
 fre:∀x∈fn,sc.names.lookup x=some .free
 all:∀x,sc.names.lookup x=some .free->x∈fn
 nocell:∀y∈sc.names,y.2≠.cell
abbrev cxM (P:bt)(w:cp)(K:iu)(mg:dS)(base:cq)(N:List Str)(env:Env)(A:cf)(outer:List Env)(s:a9)(H:Hp):Cx where
 prog:=P
 w:=w
 K:=K
 mg:=mg
 base:=base
 A:=A.deeper env
 N:=N
 s9:=s
 H9:=H
 env:=env
 outer:=outer
 stack:=env::outer
 ex:=[]
 calm:=true
 fn:=λ_=>false
 pn:=[]
 xe:=λ_ _=>False
def N3 {α:Type}(L:List α)(n:Nat)(no:α)(ws:List α):List α:=L++(aCT n no++ws)
def gU {α:Type}{L ws:List α}{n i:Nat}{no a:α}(h:(N3 L n no ws)[i]?=some a):L[i]?=some a\/a=no\/(L.length+n<=i/\ws[i-(L.length+n)]?=some a):=by
 unfold N3 at h;by_cases d:i<L.length
 .rw[aAZ d]at h;exact .inl h
 .rw[aAz (by lia)]at h;by_cases b:i-L.length<n
  .rw[aAZ (by simpa using b),aBy,hV b]at h;exact .inr (.inl (Option.some.inj h).symm)
  .rw[aAz (by simpa using b),aCt]at h;exact .inr (.inr ⟨by lia,by rw[show i-(L.length+n)=i-L.length-n by lia];exact h⟩)
def OJ {α:Type}{L ws:List α}{n i:Nat}{no a:α}(h:L[i]?=some a):(N3 L n no ws)[i]?=some a:=by unfold N3;rw[aAZ (aAC.mp h).1];exact h
def TJ {α:Type}{L ws:List α}{n i:Nat}{no a:α}(h:ws[i]?=some a):(N3 L n no ws)[L.length+n+i]?=some a:=by unfold N3;rw[aAz (by lia),aAz (by simp;lia),aCt,show L.length+n+i-L.length-n=i by lia];exact h
section
variable{K:iu}
def ES {A:cf}{g:List Env}{s:a9}{H:Hp}{N:List ao}{L wv:List V}{h₁:cq}{tk:Nat}(S:NScope ps k fn d)(T:A.handled=none)(j:Env0 P w K mg base A g s H)(B:L.length=ps.length)(r:p5 L N)(O:wv.length=fn.length)
  (Q:∀(i:Nat) (x:Str) (v:V),fn[i]?=some x->wv[i]?=some v->∃c u,clos.lookup x=some c/\RelV v u/\s.heap.IsCell c (some u)) (t:∀x c,clos.lookup x=some c->(∃v,s.heap.IsCell c v)/\H c=none)
  (U:∀x y c,clos.lookup x=some c->clos.lookup y=some c->x=y) (Y:h₁.Ns s.heap.objs.size (λx=>(ps.zip N).reverse.lookup x)) (C:∀b o,s.heap.get? b=some o->h₁.get? b=some o):
  Inv (cxM P w K mg base (ps++(k++fn)) (PySem.W.envX qual d s.heap.objs.size fa cd clos) A g s H) [] (N3 (L.map some) k.length none (wv.map some)) H {s with heap:=h₁,toks:=tk}:=by
 have l:∀b:bb,b∉(cxM P w K mg base (ps++(k++fn)) (PySem.W.envX qual d s.heap.objs.size fa cd clos) A g s H).ex:=λb z=>absurd (show b∈([]:List bb)from z) (by simp);have I:ps.Nodup:=(aCX.mp S.nd).1;refine⟨⟨j.mod,S.kind,rfl,rfl,aAj _,U,λy m=>?_,λy c hf _=>(by cases hf),λ_=>T,aFW j.frames,.inr ⟨rfl,rfl⟩,λb z=>absurd z (l b),j.bs,j.bsz,λb _ _=>l b,λb z=>absurd z (l b),j.funs,j.frf⟩,
  rfl,j.bare,Un.kept C,⟨_,Y,λi y v h1 f h3=>?_⟩,λy c h=>?_,j.hok.fresh (aAj _),λy c h=>(t y c h).2,λp hp=>absurd (show p∈([]:R4)from hp) (by simp),j.hok.kept C,?_⟩
 .have m:d.names.lookup y=some .cell\/d.names.lookup y=some .free:=m;rcases m with m|m
  .exact absurd rfl (S.nocell _<|PySem.mem_of_lookup m)
  .have hm:=S.all y m;obtain⟨i,E,e⟩:=aBo hm;have hw:i<wv.length:=by rw[O];exact E
   obtain⟨c,u,q,_⟩:=Q i y wv[i] (by rw[aAh E,e]) (aAh hw);exact⟨c,q⟩
 .have n:(ps++(k++fn))[i]?=some y:=h1;rcases gU f with f|f|⟨h4,f⟩
  .rw[aAK]at f;cases e:L[i]? with
   |none=>rw[e]at f;cases f
   |some a=>
    rw[e]at f;have J:a=v:=Option.some.inj (Option.some.inj f);subst J;obtain⟨u,hu,rv⟩:=r.get e;have E:i<ps.length:=by rw[<-B];exact(aAC.mp e).1
    rw[aAZ E]at n;refine⟨u,rv,.inl ⟨S.par y (aAw n),?_⟩⟩;refine cJ ?_ ?_
    .rw[aFB];refine(List.reverse_perm _).nodup_iff.mpr ?_;rw[aFz (by rw[<-B,r.length];exact aAj _)];exact I
    .rw[aCz];exact aAw (i:=i) (by rw[aBF];exact⟨n,hu⟩)
  .cases f
  .rw[aAf]at h4 f;rw[aAK]at f;cases e:wv[i-(L.length+k.length)]? with
   |none=>rw[e]at f;cases f
   |some a=>rw[e]at f;have J:a=v:=Option.some.inj (Option.some.inj f);subst J;rw[aAz (by lia),aAz (by lia),<-B,show i-L.length-k.length=i-(L.length+k.length)by lia]at n;obtain⟨c,u,q1,q2,q3⟩:=Q _ y a n e;exact⟨u,q2,.inr ⟨.inr (S.fre y<|aAw n),c,q1,q3.keeps C⟩⟩
 .obtain⟨⟨v,z⟩,_⟩:=t y c h;exact⟨v,z.keeps C⟩
 .unfold N3;simp[B,O]
def FC {H:Hp}{O:bb->Prop}{L wv:List V}{ds wd:List D}{n:Nat}(r:Reps K H O L ds)(k:Reps K H O wv wd)(t:∀a,O a->∃o,H a=some o/\Mt o)(tb:Tb H):
  EnvOk K H O H O (N3 (L.map some) n none (wv.map some)) (N3 (ds.map Sl.v) n .no (wd.map Sl.v))where
 len:=by unfold N3;simp[r.length,k.length]
 same:=Same.refl H
 sub:=λ_ h=>h
 trk:=t
 trk0:=λa h=>let⟨o,q,_⟩:=t a h;⟨o,q⟩
 tab:=tb
 slot:=λi l h=>by
  rcases gU h with h|h|⟨m,h⟩
  .rw[aAK]at h;cases e:ds[i]? with
   |none=>rw[e]at h;cases h
   |some d=>rw[e]at h;have b:Sl.v d=l:=Option.some.inj h;subst b;obtain⟨v,f,g⟩:=r.get e;exact⟨v,OJ (by rw[aAK,f];rfl),g⟩
  .subst h;trivial
  .rw[aAK,aAf]at h;rw[aAf]at m;cases e:wd[i-(ds.length+n)]? with
   |none=>rw[e]at h;cases h
   |some d=>rw[e]at h;have b:Sl.v d=l:=Option.some.inj h;subst b;obtain⟨v,f,g⟩:=k.get e;refine⟨v,?_,g⟩;have:=TJ (L:=L.map some) (n:=n) (no:=(none:Option V)) (ws:=wv.map some) (i:=i-(ds.length+n)) (a:=some v) (by rw[aAK,f];rfl);rw[aAf,r.length,show ds.length+n+(i-(ds.length+n))=i by lia]at this;exact this
 inj:=λi j x y a h _ o=>by
  rcases gU h with h|h|⟨_,h⟩
  .obtain⟨d,_,rfl⟩:=aAk.mp (aAw h);exact o.elim
  .subst h;exact o.elim
  .obtain⟨d,_,rfl⟩:=aAk.mp (aAw h);exact o.elim
def jj {name:Str}{j:Arguments}{body:List cv}{doc pm ctv:ao}{N:bb}{oc:Obj}{k:Nat}{m:List D->R D}{F:Ev->R Out}{H:Hp}{O:bb->Prop}{cs:R4}{wv:List V}{wd:List D}(S:NScope ps ls fn g)
  (hb:∀(A:cf) (f:List Env) (s:a9) (H:Hp),Room k (A.deeper (PySem.W.envX qual g s.heap.objs.size fa (.ref N) clos))->bV (cxM P w K mg base (ps++(ls++fn)) (PySem.W.envX qual g s.heap.objs.size fa (.ref N) clos) A f s H) body F)
  (hm:∀ds d,ds.length=ps.length->m ds=.ok d->O6 (F (N3 (ds.map Sl.v) ls.length .no (wd.map Sl.v)))=.ok d)
  (vv:∀(s:a9) (U:List ao),U.length=ps.length->BindsTo s (PySem.W.fnX name qual j body g clos .none .none doc pm none (.ref N) ctv) ⟨U,[]⟩ (ps.zip U))
  (hfa:H fa=some (.frz (PySem.W.fnMade name qual j body g clos doc pm N ctv) (.own fa))) (hc:H N=some (.frz oc (.own N))) (bo:∃L t,oc.data=.fields L/\L[1]?=some (.str qual t))
  (vg:∀b o,cs.lookup b=some o->H b=some (.frz o (.own b))/\xI o) (xv:∀(i:Nat) (x:Str) (v:V),fn[i]?=some x->wv[i]?=some v->∃c u o,clos.lookup x=some c/\cs.lookup c=some o/\o.data=.cell (some u)/\RelV v u)
  (hcc:∀x c,clos.lookup x=some c->∃o,cs.lookup c=some o) (nh:∀x y c,clos.lookup x=some c->clos.lookup y=some c->x=y) (sv:wv.length=fn.length) (hr:Reps K H O wv wd) (hO:∀a,O a->∃o,H a=some o/\Mt o):
  ∀l Y,Kp H O l Y->MK P w K mg base (k+1) ps.length m l Y fa:=by
 intro l Y kp;have fz:∀b o u,H b=some (.frz o u)->l b=some (.frz o u):=λb o u e=>(kp b _ e λz=>by obtain⟨o',q,mt⟩:=hO b z;rw[e]at q;cases q;exact mt).1;have T:∀b o,cs.lookup b=some o->l b=some (.frz o (.own b)):=λb o q=>fz _ _ _ (vg b o q).1;refine⟨⟨_,_,_,_,fz _ _ _ hfa⟩,λA f s U L ds d Q E og B rv rr hl ht tb fk em q=>?_⟩;have KX:K.In s.heap:=B.mod.kin.keeps λb o e=>(B.bs b o e).1;have lim:s.heap.NoLimit:=B.mod.nolimit.keeps λb o e=>(B.bs b o e).1;have gfa:=(B.hok fa _<|fz _ _ _ hfa).1;have goc:=(B.hok N _<|fz _ _ _ hc).1;obtain⟨ovs,ot,od1,od2⟩:=bo;have hidn:∀b,l b=none->R7 l cs b=none:=λb n=>by
  cases z:cs.lookup b with
  |none=>rw[N9 z];exact n
  |some o=>exact bO z
 have e1:Env0 P w K mg base A f s (R7 l cs):=⟨B.frames,B.mod,λb o e=>⟨(B.bs b o e).1,hidn b (B.bs b o e).2⟩,B.bsz,B.funs,λb hb=>hidn b (B.frf b hb),RI B.hok λb o z=>⟨T b o z,(vg b o z).2⟩,B.bare⟩;have yv:∀b o,cs.lookup b=some o->s.heap.get? b=some o:=λb o z=>(B.hok b _<|T b o z).1;have cfs:∀b o,cs.lookup b=some o->b∉AM f:=λb o z hb=>by have:=B.frf b hb;rw[T b o z]at this;cases this
 have hul:U.length=ps.length:=by rw[<-rv.length,rr.length];exact hl
 have hvl:L.length=ps.length:=by rw[rr.length];exact hl
 have rwv:Reps K (R7 l cs) Y wv wd:=(kp.ac8 hO fk hr).hid T;have tb1:Tb (R7 l cs):=λp hp=>A0 T (tb p hp) λo _ z=>by cases z
 have ht1:∀a,Y a->∃o,R7 l cs a=some o/\Mt o:=λa z=>by obtain⟨o,q1,q2⟩:=ht a z;exact⟨o,A0 T q1 λo' _ z'=>by subst z';exact q2,q2⟩
 let Q':VK:=λv H3=>(∀b o,cs.lookup b=some o->H3 b=none)->Q v (dW H3 cs)
 have qq:∀v C,Same (R7 l cs) C->Rep K C Y v d->Q' v C:=λv C sm r hn=>by
  refine q v _ (λb u e=>?_) (r.same<|fM hn);cases z:cs.lookup b with
  |none=>exact G2 hn (sm b u (by rw[N9 z];exact e))
  |some o=>rw[T b o z]at e;cases e;exact fG z
 have fin:∀{u:ao} {s':a9},CE f P w (R7 l cs) s Q' u s'->CE f P w l s Q u s':=λ{u s'} ⟨v,H3,os,bare,un,hok,r,qv⟩=>by obtain⟨U2,k2,xu⟩:=rj un hok λb o z=>⟨yv b o z,T b o z,cfs b o z⟩;exact⟨v,_,os,bare,U2,k2,r,qv λb o z=>un.free b o (yv b o z) (bO z) (by simp)⟩
 refine codeAny_call_def (fd:=PySem.W.fnX name qual j body g clos .none .none doc pm none (.ref N) ctv) (body:=body) (binds:=ps.zip U) og.depth gfa rfl lim ⟨N,oc,ovs,ot,rfl,goc,od1,od2⟩ rfl (vv s U hul) S.nocell (λy hy=>S.par y.1 (aDW hy).1) (λh₁ yn hk=>?_) S.co S.gen S.kind;show aA (be P w) (A.deeper<|PySem.W.envX qual g s.heap.objs.size fa (.ref N) clos) (execs body<|PySem.W.envX qual g s.heap.objs.size fa (.ref N) clos) _ _ _;have I:=ES (qual:=qual) (fa:=fa) (cd:=.ref N) (clos:=clos) (tk:=s.toks+(ps.zip U).length) S og.hd e1 hvl rv sv (λi x v h1 h2=>by
   obtain⟨c,u,o,q1,q2,q3,q4⟩:=xv i x v h1 h2;exact⟨c,u,q1,q4,o,yv c o q2,q3⟩) (λx c h=>by
   obtain⟨o,z⟩:=hcc x c h;obtain⟨v,z2⟩:=(vg c o z).2;exact⟨⟨v,o,yv c o z,z2⟩,bO z⟩) nh yn hk
 have hx:=hb A f s (R7 l cs) (og.deeper _) (R7 l cs) Y [] _ _ _ {nx:=λ_ C=>Q' .non C,rt:=Q'} I ⟨Y,_,FC (rr.hid T) rwv ht1 tb1,fk,?_⟩
 .refine aCH hx (λfl s' hs=>?_) λe s' hs=>hs.elim;have fin2:∀{af:St} {C:Hp} {v:V} {u:ao},Inv (cxM P w K mg base (ps++(ls++fn)) (PySem.W.envX qual g s.heap.objs.size fa (.ref N) clos) A f s<|R7 l cs) [] af C s'->RelV v u->Q' v C->CE f P w l s Q u s':=
   λ{af C v u} J rv q=>fin ⟨v,C,J.os,J.bare,J.base,J.hok,rv,q⟩
  cases fl with
  |ret u=>obtain⟨v,af,C,J,rv,q⟩:=hs;exact fin2 J rv q
  |next=>obtain⟨af,C,J,q⟩:=hs;exact fin2 (v:=V.non) (u:=Value.none) J rfl q
  |brk=>obtain⟨_,_,_,q⟩:=hs;exact aAm q
  |cont=>obtain⟨_,_,_,q⟩:=hs;exact aAm q
 .have h:=hm ds d hl em;cases e1:F (N3 (ds.map Sl.v) ls.length .no (wd.map Sl.v))with
  |ok o=>
   rw[e1]at h;cases o with
   |rt d'=>have h':R.ok d'=R.ok d:=h;injection h' with h';subst h';exact qq
   |nx ρ=>have h':R.ok D.non=R.ok d:=h;injection h' with h';subst h';exactλaf C O' E' _ _=>qq .non C E'.same .non
   |bk ρ=>cases h
   |ct ρ=>cases h
  |ex x=>rw[e1]at h;cases h
  |bad=>rw[e1]at h;cases h
end
end
section
variable [Tabs]
def jU (mg:dS)(base:cq):Prop:=∃b a,mg "__builtins__"=some (.ref b)/\b≠builtinsNs/\base.get? b=some a/\a.cls=.type "module"/\a.dict=some builtinsNs/\a.data=.plain
def vE:∀(l:List ao),TriplesOk l->eV d l=some x->eV d (l++[ee a,ee b,c])=some x:=λl h e=>by
 fun_induction TriplesOk l with
 |case1=>simp[eV]at e
 |case2 i t j u y rest g=>
  simp only[aAG,eV]at e⊢;split at e
  .rename_i f;rw[hV f];exact e
  .rename_i f;rw[h9 f];exact g h e
 |case3 l k m=>exact h.elim
def TU (ne:¬(a=d.line/\b=d.col)):∀(l:List ao),TriplesOk l->eV d l=none->eV d (l++[ee a,ee b,c])=none:=λl h e=>by
 fun_induction TriplesOk l with
 |case1=>simp only[aBD,ee,eV];rw[h9];simp only[aAQ,beq_iff_eq];exact ne
 |case2 i t j u y rest f=>
  simp only[aAG,eV]at e⊢;split at e
  .cases e
  .rename_i g;rw[h9 g];exact f h e
 |case3 l k m=>exact h.elim
def iI (H:Hp)(fa:bb)(name qual:Str)(a:Arguments)(body:List cv)(b:gW)(clos:List (Str×bb)):Prop:=
 ∃d g e h f,H fa=some (.frz (PySem.W.fnMade name qual a body b clos e h d f) (.own fa))/\H d=some (.frz g (.own d))/\∃L t,g.data=.fields L/\L[1]?=some (.str qual t)
def iI.same (h:iI H fa name qual a body b clos)(s:Same H H'):iI H' fa name qual a body b clos:=
 let⟨f,g,d,i,e,j,k,l⟩:=h;⟨f,g,d,i,e,s _ _ j,s _ _ k,l⟩
section
def BH {Q:Flow->a9->Prop}(I:Inv X pins σ H s)(hB:jU X.mg X.base)(jt:X.env.code=.ref c)(hK:PySem.W.codeHdIn X.K c x=true)(hT:H x=some (.tbl tb))(hq:qualnameIn X.env name name=qual)(hm:(g,qual)∈tb)(hu:∀p∈tb,p.1.line=g.line->p.1.col=g.col->p.2=qual)(xv:closureFor f X.env=pure clos)(hd0:d.defaults=[])(hk0:d.kw_defaults=[])(ha:annTrees d none X.env=[])(hN:X.N.Nodup)(hi:X.N[i]?=some name)(hx:Loc X.env.scope name)(hf:X.fn name=true\/X.env.scope.names.lookup name=some .local)(h:∀fa H' s',Inv X pins (σ.set i (some (.ref fa))) H' s'->Same H H'->iI H' fa name qual d body f clos->Q .next s'):aA (be X.prog X.w) X.A (exec (.FunctionDef name d body [] none [] f none name g) X.env) Q X.xe s:=by
 refine PySem.W.nestDef_K hd0 hk0 ha ?_;rw[hq];have hg:s.heap.Ns bM X.mg:=I.mod.glob.keeps I.bk;have C:PySem.W.CodeHd s.heap c x:=PySem.W.codeHd_of_K I.kIn hK;obtain⟨ps,hP,m,O⟩:=I.hok x _ hT;have hgP:bM≠x:=λq=>by obtain⟨o,es,ep,e,hd,_⟩:=hg;rw[q,hP]at e;cases e;cases hd
 have T:s.heap.BuiltinsAt X.mg x:=by
  obtain⟨bm,ob,b1,b2,b3,b4,b5,b6⟩:=hB;have y:=I.bk _ _ b3;refine⟨bm,ob,b1,b2,λq=>?_,λq=>?_,y,b4,b5,b6⟩
  .obtain⟨o,es,ep,e,hd,_⟩:=hg;rw[<-q,y]at e;cases e;rw[hd]at b6;cases b6
  .rw[q,hP]at y;cases y;cases b4
 have U:∀b,H b=none->b≠x:=λb n z=>by rw[z,hT]at n;cases n
 have neL:X.env.locals≠x:=U _ I.free;rcases O _ hm with hnf|⟨j,oc,L,t,hf',hc',ia⟩
 .refine PySem.W.makeFunction_K (mg:=X.mg) xv I.ok.glob hg jt C hP m hnf hgP T λj k l h' tk hx' B ah hrec htb=>?_;obtain⟨c2,oc,L,t,e2,bo,hd,hv⟩:=hrec;cases e2;have old:∀b u,H b=some u->b<s.heap.objs.size:=λb u e=>I.hok.lt e;have hcN:H j=none:=I.hok.fresh B;have E:H h'.objs.size=none:=I.hok.fresh (aAl B<|aDx ah);have ncf:j≠h'.objs.size:=aAn ah;have J:Same H (upd (upd H j<|.frz oc (.own j)) h'.objs.size<|.frz (PySem.W.fnMade name qual d body f clos l ((X.mg "__name__").getD .none) j k) (.own h'.objs.size)):=λb u e=>by rw[m9 (u4 e E),m9 (u4 e hcN)];exact e
  have oh:∀b o,b≠x->s.heap.get? b=some o->(h'.push<|PySem.W.fnMade name qual d body f clos l ((X.mg "__name__").getD .none) j k).get? b=some o:=λb o T e=>aAc _ (hx' b o T e);have lts:∀b o,s.heap.get? b=some o->b≠j/\b≠h'.objs.size:=λb o e=>⟨aAn (aAv (aAg e) B),aAn (aAv (aAg e)<|aAl B<|aDx ah)⟩;have I1:=I.step (H':=upd (upd H j<|.frz oc (.own j)) h'.objs.size (.frz (PySem.W.fnMade name qual d body f clos l ((X.mg "__name__").getD .none) j k) (.own h'.objs.size)))
   (h':=h'.push (PySem.W.fnMade name qual d body f clos l ((X.mg "__name__").getD .none) j k)) (g':=s.gens) (t':=tk) (d':=s.drawn) (ch:=[]) (λ_ z=>nomatch z) (λb o _ _ _ e n=>oh b o (U b n) e) (λb o _ _ _ e n=>⟨o.slots,oh b o (U b n) e⟩)
   (λb o _ e n=>by rw[m9 (lts b o e).2,m9 (lts b o e).1];exact n) (λb o _ e=>by
    by_cases T:b=x
    .subst T;exact⟨_,aAc _ htb⟩
    .exact⟨o,oh b o T e⟩) (λb Y e=>J _ _ e) (λb o u e=>J _ _ e) (λb tb e=>J _ _ e) (λm' hm'=>by
    obtain⟨o,es,ep,e,r⟩:=hm';exact⟨o,es,ep,oh _ o neL e,r⟩) (λb u e=>by
    by_cases hbf:b=h'.objs.size
    .subst hbf;rw[l4]at e;cases e;exact⟨aAr _ rfl,_,aAr _ rfl⟩
    .rw[m9 hbf]at e;by_cases hbc:b=j
     .subst hbc;rw[l4]at e;cases e;exact⟨aAc _ bo,_,aAc _ bo⟩
     .rw[m9 hbc]at e;by_cases hbP:b=x
      .subst hbP;rw[hT]at e;cases e;refine⟨_,aAc _ htb,?_,λp hp=>?_⟩
       .rw[aGl];exact TriplesOk_snoc _ _ _ _ m
       .rw[aGl];show eV p.1 (ps.toList++[ee g.line,ee g.col,.ref j])=none\/_;by_cases hpp:(g.line:Int)=p.1.line/\(g.col:Int)=p.1.col
        .rcases O p hp with h0|⟨c3,oc3,vs3,t3,h0,h1,h2⟩
         .have e1:g.line=p.1.line:=by exact_mod_cast hpp.1
          have e2:g.col=p.1.col:=by exact_mod_cast hpp.2
          refine .inr ⟨j,oc,L,t,?_,by rw[m9 ncf,l4],hd,?_⟩
          .rw[e1,e2];exact codeAmong_snoc _ m h0
          .rw[hu p hp e1.symm e2.symm];exact hv
         .exact .inr ⟨c3,oc3,vs3,t3,vE _ m h0,J _ _ h1,h2⟩
        .rcases O p hp with h0|⟨c3,oc3,vs3,t3,h0,h1,h2⟩
         .exact .inl (TU hpp _ m h0)
         .exact .inr ⟨c3,oc3,vs3,t3,vE _ m h0,J _ _ h1,h2⟩
      .refine(I.hok b u e).ac1 (λb2 v hc q=>oh b2 v (λz=>?_) q) (λb2 z=>J _ _ z) λb2 u _ z=>J _ _ z;rcases hc with hc|hc
       .exact hbP (hc▸z)
       .rw[z,hT]at hc;cases hc) I.bare
  refine R8 I1 hN hi hx (show RelV (.ref h'.objs.size) _ from rfl) (λs' I'=>h _ _ s' I' J ⟨j,oc,l,_,k,l4,by rw[m9 ncf,l4],L,t,hd,hv⟩) hf
 .refine PySem.W.makeFunction_hit (mg:=X.mg) xv I.ok.glob hg jt C hP m hf' T λk l h' tk hk gu=>?_;have E:H h'.objs.size=none:=I.hok.fresh gu;have I1:=I.laid (a:=h'.objs.size) (o:=.frz (PySem.W.fnMade name qual d body f clos l ((X.mg "__name__").getD .none) j k) (.own h'.objs.size)) (h':=h'.push (PySem.W.fnMade name qual d body f clos l ((X.mg "__name__").getD .none) j k)) (t':=tk)
   (λb u e=>aAc _ (hk b u e)) gu ⟨aAr _ rfl,_,aAr _ rfl⟩
  refine R8 I1 hN hi hx (show RelV (.ref h'.objs.size) _ from rfl) (λs' I'=>h _ _ s' I' (m8 E _) ⟨j,oc,l,_,k,l4,m8 E _ _ _ hc',L,t,ia⟩) hf
end
structure Nst where
 name:Str
 qual:Str
 params:Arguments
 body:List Stmt
 scope:Scope
 pos:Pos
 ps:List Str
 ls:List Str
 fn:List Str
 js:List Nat
 F:Ev->R Out
 mm:List D->List D->R D
 i:Nat
abbrev Nst.stmt (n:Nst):cv:=.FunctionDef n.name n.params n.body [] none [] n.scope none n.name n.pos
structure NstOk (X:Cx)(k:Nat)(n:Nst):Prop where
 sc:NScope n.ps n.ls n.fn n.scope
 one:n.ps.length=1
 body:∀(fa:Addr) (cd:Value) (clos:List (Str×Addr)) (A:Around) (outer:List Env) (s:Shared) (H:Hp),Room k (A.deeper (PySem.W.envX n.qual n.scope s.heap.objs.size fa cd clos))->bV (cxM X.prog X.w X.K X.mg X.base (n.ps++(n.ls++n.fn)) (PySem.W.envX n.qual n.scope s.heap.objs.size fa cd clos) A outer s H) n.body n.F
 mm:∀wd ds d,wd.length=n.fn.length->ds.length=n.ps.length->n.mm wd ds=.ok d->O6 (n.F (N3 (ds.map Sl.v) n.ls.length .no (wd.map Sl.v)))=.ok d
 bind:∀(clos:List (Str×Addr)) (doc pm cd ctv:Value) (us:List Value),us.length=n.ps.length->bindArgs (PySem.W.fnX n.name n.qual n.params n.body n.scope clos .none .none doc pm none cd ctv) ⟨us,[]⟩=pure (n.ps.zip us)
 len:n.js.length=n.fn.length
 at_:∀(i j:Nat) (x:Str),n.js[i]?=some j->n.fn[i]?=some x->X.N[j]?=some x/\X.env.scope.names.lookup x=some .cell
 d0:n.params.defaults=[]
 k0:n.params.kw_defaults=[]
 nm:X.N[n.i]?=some n.name
 lc:Loc X.env.scope n.name
 st:X.fn n.name=true\/X.env.scope.names.lookup n.name=some .local
 dbg:(n.name==ix)=false
 cdt:(n.name==i3)=false
structure ClosOk (X:Cx)(n:Nst)(clos:List (Str×Addr)):Prop where
 eq:closureFor n.scope X.env=pure clos
 ann:annTrees n.params none X.env=[]
 qn:qualnameIn X.env n.name n.name=n.qual
 sub:∀x c,clos.lookup x=some c->X.env.cells.lookup x=some c
 has:∀x∈n.fn,∃c,clos.lookup x=some c
def dE:List Nat->Ev->R (List D)
 |[],_=>.ok []
 |j::a,ρ=>(dZ j ρ).bind λd=>(dE a ρ).bind λb=>.ok (d::b)
theorem NC {K:iu}{l H:Hp}{m O:bb->Prop}{σ:St}{ρ:Ev}(E:EnvOk K l m H O σ ρ):∀{b:List Nat} {wd:List D},dE b ρ=.ok wd->∃wv,Reps K H O wv wd/\wv.length=b.length/\∀(i j:Nat) (v:V),b[i]?=some j->wv[i]?=some v->σ[j]?=some (some v)
 |[],wd,h=>by cases h;exact⟨[],.nil,rfl,λi j v e=>by simp at e⟩
 |j::b,wd,h=>by
  unfold dE at h;cases a:dZ j ρ with
  |ok d=>
   rw[a,R.aa0]at h;cases f:dE b ρ with
   |ok u=>
    rw[f,R.aa0]at h;cases h;obtain⟨wv,r,n,at_⟩:=NC E f;have:ρ[j]?=some (.v d):=by
     unfold dZ at a;split at a
     .rename_i q;cases a;exact q
     .cases a
    obtain⟨v,o,p⟩:=E.val j d this;refine⟨v::wv,.cons p r,by simp[n],λi s t g k=>?_⟩;cases i with
    |zero=>simp at g k;subst g k;exact o
    |succ i=>exact at_ i s t (by simpa using g) (by simpa using k)
   |ex z=>rw[f]at h;cases h
   |bad=>rw[f]at h;cases h
  |ex z=>rw[a]at h;cases h
  |bad=>rw[a]at h;cases h
section
def U6 (h:cq)(a:List (Str×bb)):List (bb×Obj):=a.filterMap λp=>(h.get? p.2).map λo=>(p.2,o)
def M5 (e:(U6 h a).lookup b=some o):h.get? b=some o/\∃x,(x,b)∈a:=by
 obtain⟨p,d,q⟩:=aCb.mp (mem_lookup e);cases z:h.get? p.2 with
 |none=>rw[z]at q;cases q
 |some f=>rw[z]at q;have g:(p.2,f)=(b,o):=Option.some.inj q;injection g with i j;subst i j;exact⟨z,p.1,d⟩
def mY (f:(x,b)∈a)(e:h.get? b=some o):∃d,(U6 h a).lookup b=some d:=by
 have:(b,o)∈U6 h a:=aCb.mpr ⟨(x,b),f,by show(h.get? b).map _=_;rw[e];rfl⟩;cases q:(U6 h a).lookup b with
 |some d=>exact⟨d,rfl⟩
 |none=>have:=List.lookup_eq_none_iff.mp q (b,o) this;simp at this
def a1x (X:Cx)(n1 n2:Nst)(clos1 clos2:List (Str×bb))(f:Ev->R D)(M:D->(List D->R D)->(List D->R D)->R D):TE:=λσ H Q=>∃d e O ρ b a,EnvOk X.K d e H O σ ρ/\σ[n1.i]?=some (some<|V.ref b)/\σ[n2.i]?=some (some<|V.ref a)/\
 iI H b n1.name n1.qual n1.params n1.body n1.scope clos1/\iI H a n2.name n2.qual n2.params n2.body n2.scope clos2/\RC X H O ((f ρ).bind λg=>(dE n1.js ρ).bind λh=>(dE n2.js ρ).bind λj=>M g (n1.mm h) (n2.mm j)) Q
def zO {n:Nst}{clos a:List (Str×bb)}{k:Nat}{h:R4}{σ:St}{H:Hp}{s:a9}{H9:Hp}{O0 O:bb->Prop}{ρ:Ev}{fa:bb}{wd:List D}(ok:NstOk X k n)(j:ClosOk X n clos)(I:Inv X h σ H s)(E:EnvOk X.K H9 O0 H O σ ρ)
  (hA:∀p∈clos,p∈a) (l:∀x b,(x,b)∈a->X.env.cells.lookup x=some b) (r:iI H fa n.name n.qual n.params n.body n.scope clos) (hw:dE n.js ρ=.ok wd):
  ∀t z,Kp (dW H (U6 s.heap a)) O t z->MK X.prog X.w X.K X.mg X.base (k+1) 1 (n.mm wd) t z fa:=by
 obtain⟨c',oc,T,pm,U,h1,h2,h3⟩:=r;obtain⟨wv,ql,hl,at_⟩:=NC E hw;have hn:∀b o,(U6 s.heap a).lookup b=some o->H b=none:=λb o q=>by obtain⟨_,x,Y⟩:=M5 q;exact I.freeC x b (l x b Y)
 have N:=fM hn
 suffices B:∀t z,Kp (dW H<|U6 s.heap a) O t z->MK X.prog X.w X.K X.mg X.base (k+1) n.ps.length (n.mm wd) t z fa by rw[ok.one]at B;exact B
 refine jj (cs:=U6 s.heap a) (wv:=wv) (wd:=wd) (F:=n.F) ok.sc (λA g s H hr=>ok.body fa (.ref c') clos A g s H hr) (λds d mh e=>ok.mm wd ds d (by rw[<-ql.length,hl,ok.len]) mh e) (λs us mh=>.of_eq (ok.bind clos T pm (.ref c') U us mh)) (N _ _ h1) (N _ _ h2) h3
  (λb o q=>⟨fG q,?_⟩) (λi x v C q2=>?_) (λx c q=>?_) (λx y c C q2=>I.ok.inj x y c (j.sub x c C) (j.sub y c q2)) (by rw[hl,ok.len]) (ql.same N) (E.grow N).trk
 .obtain⟨e1,x,Y⟩:=M5 q;obtain⟨v,o',e2,e3⟩:=I.cell x b (l x b Y);rw[e1]at e2;cases e2;exact⟨v,e3⟩
 .have hi:i<n.js.length:=by rw[ok.len];exact(aAC.mp C).1
  have ej:n.js[i]?=some n.js[i]:=aAh hi;obtain⟨hN,hk⟩:=ok.at_ i _ x ej C;have hσ:=at_ i _ v ej q2;obtain⟨m,yn,J⟩:=I.loc;obtain⟨u,ru,L⟩:=J _ x v hN hσ (.inr (.inl hk));rcases L with⟨kl,_⟩|⟨_,c,ig,o,Q,hd⟩
  .have f:X.env.scope.names.lookup x=some .local:=kl;rw[hk]at f;cases f
  .obtain⟨c2,q3⟩:=j.has x (aAw C);have q4:=j.sub x c2 q3;rw[ig]at q4;cases q4;obtain⟨o',q5⟩:=mY (hA _<|PySem.mem_of_lookup q3) Q;have:=(M5 q5).1;rw[Q]at this;cases this;exact⟨c,u,o,q3,q5,hd,ru⟩
 .obtain⟨v,o,Q,_⟩:=I.cell x c (j.sub x c q);exact mY (hA _<|PySem.mem_of_lookup q) Q
def WM (qc:NstOk X k n1)(qd:NstOk X k n2)(yb:ClosOk X n1 clos1)(jo:ClosOk X n2 clos2)(J:∀x b,(x,b)∈clos1++clos2->X.env.cells.lookup x=some b)(FF:FnOk X.prog X.w X.K X.mg X.base vU kf g gd N (spF X.K (MK X.prog X.w X.K X.mg X.base (k+1) 1) M))(hr:Room kf X.A)(Y:X.mg x=some (.ref g))(hk:PySem.W.keepIn X.K (.ref g)=true)(n:Binds X.K gd N [])(h3:N.length=3)(he:PD X e f)(xo:∀y,X.fn y=true)(hg:Gl X x:=by rfl)(il:(x==ix)=false:=by decide)(yo:ba [e,.Name n1.name p1,.Name n2.name t] X.env=(false,dm e X.env)::ba [.Name n1.name p1,.Name n2.name t] X.env:=by rfl)(zd:ba [.Name n1.name p1,.Name n2.name t] X.env=(false,dm (.Name n1.name p1) X.env)::ba [.Name n2.name t] X.env:=by rfl)(hs3:ba [.Name n2.name t] X.env=(false,dm (.Name n2.name t) X.env)::ba [] X.env:=by rfl)(bp:(cy pos (ba [.Name n1.name p1,.Name n2.name t] X.env)).any (·.1)=false:=by rfl):
  PE X (.Call (.Name x p) [e,.Name n1.name p1,.Name n2.name t] [] pos) (a1x X n1 n2 clos1 clos2 f M):=by
 rintro pins s σ H Q I ⟨H9,O0,O,ρ,ya,fa2,E,h1,h2,md1,md2,q⟩;have vis:∀{y:Str},Loc X.env.scope y->HD X.env.scope y:=λh=>h.elim .inl λz=>.inr (.inl z);have om:PA X [e,.Name n1.name p1,.Name n2.name t] _:=R0 he (R0 (W2 qc.nm (vis qc.lc) qc.dbg qc.cdt) (R0 (W2 qd.nm (vis qd.lc) qd.dbg qd.cdt) dR hs3) zd) yo;refine aBi (wZ I hg Y ?_ il);refine PySem.W.callWith_K (h₀:=X.base) I.ok.mod.kin hk (J7 (om pos pins s σ H (λL i=>∃v1 T w1 w2 d,L=[v1,.ref ya,.ref fa2]/\Same H i/\Rep X.K i O v1 T/\dE n1.js ρ=.ok w1/\dE n2.js ρ=.ok w2/\M T (n1.mm w1) (n2.mm w2)=.ok d/\∀v l,Same i l->Rep X.K l O v d->Q v l) I ⟨H9,O0,O,ρ,E,?_⟩) λus B z9=>?_) yo bp
 .cases e1:f ρ with
  |ex z=>rw[e1]at q;exact q
  |bad=>rw[e1]at q;exact q
  |ok T=>
   rw[e1,R.aa0]at q;cases C:dE n1.js ρ with
   |ex z=>rw[C]at q;exact(q H<|Same.refl _).elim
   |bad=>rw[C]at q;exact q.elim
   |ok w1=>
    rw[C,R.aa0]at q;cases e3:dE n2.js ρ with
    |ex z=>rw[e3]at q;exact(q H<|Same.refl _).elim
    |bad=>rw[e3]at q;exact q.elim
    |ok w2=>
     rw[e3,R.aa0]at q;cases e4:M T (n1.mm w1) (n2.mm w2)with
     |ex z=>rw[e4]at q;exact(q H<|Same.refl _).elim
     |bad=>rw[e4]at q;exact q.elim
     |ok d=>rw[e4]at q;exactλv1 i B r1=>⟨_,h1,_,h2,v1,T,w1,w2,d,rfl,B,r1,rfl,rfl,e4,λv l s2 r2=>q v l (B.trans s2) r2⟩
 .obtain⟨L,i,a,r,v1,T,w1,w2,d,ev,sm,r1,c1,c2,em,qq⟩:=z9;refine⟨a.kIn,?_⟩;subst ev;have E1:=E.grow sm;generalize vg:U6 B.heap (clos1++clos2)=j;have hn:∀b o,j.lookup b=some o->B.heap.get? b=some o/\i b=none/\xI o:=λb o z=>by rw[<-vg]at z;obtain⟨e1,y,Y⟩:=M5 z;obtain⟨v,o',C,e3⟩:=a.cell y b (J y b Y);rw[e1]at C;cases C;exact⟨e1,a.freeC y b (J y b Y),v,e3⟩
  have hn0:∀b o,j.lookup b=some o->i b=none:=λb o z=>(hn b o z).2.1;have U:Same i (dW i j):=fM hn0;have E2:=E1.grow U;have m:=a.af4;have nofr:∀b o,j.lookup b=some o->b∉AM X.stack:=λb o z n=>by
   rw[<-vg]at z;obtain⟨_,y,hmy⟩:=M5 z;rcases aAd.mp (a.ab6 b n)with e|n
   .exact a.cne y b (J y b hmy) e
   .obtain⟨_,o',ho,_⟩:=a.ok.funs.mem n;exact absurd (aAv (aAg ho)<|a.ok.cab y b (xo y)<|J y b hmy) (aBs _)
  have nob:∀b o,X.base.get? b=some o->j.lookup b=none:=λb o e=>by
   cases z:j.lookup b with
   |none=>rfl
   |some o'=>rw[<-vg]at z;obtain⟨_,y,Y⟩:=M5 z;exact absurd (aAv (aAg e)<|aAl a.ok.bsz<|a.ok.cab y b (xo y)<|J y b Y) (aBs _)
  have C:Env0 X.prog X.w X.K X.mg X.base X.A X.stack B (dW i j):=⟨m.frames,m.mod,λb o e=>⟨(m.bs b o e).1,by rw[R9 (nob b o e)];exact(m.bs b o e).2⟩,m.bsz,m.funs,λb n=>by
   cases z:j.lookup b with
   |none=>rw[R9 z];exact m.frf b n
   |some o=>exact absurd n (nofr b o z),OX m.hok λb o z=>⟨(hn b o z).1,(hn b o z).2.1⟩,m.bare⟩
  have cl1:=zO qc yb a E1 (λp hp=>aBr _ hp) J (md1.same sm) c1;have cl2:=zO qd jo a E1 (λp hp=>aAL _ hp) J (md2.same sm) c2;rw[vg]at cl1 cl2;have hl:us.length=N.length:=by rw[<-r.length,h3];rfl
  have hbs:=n B us a.kIn (by rw[aCs];exact hl);rw[aCs]at hbs;refine wpAny_call (aDR (FF.run X.A X.stack B (dW i j) ⟨us,[]⟩ us _ (λv l=>Q v (R7 l j)) (λ_ _ _=>False) hr C hbs r ⟨O,v1,T,ya,_,fa2,_,d,rfl,r1.same U,cl1,cl2,E2.trk,E2.tab,xT a O E1.trk,em,λv l s2 r2=>?_⟩) λrr s' hq=>?_)
  .have hz:∀b o,j.lookup b=some o->l b=some (.frz o (.own b)):=λb o z=>s2 _ _ (fG z);refine qq v _ (λb u e=>A0 hz (s2 b u<|U b u e) λo z _=>?_) (r2.hid hz);rw[hn0 b o z]at e;cases e
  .cases rr with
   |error e=>exact hq.elim
   |ok fl=>
    cases fl with
    |next=>exact aAm hq
    |brk=>exact aAm hq
    |cont=>exact aAm hq
    |ret u=>obtain⟨v,l,os,bare,un,hok,rv,qv⟩:=hq;obtain⟨U2,k2,_⟩:=gw un hok hn;exact a.after ⟨v,_,os,bare,U2,k2,rv,qv⟩
def MA (a:NstOk X k n1)(h:NstOk X k n2)(u:ClosOk X n1 clos1)(B:ClosOk X n2 clos2)(hA:∀x b,(x,b)∈clos1++clos2->X.env.cells.lookup x=some b)(hB:jU X.mg X.base)(jt:X.env.code=.ref c)(hK:PySem.W.codeHdIn X.K c Pt=true)(l:(Pt,tb)∈Tabs.tbs)(L:(n1.pos,n1.qual)∈tb)(ji:(n2.pos,n2.qual)∈tb)(eh:∀p∈tb,p.1.line=n1.pos.line->p.1.col=n1.pos.col->p.2=n1.qual)(Q:∀p∈tb,p.1.line=n2.pos.line->p.1.col=n2.pos.col->p.2=n2.qual)(ag:n1.i≠n2.i)(hN:X.N.Nodup)(FF:FnOk X.prog X.w X.K X.mg X.base vU kf g gd m (spF X.K (MK X.prog X.w X.K X.mg X.base (k+1) 1) M))(hr:Room kf X.A)(hm:X.mg x=some (.ref g))(hk:PySem.W.keepIn X.K (.ref g)=true)(hb:Binds X.K gd m [])(h3:m.length=3)(he:PD X e f)(xo:∀y,X.fn y=true)(hg:Gl X x:=by rfl)(il:(x==ix)=false:=by decide)(yo:ba [e,.Name n1.name n,.Name n2.name j] X.env=(false,dm e X.env)::ba [.Name n1.name n,.Name n2.name j] X.env:=by rfl)(zd:ba [.Name n1.name n,.Name n2.name j] X.env=(false,dm (.Name n1.name n) X.env)::ba [.Name n2.name j] X.env:=by rfl)(T:ba [.Name n2.name j] X.env=(false,dm (.Name n2.name j) X.env)::ba [] X.env:=by rfl)(bp:(cy U (ba [.Name n1.name n,.Name n2.name j] X.env)).any (·.1)=false:=by rfl):
  bV X [n1.stmt,n2.stmt,.Return (some (.Call (.Name x p) [e,.Name n1.name n,.Name n2.name j] [] U)) rpos] (λρ=>((f ((ρ.set n1.i .no).set n2.i .no)).bind λY=>(dE n1.js ((ρ.set n1.i .no).set n2.i .no)).bind λw1=>(dE n2.js ((ρ.set n1.i .no).set n2.i .no)).bind λw2=>M Y (n1.mm w1) (n2.mm w2)).bind λd=>.ok (.rt d)):=by
 rintro H9 O0 o s σ H D I ⟨O,ρ,E,fk,q⟩;refine aEn (BH (σ:=σ) I hB jt hK (E.tab _ l) u.qn L eh u.eq a.d0 a.k0 u.ann hN a.nm a.lc a.st λC H1 s1 I1 sm1 md1=>?_);have E1:EnvOk X.K H9 O0 H1 O (σ.set n1.i<|some<|.ref C) (ρ.set n1.i .no):=(E.grow sm1).put n1.i (λz=>z) trivial;refine aEn (BH (σ:=σ.set n1.i (some<|.ref C)) I1 hB jt hK (E1.tab _ l) B.qn ji Q B.eq h.d0 h.k0 B.ann hN h.nm h.lc h.st λt H2 s2 I2 xu md2=>?_);have J:EnvOk X.K H9 O0 H2 O ((σ.set n1.i<|some<|.ref C).set n2.i (some<|.ref t)) ((ρ.set n1.i .no).set n2.i .no):=(E1.grow xu).put n2.i (λz=>z) trivial;have l1:n1.i<σ.length:=by rw[I.len];exact(aAC.mp a.nm).1
 have l2:n2.i<σ.length:=by rw[I.len];exact(aAC.mp h.nm).1
 refine HK (NK<|WM a h u B hA FF hr hm hk hb h3 he xo hg il yo zd T bp) o s2 _ H2 D I2 ⟨H9,O0,O,_,C,t,J,?_,?_,md1.same xu,md2,?_⟩
 .rw[aCB (aCa ag),aBK l1]
 .rw[aBK (by rw[List.length_set];exact l2)]
 .revert q;dsimp only;generalize((f<|(ρ.set n1.i .no).set n2.i .no).bind λY=>(dE n1.js<|(ρ.set n1.i .no).set n2.i .no).bind λw1=>(dE n2.js<|(ρ.set n1.i .no).set n2.i .no).bind λw2=>M Y (n1.mm w1) (n2.mm w2))=rr;intro q;cases rr with
  |ok d=>exactλv H' s r=>q v H' (J.same.trans s) (r.sub J.sub)
  |ex z=>exactλH' s=>q H' (J.same.trans s)
  |bad=>exact q
end
def yT (K:iu):Sp:=λL H Q _=>∃(a:bb) (b:List Int),L=[.ref a]/\Q8 K H a (b.map V.int)/\b.length<=63/\(∀x∈b,aBe x<=1048576)/\Tb H/\∀d,Q (.bl true) d
def YZ {P:bt}{w:cp}{K:iu}{mg:dS}{base:cq}{k:Nat}{f:bb}{fd:dn}{m:List D->R D}(F:FnOk P w K mg base vU k f fd ["script"] (spD K 1 m))
  (h:∀ns:List Int,ns.length<=63->(∀x∈ns,aBe x<=1048576)->m [.lst (ns.map D.int)]=.ok (.bl true)):FnOk P w K mg base vU k f fd ["script"] (yT K):=
 F.imp<|by rintro L H Q E ⟨a,ns,e,b,d,g,i,q⟩;exact⟨λ_=>False,_,_,by rw[e];exact .cons (.lst b (λz=>z) (Reps.ints ns)) .nil,rfl,λ_ z=>z.elim,i,λ_ _ _ z=>z,h ns d g,λv j _ r=>by cases r;exact q j⟩
def KR {P:bt}{w:cp}{K:iu}{mg mb:dS}{k:Nat}{fa a:bb}{fd:dn}{f:a9}{L:List ao}{ns:List Int}
  (KX:K.In f.heap) (yn:f.heap.Ns bM mg) (j:f.heap.Ns builtinsNs mb) (hbb:∀x:Str,x≠ "__name__"->mb x=de x) (J:f.heap.NoLimit) (hB:jU mg f.heap) (hg:f.gens=#[])
  (N:f.heap.get? a=some {cls:=.type "list",data:=.seq L.toArray}) (hi:IntsAre L ns) (hl:ns.length<=63) (wc:∀x∈ns,aBe x<=1048576) (hr:Room k callerA)
  (hT:∀p∈Tabs.tbs,f.heap.get? p.1=some (PySem.W.tabObj #[])/\isCodeTable f.heap p.1) (hTd:(Tabs.tbs.map (·.1)).Nodup) (hKn:PySem.W.noTabs K=true)
  (F:∀base:cq,K.In base->base.Ns bM mg->jU mg base->FnOk P w K mg base vU k fa fd ["script"] (yT K)) (vv:∀(s:a9) (u:ao),BindsTo s fd ⟨[u],[]⟩ [("script",u)]):
  fh (be P w) callerA (.call (.ref fa) ⟨[.ref a],[]⟩) (λr s'=>r=.ok (.ret (.bool true))/\OldK f.heap s'.heap/\s'.os=f.os/\AllBare s'.gens) f:=by
 have rv:=L2.P7 hi;have O:=hi.length;have jb:ns.length<=sizeLine:=aAl hl (by decide);have C:∀b i,Tabs.tbs.lookup b=some i->f.heap.get? b=some (PySem.W.tabObj #[])/\isCodeTable f.heap b:=λb i e=>hT (b,i) (mem_lookup e);have nta:Tabs.tbs.lookup a=none:=by
  cases e:Tabs.tbs.lookup a with
  |none=>rfl
  |some i=>have:=(C a i e).1;rw[N]at this;cases this
 have noK:∀b o,K.lookup b=some o->Tabs.tbs.lookup b=none:=λb o e=>by
  cases z:Tabs.tbs.lookup b with
  |none=>rfl
  |some i=>have Q:=KX b o e;rw[(C b i z).1]at Q;cases Q;have l:=aCi.mp hKn (b,_) (PySem.W.mem_of_lookupK e);exact absurd (show false=true from l) aBc
 let put:Hp->Hp:=λH b=>match Tabs.tbs.lookup b with
  |some i=>some (.tbl i)
  |none=>H b
 have rM:∀(H:Hp) b i,Tabs.tbs.lookup b=some i->put H b=some (.tbl i):=λH b i e=>by show(match Tabs.tbs.lookup b with|some i=>some (HO.tbl i)|none=>H b)=_;rw[e]
 have E:∀(H:Hp) b,Tabs.tbs.lookup b=none->put H b=H b:=λH b e=>by show(match Tabs.tbs.lookup b with|some i=>some (HO.tbl i)|none=>H b)=_;rw[e]
 have y:∀g:Hp,(∀b,g b=none\/∃Y,g b=some (.frz {cls:=.type "list",data:=.seq L.toArray} (.lst Y)))->Q8 K (put g) a (ns.map V.int)->(∀b u,g b=some u->ObjOk P w (put g) f.heap b u)->(∀b,g b≠none->b=a)->(g a≠none->K.lookup a=none)->
   fh (be P w) callerA (.call (.ref fa) ⟨[.ref a],[]⟩) (λr s'=>r=.ok (.ret (.bool true))/\OldK f.heap s'.heap/\s'.os=f.os/\AllBare s'.gens) f:=by
  intro g hO hS T hA hK;have U:gO P w (put g) f.heap:=λb u e=>by
   cases z:Tabs.tbs.lookup b with
   |none=>rw[E _ b z]at e;exact T b u e
   |some i=>rw[rM _ b i z]at e;cases e;exact⟨#[],(C b i z).1,trivial,λp _=>.inl rfl⟩
  have ma:∀{b:bb} {o:Obj},f.heap.get? b=some o->put g b=none->(rQ f.heap<|put g).get? b=some o:=λe n=>NI e n;have none_of:∀{b:bb} {o:Obj},f.heap.get? b=some o->o≠PySem.W.tabObj #[]->o≠{cls:=.type "list",data:=.seq L.toArray}->put g b=none:=λ{b o} e n1 n2=>by
   cases z:Tabs.tbs.lookup b with
   |some i=>have:=(C b i z).1;rw[e]at this;exact absurd (Option.some.inj this) n1
   |none=>
    rw[E _ b z];cases q:g b with
    |none=>rfl
    |some u=>have e':b=a:=hA b (by rw[q];simp);subst e';rw[N]at e;exact absurd (Option.some.inj e).symm n2
  have t:∀{b:bb} {m:dS},f.heap.Ns b m->(rQ f.heap<|put g).Ns b m:=λ{b m} ⟨o,es,ep,e,d,r⟩=>⟨o,es,ep,ma e (none_of e (λz=>by rw[z]at d;cases d) λz=>by rw[z]at d;cases d),d,r⟩;have hKb:K.In (rQ f.heap<|put g):=λb o e=>ma (KX b o e) (by
   rw[E _ b (noK b o e)];cases q:g b with
   |none=>rfl
   |some u=>have e':b=a:=hA b (by rw[q];simp);subst e';rw[hK (by rw[q];simp)]at e;cases e)
  have hBb:jU mg (rQ f.heap<|put g):=by obtain⟨bm,ob,b1,b2,b3,b4,b5,b6⟩:=hB;exact⟨bm,ob,b1,b2,ma b3 (none_of b3 (λz=>by rw[z]at b6;cases b6) λz=>by rw[z]at b6;cases b6),b4,b5,b6⟩
  have hM:Mod K mg (rQ f.heap<|put g):=⟨hKb,t yn,⟨mb,t j,hbb⟩,let⟨mc,A,l⟩:=J;⟨mc,t A,l⟩⟩;have e0:Env0 P w K mg (rQ f.heap<|put g) callerA [] f (put g):=⟨rfl,hM,λb o e=>YC e,aEj (LR _ _),trivial,λb j=>absurd (show b∈([]:List bb)from j) (by simp),U,.of_eq hg⟩;have tb0:Tb (put g):=λp hp=>rM _ p.1 p.2 (cJ hTd hp);refine aDR ((F _ hKb (t yn) hBb).run callerA [] f (put g) ⟨[.ref a],[]⟩ [.ref a] [.ref a] (λv _=>v=.bl true) (λ_ _ _=>False) hr e0 (vv f<|.ref a) (.cons rfl .nil) ⟨a,ns,rfl,hS,hl,wc,tb0,λ_=>rfl⟩) λr s' h=>?_;cases r with
  |error e=>exact(show False from h).elim
  |ok fl=>
   cases fl with
   |next=>exact aAm h
   |brk=>exact aAm h
   |cont=>exact aAm h
   |ret u=>
    obtain⟨v,H',os,bare,un,yp,r',q⟩:=h;have q':v=.bl true:=q;subst q';obtain rfl:u=aDE true:=r';have B:∀b o,f.heap.get? b=some o->s'.heap.get? b=some o\/(isCodeTable f.heap b/\o=PySem.W.tabObj #[]/\∃I,s'.heap.get? b=some (PySem.W.tabObj I)):=λb o e=>by
     cases z:Tabs.tbs.lookup b with
     |some i=>have:=(C b i z).1;rw[e]at this;obtain⟨I,hps,_⟩:=yp b _ (un.tbls b i<|rM _ b i z);exact .inr ⟨(C b i z).2,Option.some.inj this,I,hps⟩
     |none=>
      refine .inl ?_;rcases hO b with n|⟨Y,n⟩
      .exact un.keep b o e (by rw[E _ b z];exact n) (by intro z;exact absurd (show b∈([]:List bb)from z) (by simp)) (by simp)
      .have z1:put g b=some (.frz {cls:=.type "list",data:=.seq L.toArray} (.lst Y)):=by rw[E _ b z];exact n
       have z2:=un.frzs b _ _ z1;obtain⟨Q,_⟩:=U b _ z1;obtain⟨e2,_⟩:=yp b _ z2;rw[e]at Q;cases Q;exact e2
    refine⟨rfl,⟨λb o e=>?_,λb o e=>?_⟩,os,bare⟩
    .rcases B b o e with h|⟨A,l,I,h3⟩
     .exact .inl h
     .subst l;exact .inr (.inl ⟨A,rfl,#[],I,rfl,by rw[Array.empty_append];exact h3⟩)
    .rcases B b o e with h|⟨A,l,I,h3⟩
     .exact⟨o,h⟩
     .exact⟨_,h3⟩
 cases hk:K.lookup a with
 |some o=>have e:=KX a o hk;rw[N]at e;cases e;refine y (λ_=>none) (λ_=>.inl rfl) (.inr ⟨_,L.toArray,_,hk,rfl,rfl,rfl,by rw[aAq,O];exact jb,by simpa using rv⟩) (λb u z=>by have z':(none:Option HO)=some u:=z;cases z') (λb z=>absurd rfl z) λz=>absurd rfl z
 |none=>
  obtain⟨g,A,l⟩:∃g:Hp,g a=some (.frz {cls:=.type "list",data:=.seq L.toArray} (.lst (ns.map V.int)))/\∀b,b≠a->g b=none:=⟨λb=>if b=a then _ else none,hV rfl,λb j=>h9 j⟩;refine y g (λb=>?_) (.inl (.inr ⟨{cls:=.type "list",data:=.seq L.toArray},(E g a nta).trans A⟩)) (λb u z=>?_) (λb z=>?_) λ_=>hk
  .by_cases j:b=a
   .subst j;exact .inr ⟨_,A⟩
   .exact .inl (l b j)
  .by_cases j:b=a
   .subst j;rw[A]at z;cases z;exact⟨N,by rw[aAf];exact jb,L,_,rv,N⟩
   .rw[l b j]at z;cases z
  .by_cases j:b=a
   .exact j
   .exact absurd (l b j) z
def VA {l:PySem.W.OpenLaw}{k:Nat}{q:bt}{e:List Str}{B:(Str->Option ao)->cq->Prop}{y:cp->cq->Prop}{d:DefRec}{K:Params->iu}{z:List bb}
  (C:l.most=some 63) (n:d.params.defaults=[]) (E:Room k callerA)
  (H:∀(w:cp) (h:cq),y w h->(K w.params).In h/\∀P∈z,h.get? P=some (PySem.W.tabObj #[]))
  (r:∀p∈Tabs.tbs,p.1∈z/\∃c,∀w:cp,PySem.W.codeHdIn (K w.params) c p.1=true) (t:(Tabs.tbs.map (·.1)).Nodup) (v:∀w:cp,PySem.W.noTabs (K w.params)=true)
  (F:∀(w:cp) (mg:dS) (fa:bb) (h:cq),(K w.params).In h->h.Ns bM mg->mg d.name=some (.ref fa)->
   ∃fd:dn,(∀(s:a9) (u:ao),BindsTo s fd ⟨[u],[]⟩ [("script",u)])/\
    ∀base:cq,(K w.params).In base->base.Ns bM mg->jU mg base->FnOk l.prog w (K w.params) mg base vU k fa fd ["script"] (yT (K w.params))):
  PySem.W.WalkO q e B y l.row.toRowW d [] (λf L=>PySem.call f L):=by
 refine Att2.attach_bits C n λw s9 aa mg mb fa o pm cd I a L ns G Y ho hd ia J j i m N O=>?_;obtain⟨x,Q⟩:=H w _ Y;obtain⟨fd,U,hF⟩:=F w mg fa _ x G.T.g J;refine KR x G.T.g G.T.b G.T.builtins G.T.nolimit G.T.bmain O j i m N E (λp hp=>?_) t (v w) hF U;obtain⟨h1,c,h2⟩:=r p hp;have A:=Q p.1 h1;exact⟨A,((PySem.W.codeHd_of_K x<|h2 w).tab A).isCodeTable⟩
section
def a0g {Y es:List cu}{p:Pos}{env:Env}:ba (.List Y p::es) env=(false,dm (.List Y p) env)::ba es env:=rfl
def zq {Y:List cu}{p:Pos}{t:Option cu}{l:Nat}{env:Env}:ek (Expr.List Y p) t l env=pure false:=rfl
end
end
end DL
namespace DL
open PySem L2
def mR (G:D->Ev->R Ev)(F:Ev->R Out)(d:D)(ρ:Ev):R Out:=match G d ρ with
 |.ok a=>F a
 |_=>.bad
@[simp]def gR (i:Nat)(F:Ev->R Out)(d:D)(ρ:Ev):mR (λd ρ=>.ok (ρ.set i (Sl.v d))) F d ρ=F (ρ.set i (.v d)):=rfl
@[simp]def a0m (G:D->Ev->R Ev)(F:Ev->R Out)(ρ:Ev):X9 G F [] ρ=.ok (.nx ρ):=rfl
def ND {α:Type}{a b:α}:(R.ok a=R.ok b)=(a=b):=by simp
class Bd (a:Int)(n:outParam Nat):Prop where
 h:bits a<=n
def C8 (h:bits a<=m)(b:m<=n):bits a<=n:=aAl h b
section
instance Bd.add [p:Bd a m][q:Bd b n]:Bd (a+b) (m+n+1):=⟨bits_add (C8 p.h<|aDP m n) (C8 q.h<|Nat.le_add_left n m)⟩
instance Bd.mul [p:Bd a m][q:Bd b n]:Bd (a*b) (m+n):=⟨bits_mul p.h q.h⟩
def N8 [p:Bd a m][q:Bd b n](d:m<=60000000)(e:n<=60000000):qE (.int a) (.int b)=.ok (.int (a*b)):=l9 ⟨aAl p.h d,aAl q.h e⟩
end
instance Bd.l2:Bd 2 2:=⟨by decide⟩
abbrev vd (v:G.V):D:=.tup [.int v.x,.int v.y,.int v.z]
def Sz (n:Nat)(v:G.V):Prop:=bits v.x<=n/\bits v.y<=n/\bits v.z<=n
def Sz.mono (h:Sz m v)(a:m<=n:=by decide):Sz n v:=⟨C8 h.1 a,C8 h.2.1 a,C8 h.2.2 a⟩
def Sz.sub (h:Sz n u)(h':Sz n v):Sz (n+1) (u-v):=⟨bits_sub h.1 h'.1,bits_sub h.2.1 h'.2.1,bits_sub h.2.2 h'.2.2⟩
def Sz.add (h:Sz n u)(h':Sz n v):Sz (n+1) (u+v):=⟨bits_add h.1 h'.1,bits_add h.2.1 h'.2.1,bits_add h.2.2 h'.2.2⟩
def Sz.cr (h:Sz m u)(h':Sz n v):Sz (m+n+1) (G.cr u v):=⟨bits_sub (bits_mul h.2.1 h'.2.2) (bits_mul h.2.2 h'.2.1),bits_sub (bits_mul h.2.2 h'.1) (bits_mul h.1 h'.2.2),bits_sub (bits_mul h.1 h'.2.1) (bits_mul h.2.1 h'.1)⟩
def RH (h:Sz m u)(h':Sz n v):bits (G.dot u v)<=m+n+2:=bits_add (bits_add (bits_mul h.1 h'.1)<|bits_mul h.2.1 h'.2.1) (C8 (bits_mul h.2.2 h'.2.2)<|aFv _)
end DL
namespace M
open PySem L2 DL
abbrev pt (a b c:Int):D:=.tup [.int a,.int b,.int c]
abbrev ay (n:Nat)(a b c:Int):Prop:=bits a<=n/\bits b<=n/\bits c<=n
def EZ (k:List D->List D->R D):List D->R D
 |.lst Y::a=>k Y a
 |_=>.bad
def UQ (k:List D->List D->R D):List D->R D
 |.tup Y::a=>k Y a
 |_=>.bad
def vM (k:Int->List D->R D):List D->R D
 |.int a::b=>k a b
 |_=>.bad
def W8 {k:Int->List D->R D}{ds:List D}{r:D}(h:vM k ds=.ok r):∃a e,ds=.int a::e/\k a e=.ok r:=by
 unfold vM at h;split at h
 .exact⟨_,_,rfl,h⟩
 .cases h
def iQ (q:R D):List D->R D
 |[]=>q
 |_=>.bad
def eG (h:EZ k ds=.ok r):∃Y e,ds=.lst Y::e/\k Y e=.ok r:=by
 unfold EZ at h;split at h
 .exact⟨_,_,rfl,h⟩
 .cases h
def xQ (h:UQ k ds=.ok r):∃Y e,ds=.tup Y::e/\k Y e=.ok r:=by
 unfold UQ at h;split at h
 .exact⟨_,_,rfl,h⟩
 .cases h
def A6 (h:iQ q ds=.ok r):ds=[]/\q=.ok r:=by
 unfold iQ at h;split at h
 .exact⟨rfl,h⟩
 .cases h
def v1 (k:Int->Int->Int->List D->R D):List D->R D:=UQ λY e=>vM (λa=>vM λb=>vM λc=>iQ (k a b c e)) Y
def v4 (k:Int->Int->Int->Int->List D->R D):List D->R D:=UQ λY e=>vM (λa=>vM λb=>vM λc=>vM λd=>iQ (k a b c d e)) Y
def v3 (k:Int->Int->Int->List D->R D):List D->R D:=UQ λY e=>vM (λa=>vM λb=>vM λc _=>k a b c e) Y
def a2x (h:v3 k ds=.ok r):∃a b c t e,ds=.tup (.int a::.int b::.int c::t)::e/\k a b c e=.ok r:=by obtain⟨Y,e,rfl,h⟩:=xQ h;obtain⟨a,x,rfl,h⟩:=W8 h;obtain⟨b,y,rfl,h⟩:=W8 h;obtain⟨c,z,rfl,h⟩:=W8 h;exact⟨a,b,c,z,e,rfl,h⟩
def F3 (h:v1 k ds=.ok r):∃a b c e,ds=.tup [.int a,.int b,.int c]::e/\k a b c e=.ok r:=by obtain⟨Y,e,rfl,h⟩:=xQ h;obtain⟨a,x,rfl,h⟩:=W8 h;obtain⟨b,y,rfl,h⟩:=W8 h;obtain⟨c,z,rfl,h⟩:=W8 h;obtain⟨rfl,h⟩:=A6 h;exact⟨a,b,c,e,rfl,h⟩
def QV (h:v4 k ds=.ok r):∃a b c d e,ds=.tup [.int a,.int b,.int c,.int d]::e/\k a b c d e=.ok r:=by obtain⟨Y,e,rfl,h⟩:=xQ h;obtain⟨a,x,rfl,h⟩:=W8 h;obtain⟨b,y,rfl,h⟩:=W8 h;obtain⟨c,z,rfl,h⟩:=W8 h;obtain⟨d,w,rfl,h⟩:=W8 h;obtain⟨rfl,h⟩:=A6 h;exact⟨a,b,c,d,e,rfl,h⟩
def t8:List D->R D:=v1 λa b c=>v1 λd e f=>iQ (.ok (pt (d-a) (e-b)<|f-c))
def C9:List D->R D:=v1 λa b c=>v1 λd e f=>iQ (if ay 20000000 a b c/\ay 20000000 d e f then .ok (pt (b*f-c*e) (c*d-a*f)<|a*e-b*d)else .bad)
def w4:List D->R D:=v3 λa b c=>v1 λd e f=>iQ (if ay 50000000 a b c/\ay 50000000 d e f then .ok (.int (a*d+b*e+c*f))else .bad)
@[simp]def fw (P Q:G.V):t8 [vd P,vd Q]=.ok (vd (Q-P)):=rfl
def eI (a:Sz 20000000 u)(b:Sz 20000000 v):C9 [vd u,vd v]=.ok (vd (G.cr u v)):=hV ⟨a,b⟩
def jG (a:Sz 50000000 u)(b:Sz 50000000 v):w4 [vd u,vd v]=.ok (.int (G.dot u v)):=hV ⟨a,b⟩
def mZ (P Q R S:G.V):Int:=G.dot (G.cr (Q-P)<|R-P) (S-P)
open Classical in
def fH:List D->R D:=v1 λa b c=>v1 λd e f=>v1 λg h i=>v1 λj k l=>iQ (if Sz 1000000 ⟨a,b,c⟩/\Sz 1000000 ⟨d,e,f⟩/\Sz 1000000 ⟨g,h,i⟩/\Sz 1000000 ⟨j,k,l⟩then .ok (.int (mZ ⟨a,b,c⟩ ⟨d,e,f⟩ ⟨g,h,i⟩ ⟨j,k,l⟩))else .bad)
def ZC {P Q R S:G.V}(a:Sz 1000000 P)(b:Sz 1000000 Q)(d:Sz 1000000 R)(e:Sz 1000000 S):fH [vd P,vd Q,vd R,vd S]=.ok (.int (mZ P Q R S)):=hV ⟨a,b,d,e⟩
def rule (k:Int):Int:=7*k*k+10*k+3
def P64:Int:=10^64
def P34:Int:=10^34
def a6m:Int:=P64*P34
def sgn (x:Int):Int:=if 0<x then 1 else if x<0 then-1 else 0
def aO:List D->R D:=v4 λa b c d=>v1 λx y z=>iQ (if ay 50000000 a b c/\ay 50000000 x y z then .ok (.int (sgn<|a*x+b*y+c*z-d))else .bad)
def WV (e:ay 50000000 a b c)(f:ay 50000000 x y z):aO [.tup [.int a,.int b,.int c,.int d],pt x y z]=.ok (.int (sgn (a*x+b*y+c*z-d))):=hV ⟨e,f⟩
def a0h (i:Nat)(ρ:Ev):Nat:=match ρ[i]? with
 |some (.v (.int b))=>b.natAbs+2
 |_=>0
def zD (d:bits a<=n)(f:bits b<=n):bits (aGy a b)<=n:=by
 refine IL ?_;have g:=GN d;have h:=GN f;have e:((aGy a b:Nat):Int).natAbs=aGy a b:=by simp
 rw[e];unfold aGy;rcases Nat.eq_zero_or_pos a.natAbs with z|z
 .rw[z,Nat.gcd_zero_left];exact h
 .exact aCR (Nat.gcd_le_left _ z) g
end M
namespace DL
open PySem PySem.Spec L2
open PyProof.Rows hiding St
theorem P7:∀{ns:List Int} {a:List ao},p5 (ns.map V.int) a->IntsAre a ns
 |[],_,.nil=>.nil
 |n::ns,_,.cons r t=>by obtain⟨b,rfl⟩:=r;exact .cons n b (P7 t)
section
def LI (i:X.calm=true):uK X (.builtin "sum") (λY H Q=>∃(p:bb) (ns:List Int),Y=[.ref p]/\Q8 X.K H p (ns.map V.int)/\Q (.int ns.sum) H):=by
 intro d s σ H Y w Q I r h;obtain⟨p,ns,rfl,j,q⟩:=h;obtain⟨u,rfl,k⟩:=vals1 r;cases k;obtain⟨a,l,m,x⟩:=I.list j;have f:=P7 l;obtain⟨N,e⟩:=f.allInts.items;have g:=m.isList;rw[e]at g;refine sum_intListG (I.ok.hd i) g λy z n o=>?_;have t:preSum (numAt N) N.size=ns.sum:=by have b:=nums_intItems N;rw[<-e]at b;have v:=f.numsOf;rw[show a.toArray.toList=a from rfl,v]at b;rw[preSum_eq,aDn (by simp),b]
 rw[t];exact⟨.int ns.sum,H,I.kept o,⟨n,rfl⟩,q⟩
def eZ:List D->Option (List Int)
 |[]=>some []
 |.int i::r=>(eZ r).map (i::·)
 |_=>none
theorem gA:∀{ds:List D} {ns:List Int},eZ ds=some ns->ds=ns.map D.int
 |[],ns,h=>by cases h;rfl
 |.int i::r,ns,h=>by simp only[eZ,aDm]at h;obtain⟨m,a,rfl⟩:=h;rw[gA a];rfl
 |.non::_,_,h=>by cases h
 |.bl _::_,_,h=>by cases h
 |.str _::_,_,h=>by cases h
 |.tup _::_,_,h=>by cases h
 |.lst _::_,_,h=>by cases h
 |.dct::_,_,h=>by cases h
theorem jF:∀ns:List Int,eZ (ns.map D.int)=some ns
 |[]=>rfl
 |n::ns=>by simp[eZ,jF ns]
theorem fT {K:iu}{H:Hp}{O:bb->Prop}:∀{L:List V} {ns:List Int},Reps K H O L (ns.map D.int)->L=ns.map V.int
 |[],[],_=>rfl
 |v::L,n::ns,.cons h t=>by cases h;rw[fT t];rfl
def YJ:List D->R D
 |[.lst Y]=>match eZ Y with
  |some a=>.ok (.int a.sum)
  |none=>.bad
 |_=>.bad
variable [Tabs]in
def iV (d:X.calm=true):dP X (.builtin "sum") YJ:=by
 intro H O L f Q h r q;match f,q with
 |[.lst Y],q=>
  obtain⟨v,rfl,z⟩:=MB r;obtain⟨p,N,rfl,a,b⟩:=z.aa6;simp only[YJ]at q;cases e:eZ Y with
  |none=>rw[e]at q;exact q.elim
  |some g=>rw[e]at q;rw[gA e]at b;rw[fT b]at a;exact⟨_,LI d,p,g,rfl,a,q _ H (Same.refl _) .int⟩
end
theorem uE (Iv:List D->Ev->Prop)(b:∀d ds ρ,Iv (d::ds) ρ->∃ρ2,mR G F d ρ=.ok (.nx ρ2)/\Iv ds ρ2):∀{ds:List D} {ρ:Ev},Iv ds ρ->∃ρ',X9 G F ds ρ=.ok (.nx ρ')/\Iv [] ρ'
 |[],ρ,h=>⟨ρ,rfl,h⟩
 |d::ds,ρ,h=>by
  obtain⟨ρ2,e,f⟩:=b d ds ρ h;obtain⟨ρ',g,i⟩:=uE Iv b f;unfold mR at e;cases a:G d ρ with
  |ok j=>rw[a]at e;exact⟨ρ',by rw[X9,a];dsimp only at e⊢;rw[e];exact g,i⟩
  |ex x=>rw[a]at e;cases e
  |bad=>rw[a]at e;cases e
def jT (Iv:List D->Ev->Prop)(a:∀d ds ρ,Iv (d::ds) ρ->∃ρ2,mR G F d ρ=.ok (.nx ρ2)/\Iv ds ρ2)(h0:Iv ds ρ)(b:∀ρ',Iv [] ρ'->O6 (f ρ')=.ok d):
  O6 (F8 (X9 G F ds ρ) f)=.ok d:=by
 obtain⟨ρ',e,h⟩:=uE Iv a h0;rw[e];exact b ρ' h
def CI {Post:Ev->Prop}(Iv:Nat->Ev->Prop)(b:∀n ρ,Iv (n+1) ρ->c ρ=.ok false\/(c ρ=.ok true/\∃ρ2,F ρ=.ok (.nx ρ2)/\Iv n ρ2))(a:∀ρ,¬Iv 0 ρ)(h0:Iv n ρ)(d:∀m ρ',Iv m ρ'->c ρ'=.ok false->Post ρ'):∃ρ2,S9 c F n ρ=.ok (.nx ρ2)/\Post ρ2:=by obtain⟨m,ρ',e,h,f⟩:=iB Iv b a n ρ h0;exact⟨ρ',e,d m ρ' h f⟩
end DL
namespace M
open PySem L2 DL
abbrev rW (n:G.V)(d:Int):D:=.tup [.int n.x,.int n.y,.int n.z,.int d]
def K4:List D->R D:=v1 λa b c=>iQ (.ok (.int (G.x4 ⟨a,b,c⟩)))
def EW (v:G.V):K4 [vd v]=.ok (.int (G.x4 v)):=rfl
def Sz3 (P Q R:G.V):Prop:=Sz 1000 P/\Sz 1000 Q/\Sz 1000 R
open Classical in
def T4:List D->R D:=v1 λa b c=>v1 λd e f=>v1 λg h i=>iQ (
 if Sz3 ⟨a,b,c⟩ ⟨d,e,f⟩ ⟨g,h,i⟩/\G.cr ((⟨d,e,f⟩:G.V)-⟨a,b,c⟩) ((⟨g,h,i⟩:G.V)-⟨a,b,c⟩)≠0 then .ok (rW (G.j7 ⟨a,b,c⟩ ⟨d,e,f⟩ ⟨g,h,i⟩).1 (G.j7 ⟨a,b,c⟩ ⟨d,e,f⟩ ⟨g,h,i⟩).2)else .bad)
def NT {P Q R:G.V}(h:Sz3 P Q R)(a:G.cr (Q-P) (R-P)≠0):T4 [vd P,vd Q,vd R]=.ok (rW (G.j7 P Q R).1 (G.j7 P Q R).2):=hV ⟨h,a⟩
def JU (h:Sz n v):bits (G.x4 v:Nat)<=n:=by
 have e:((G.x4 v:Nat):Int)=aGy (aGy v.x v.y:Nat) v.z:=by simp[G.x4,aGy]
 rw[e];exact zD (zD h.1 h.2.1) h.2.2
def pN {a g:Int}(h:0<g):a.fdiv g=a/g:=Int.fdiv_eq_ediv_of_nonneg a (aAH h)
end M
namespace DL
open PySem PySem.Spec L2
open PyProof.Rows hiding St
variable [Tabs]
mutual
inductive HV (h:Heap):Value->D->Prop
 |int (i:Int) (t:Tok):HV h (.int i t) (.int i)
 |tup {a:Addr} {items:Array Value} {ds:List D} (p:IsTup h a items) (r:HVs h items.toList ds):HV h (.ref a) (.tup ds)
inductive HVs (h:Heap):List Value->List D->Prop
 |nil:HVs h [] []
 |cons {v:Value} {d:D} {L:List Value} {ds:List D} (r:HV h v d) (t:HVs h L ds):HVs h (v::L) (d::ds)
end
mutual
def qF:D->Bool
 |.int _=>true
 |.tup Y=>gD Y
 |_=>false
def gD:List D->Bool
 |[]=>true
 |x::Y=>qF x&&gD Y
end
theorem iG:∀Y:List D,xB Y=Y.map q8
 |[]=>rfl
 |x::Y=>by rw[xB,iG Y];rfl
section
mutual
theorem HV.keeps (k:∀b o,h.get? b=some o->o.cls=.type "tuple"->h'.get? b=some o):∀{v:ao} {d:D},HV h v d->HV h' v d
 |_,_,.int i t=>.int i t
 |_,_,.tup p r=>.tup (by obtain⟨o,e,c,n,d⟩:=p;exact⟨o,k _ _ e c,c,n,d⟩) (HVs.keeps k r)
theorem HVs.keeps (k:∀b o,h.get? b=some o->o.cls=.type "tuple"->h'.get? b=some o):∀{v:List ao} {d:List D},HVs h v d->HVs h' v d
 |_,_,.nil=>.nil
 |_,_,.cons r t=>.cons (HV.keeps k r) (HVs.keeps k t)
end
mutual
theorem HV.inj:∀{v:ao} {d d':D},HV h v d->HV h v d'->d=d'
 |_,_,_,.int i t,.int _ _=>rfl
 |_,_,_,.tup p r,.tup f g=>by obtain⟨o,e,c,n,j⟩:=p;obtain⟨k,a,l,m,b⟩:=f;rw[e]at a;cases a;rw[j]at b;injection b with q _;subst q;rw[HVs.inj r g]
theorem HVs.inj:∀{v:List ao} {d d':List D},HVs h v d->HVs h v d'->d=d'
 |_,_,_,.nil,.nil=>rfl
 |_,_,_,.cons r t,.cons a b=>by rw[HV.inj r a,HVs.inj t b]
end
theorem HVs.length:∀{v:List ao} {d:List D},HVs h v d->v.length=d.length
 |_,_,.nil=>rfl
 |_,_,.cons _ t=>by simp[HVs.length t]
end
section
variable{prog:bt} {w:cp}
def PH (prog:bt)(w:cp)(h:cq)(v:ao)(d:D):Prop:=∀(A:cf) (E:G0) (s:a9) (Q:Int->a9->Prop),s.heap=h->A.units+8*J0 d<cz->(∀a,s.toks<=a->Q (q8 d) {s with toks:=a})->aA (be prog w) A (pyHash v) Q E s
mutual
theorem ZN:∀{v:ao} {d:D},HV h v d->PH prog w h v d
 |_,_,.int i t=>λA E s Q J L q=>by exact(intKind prog w).pyHash (k:=i) (intKind_is _ _ _ _) (q _<|aFv _)
 |_,_,.tup (a:=a) (items:=items) (ds:=ds) p r=>λA E s Q J L q=>by
  have fs:=RP r;subst J;obtain⟨o,N,T,n,U⟩:=p;have u:s.TypeIs (.ref a) "tuple":=⟨o,N,T⟩;have C:A.units<cz:=by lia
  rw[J0]at L;unfold pyHash;first|unfold pyHashByItsType|skip
  first|refine aAa (wpAny_cRoomFor_or (.inr C) ?_)|skip
  refine aAa (aBC u PySem.F.slot_tuple_hash.lookup ?_);show aA _ _ (if(some (aGq "tuple.__hash__")==some Value.none)=true then _ else _) Q E s;rw[h9 (by rw[aFC];exact aBc)];refine aAa (aBC u PySem.F.slot_tuple_hash.lookup ?_);show aA _ _ (callSpecialIfBoundUnlessNone? (.ref a) "__hash__" _>>=_) Q E s;refine aAa (aDs u PySem.F.slot_tuple_hash<|aBB PySem.F.slot_tuple_hash u PySem.F.entry_tuple_hash ?_ (PySem.F.args_tuple_hash_1 _));show aA _ _ (aDG (.ref a)>>=_) _ _ s;refine aAa (wpAny_tupleItemsOf N U ?_);refine aAa ?_;rw[<-aCy];refine aCA _
   (λrest (b:Array Int) H=>∃done left g,ds=done++left/\Paired (PH prog w s.heap) rest left/\b.toList=done.map q8/\s.toks<=g/\H={s with toks:=g})
   _ ?_ ?_ _ _ ⟨[],ds,s.toks,rfl,fs,rfl,aAj _,rfl⟩
  .rintro x rest b H ⟨done,left,g,l,I,y,Y,rfl⟩;cases I with
   |@cons _ d _ e h1 O=>
    refine aAa (h1 _ _ _ _ rfl ?_ λz f=>?_)
    .have:J0 d<=N1 ds:=by rw[l];exact wI (j:=done.length) (by simp)
     rw[x5];lia
    first
     |exact aAb ⟨done++[d],e,z,by simp[l],O,by simp[y],by(have:g<=z:=f);lia,rfl⟩
     |exact aAa (aAb (aAb ⟨done++[d],e,z,by simp[l],O,by simp[y],by(have:g<=z:=f;lia),rfl⟩))
  .rintro b H ⟨done,left,g,l,I,y,Y,rfl⟩;cases I;rw[aCs]at l;subst l;show aA _ _ (retInt<|aAT b.toList) _ _ _;rw[y];refine wpAny_ret_mkInt ?_;show aA _ _ (if(decide (-(2:Int)^63<=aAT (ds.map q8))&&decide (aAT (ds.map q8)<2^63))=true then _ else _) Q E _;have m:=q (g+1) (by lia);rw[q8,iG]at m;unfold reduceHash at m;by_cases B:(decide (-(2:Int)^63<=aAT (ds.map q8))&&decide (aAT (ds.map q8)<2^63))=true
   .rw[hV B];rw[hV B]at m;exact aAb m
   .rw[h9 B];rw[h9 B]at m;exact aAa (aDC<|aAb m)
theorem RP:∀{v:List ao} {d:List D},HVs h v d->Paired (PH prog w h) v d
 |_,_,.nil=>.nil
 |_,_,.cons r t=>.cons (ZN r) (RP t)
end
mutual
theorem HA:∀{v u:ao} {d e:D} {A:cf},HV s.heap v d->HV s.heap u e->A.units+J0 d<cz->SeqAt.EqAt A s v u (y6 d e)
 |_,_,_,_,A,.int i t,.int j h,_=>by simp only[y6];exact aEY _ _ _ _
 |_,_,_,_,A,.int i t,.tup p r,b=>by simp only[y6];exact aFY _ _ p (by lia)
 |_,_,_,_,A,.tup p r,.int j h,b=>by simp only[y6];exact aFZ _ _ p (by lia)
 |_,_,_,_,A,.tup (a:=a) (ds:=ds) p r,.tup (a:=k) (ds:=l) g f,b=>by
  by_cases e:a=k
  .subst e;have:=HV.inj (.tup p r) (.tup g f);rw[this,X5];exact aDZ _
  .simp only[y6];rw[J0]at b;exact aEZ e (mJ (by simpa using p) (by simpa using g) r.length f.length (by lia) (OS r f (by rw[x5];lia))).1
theorem OS:∀{L e:List ao} {ds es:List D} {A:cf},HVs s.heap L ds->HVs s.heap e es->A.in1.units+N1 ds<cz->oJ A s L e ds es
 |_,_,_,_,A,.nil,_,_=>λj u w a b=>by simp at a
 |_,_,_,_,A,.cons r t,.nil,_=>λj u w a b=>by simp at b
 |_,_,_,_,A,.cons (d:=d) (ds:=ds) r t,.cons (d:=i) (ds:=k) f g,h=>λj u w a b=>by
  rw[N1]at h;match j,a,b with
  |0,a,b=>simp only[aDg,aGw]at a b;subst a b;exact HA r f (by lia)
  |j+1,a,b=>simp only[aFu]at a b;exact OS t g (by lia) j u w a b
end
mutual
theorem kL:∀{d e:D},qF d=true->qF e=true->y6 d e=true->d=e
 |.int i,.int j,_,_,h=>by simp[y6]at h;rw[h]
 |.tup Y,.tup N,a,b,h=>by rw[qF]at a b;rw[y6]at h;rw[CB a b h]
 |.int _,.tup _,_,_,h=>by simp[y6]at h
 |.tup _,.int _,_,_,h=>by simp[y6]at h
 |.non,_,h,_,_=>by simp[qF]at h
 |.bl _,_,h,_,_=>by simp[qF]at h
 |.str _,_,h,_,_=>by simp[qF]at h
 |.lst _,_,h,_,_=>by simp[qF]at h
 |_,.non,_,h,_=>by simp[qF]at h
 |_,.bl _,_,h,_=>by simp[qF]at h
 |_,.str _,_,h,_=>by simp[qF]at h
 |_,.lst _,_,h,_=>by simp[qF]at h
theorem CB:∀{d e:List D},gD d=true->gD e=true->Z3 d e=true->d=e
 |[],[],_,_,_=>rfl
 |[],_::_,_,_,h=>by simp[Z3]at h
 |_::_,[],_,_,h=>by simp[Z3]at h
 |x::Y,y::N,a,b,h=>by rw[gD,aAQ]at a b;rw[Z3,aAQ]at h;rw[kL a.1 b.1 h.1,CB a.2 b.2 h.2]
end
mutual
theorem HV.ok:∀{v:ao} {d:D},HV h v d->qF d=true
 |_,_,.int i t=>rfl
 |_,_,.tup p r=>by rw[qF];exact HVs.ok r
theorem HVs.ok:∀{v:List ao} {d:List D},HVs h v d->gD d=true
 |_,_,.nil=>rfl
 |_,_,.cons r t=>by rw[gD,HV.ok r,HVs.ok t];rfl
end
mutual
theorem jJ:∀{v:ao} {d:D} (k:Nat),HV h v d->J0 d<k->∀(M:Model) (A:cf) (E:G0) (s:a9) (Q:BL),s.heap=h->Q true s->aA M A (eqIsQuiet k v) Q E s
 |_,_,k,.int i t,_=>λM A E s Q m q=>by unfold eqIsQuiet;exact aAb q
 |_,_,k,.tup (a:=a) (items:=items) (ds:=ds) p r,e=>λM A E s Q m q=>by
  subst m;obtain⟨o,u,y,n,z⟩:=p;have x:s.TypeIs (.ref a) "tuple":=⟨o,u,y⟩;match k,e with
  |k+1,e=>
   rw[J0]at e;unfold eqIsQuiet;refine aAa (aBC x PySem.F.slot_tuple_eq.lookup ?_);show aA _ _ (isInstance (.ref a) (.type "tuple")>>=_) _ _ s;refine aAa (aDQ x isSubtype_tuple_tuple ?_);simp only[aDD,aAu,if_false];refine aAa (aBU u z ?_);refine aAa ?_;show aA _ _ (forIn items _ _) _ _ s;rw[<-aCy];refine aCA _ (λrest r b=>r.1=none/\b=s/\∃f,HVs s.heap rest f/\N1 f<k) _ ?_ ?_ _ _ ⟨rfl,rfl,ds,r,by lia⟩
   .rintro v rest r b ⟨g,rfl,f,j,l⟩;cases j with
    |@cons _ d _ B j C=>rw[N1]at l;refine aAa (jJ k j (by lia) M A E b _ rfl ?_);simp only[aDD,aAu,if_false];exact aAb ⟨rfl,rfl,B,C,by lia⟩
   .rintro⟨H,I⟩ b ⟨g,rfl,_⟩;simp only at g;subst g;exact aAb q
end
mutual
theorem iP:∀{v:ao} {d:D} (k:Nat),HV h v d->J0 d<k->∀(M:Model) (A:cf) (E:G0) (s:a9) (Q:BL),s.heap=h->Q false s->aA M A (ofAClassStatement k v) Q E s
 |_,_,k,.int i t,_=>λM A E s Q m q=>by unfold ofAClassStatement;exact aAb q
 |_,_,k,.tup (a:=a) (items:=items) (ds:=ds) p r,e=>λM A E s Q m q=>by
  subst m;obtain⟨o,u,x,n,y⟩:=p;have z:s.TypeIs (.ref a) "tuple":=⟨o,u,x⟩;match k,e with
  |k+1,e=>
   rw[J0]at e;unfold ofAClassStatement;refine aAa (aDS z ?_);dsimp only;rw[hV (by decide)];refine aAa (aAb ?_);simp only[aDD,aAu,if_false];refine aAa (aBU u y ?_);dsimp only;refine aAa ?_;show aA _ _ (forIn items _ _) _ _ s;rw[<-aCy];refine aCA _ (λrest r b=>r.1=none/\b=s/\∃f,HVs s.heap rest f/\N1 f<k) _ ?_ ?_ _ _ ⟨rfl,rfl,ds,r,by lia⟩
   .rintro v rest r b ⟨g,rfl,f,j,l⟩;cases j with
    |@cons _ d _ B j C=>rw[N1]at l;refine aAa (iP k j (by lia) M A E b _ rfl ?_);simp only[aAu,if_false];exact aAb ⟨rfl,rfl,B,C,by lia⟩
   .rintro⟨H,I⟩ b ⟨g,rfl,_⟩;simp only at g;subst g;exact aAb q
end
mutual
theorem rN:∀{v:ao} {d:D} (k:Nat),HV h v d->J0 d<k->∀(M:Model) (A:cf) (E:G0) (s:a9) (Q:BL),s.heap=h->Q true s->aA M A (hashByValue k v) Q E s
 |_,_,k,.int i t,_=>λM A E s Q m q=>by unfold hashByValue;exact aAb q
 |_,_,k,.tup (a:=a) (items:=items) (ds:=ds) p r,e=>λM A E s Q m q=>by
  subst m;obtain⟨o,u,x,n,y⟩:=p;have z:s.TypeIs (.ref a) "tuple":=⟨o,u,x⟩;match k,e with
  |k+1,e=>
   rw[J0]at e;unfold hashByValue;refine aAa (aBC z PySem.F.slot_tuple_hash.lookup ?_);dsimp only;refine aAa (aBU u y ?_);refine aAa ?_;show aA _ _ (forIn items _ _) _ _ s;rw[<-aCy];refine aCA _ (λrest r b=>r.1=none/\b=s/\∃f,HVs s.heap rest f/\N1 f<k) _ ?_ ?_ _ _ ⟨rfl,rfl,ds,r,by lia⟩
   .rintro v rest r b ⟨g,rfl,f,j,l⟩;cases j with
    |@cons _ d _ B j C=>rw[N1]at l;refine aAa (rN k j (by lia) M A E b _ rfl ?_);simp only[aDD,aAu,if_false];exact aAb ⟨rfl,rfl,B,C,by lia⟩
   .rintro⟨H,I⟩ b ⟨g,rfl,_⟩;simp only at g;subst g;exact aAb q
end
def mK {α:Type}{M:Model}{A:cf}{E:G0}{s:a9}{Q:α->a9->Prop}{c:Prop}[Decidable c]{a b:Sem α}(d:c->aA M A a Q E s)(e:¬c->aA M A b Q E s):aA M A (if c then a else b) Q E s:=by
 by_cases h:c
 .rw[hV h];exact d h
 .rw[h9 h];exact e h
def cx {M:Model}{A:cf}{E:G0}{s:a9}{Q:BL}{x:ao}{d:D}(j:HV s.heap x d)(k:J0 d<8)(N:List ao)(m:∀y∈N,∃e,HV s.heap y e/\J0 e<8)(q:Q false s):aA M A (searchCouldBeSeen x N) Q E s:=by
 unfold searchCouldBeSeen;refine aAa ?_;refine aCA _ (λrest r a=>r.1=none/\a=s/\∀y∈rest,y∈N) _ ?_ ?_ _ _ ⟨rfl,rfl,λy h=>h⟩
 .rintro y rest r a ⟨f,rfl,g⟩;obtain⟨e,l,b⟩:=m y (g y (by simp));dsimp only;refine mK (λ_=>?_) (λ_=>?_)
  .exact aAb ⟨rfl,rfl,λz i=>g z (aAe _ i)⟩
  .refine aAa (jJ 8 j k M A E a _ rfl ?_);simp only[aDD,aAu,if_false];refine aAa (jJ 8 l b M A E a _ rfl ?_);simp only[aDD,aAu,if_false];refine aAa (iP 8 j k M A E a _ rfl ?_);simp only[aAu,if_false];refine aAa (iP 8 l b M A E a _ rfl ?_);simp only[aAu,if_false];exact aAb ⟨rfl,rfl,λz i=>g z (aAe _ i)⟩
 .rintro⟨n,o⟩ a ⟨f,rfl,_⟩;simp only at f;subst f;exact aAb q
end
def EV (h:cq)(e:Int×ao)(d:D):Prop:=HV h e.2 d/\e.1=q8 d
theorem J4 {α β:Type}{F:α->β->Prop}:∀{l:List α} {m:List β} {i:Nat} {a:α},Paired F l m->l[i]?=some a->∃b,m[i]?=some b/\F a b
 |_,_,_,_,.nil,h=>by simp at h
 |_,_,0,_,.cons r _,h=>by simp at h;subst h;exact⟨_,rfl,r⟩
 |_,_,i+1,a,.cons _ t,h=>by obtain⟨b,d,e⟩:=J4 (i:=i) t (by simpa using h);exact⟨b,by simpa using d,e⟩
theorem eN {α β:Type}{F:α->β->Prop}:∀{l:List α} {m:List β} {i:Nat} {b:β},Paired F l m->m[i]?=some b->∃a,l[i]?=some a/\F a b
 |_,_,_,_,.nil,h=>by simp at h
 |_,_,0,_,.cons r _,h=>by simp at h;subst h;exact⟨_,rfl,r⟩
 |_,_,i+1,a,.cons _ t,h=>by obtain⟨b,d,e⟩:=eN (i:=i) t (by simpa using h);exact⟨b,by simpa using d,e⟩
theorem iO {α β:Type}{F:α->β->Prop}:∀{l:List α} {m:List β},Paired F l m->l.length=m.length
 |_,_,.nil=>rfl
 |_,_,.cons _ t=>by simp[iO t]
section
variable{es:Array (Int×ao)}
def kE (K:ST.SOk t es.toList):t.fits es.size=true:=by
 have a:=K.len;have d:=K.room;have b:=K.tab.nod;unfold aGr SetTable.fill;rw[b];simp at a⊢
 lia
theorem nN (ho:s.heap.get? S=some o)(hd:o.data=.set es ep t)(K:ST.SOk t es.toList)(B:t.mask%2=1)(P:Paired (EV s.heap) es.toList ds)(O:HV s.heap (.ref x) (.tup Y))(C:J0 (.tup Y)<8)(xp:∀e∈ds,J0 e<8)(hT:∀e∈ds,∃N,e=.tup N)
  (hu:A.units+16<cz) (hf:ST.V4 t (q8 (.tup Y)) n0) {Q:SetFound->a9->Prop} (g:D.tup Y∈ds->Q (.there none) s) (b:D.tup Y∉ds->Q (.free (ST.o5 t.mask (q8 (.tup Y)) n0).j false) s):
  ∀(a n:Nat) (T:Option SetTable.Probe),T.getD (t.probeStart (q8 (.tup Y)))=ST.o5 t.mask (q8 (.tup Y)) n->n<=n0->n0-n<a->
   (∀m<n,∀(i:Nat),t.place[i]?=some (ST.o5 t.mask (q8 (.tup Y)) m).j->ds[i]?≠some (.tup Y))->aA (be prog w) A (setSearchFrom S (.ref x) (q8 (.tup Y)) true a T) Q E s
 |0,n,T,_,_,h,_=>by lia
 |a+1,n,T,jh,hn,hfu,H=>by
  unfold setSearchFrom;refine aAa (aCm ho hd (kE K) ?_);dsimp only;refine mK (λz=>?_) (λ_=>?_)
  .unfold SetTable.gaveWay at z;simp at z;lia
  rw[jh];obtain⟨U,a1,a2,a3,a4⟩:=ST.NG K.tab (λi=>(es[i]?.map (·.1)).getD 0) (q8<|.tup Y) hf n hn;generalize hg:t.probe _ (q8<|.tup Y) (ST.o5 t.mask (q8<|.tup Y) n)=pm;rcases a4 with⟨en,e⟩|⟨ah,i,u,hh,e⟩
  .have ep:pm=_:=hg.symm.trans e;rw[ep];dsimp only;refine aAb (b λI=>?_);obtain⟨i,u⟩:=aDv.mp I;obtain⟨⟨J,v⟩,he,h1,h2⟩:=eN P u;obtain⟨j,hj,qe⟩:=ST.VP K.len he;dsimp only at h2;have hr:=K.reach _ qe;dsimp only at hr;rw[h2]at hr;obtain⟨m,I,em⟩:=ST.Reach.before hf (by rw[<-aAE]at hj;exact aAw hj) hr;by_cases z:m<n
   .exact H m z i (by rw[em];exact hj) u
   .obtain⟨f,dc,ag⟩:=a3 m (by lia) (by lia);have:f=i:=by have g:=ST.M8 K.tab dc;have b:=ST.M8 K.tab hj;rw[em]at g;rw[g]at b;injection b
    subst this;refine ag ?_;show(es[f]?.map (·.1)).getD 0=_;rw[<-aAE,he];exact h2
  .have ep:pm=_:=hg.symm.trans e;rw[ep];dsimp only;have L:i<es.size:=by
    have:=(aCl.mp u).1;have h1:=K.len;simp at h1
    lia
   have l:es[i]?=some es[i]:=aAM L;obtain⟨di,d,J,q⟩:=J4 P (show es.toList[i]?=some es[i]by rw[aAE];exact l);obtain⟨N,rfl⟩:=hT di (aAw d);have go:aA (be prog w) A (do
     let some (_,y):=es[i]?|unsupported "internal:set-entry"
     let equal<-gk [y] (eqBool y<|.ref x)
     let(es',_,t')<-setState S
     if true&&equal then return .there none
     let some same:=t'.sameMemory t.moves t.mask|unsupported "set.changed-during-lookup:is-the-new-block-at-the-old-address"
     let ZR<-match(if same then t'.slot (ST.o5 t.mask (q8<|.tup Y) U).j else .empty)with
      |.live f=>match es'[f]? with
       |some (_,y')=>do pure (if<-isSame y' y then some f else none)
       |none=>pure none
      |_=>pure none
     match ZR with
     |none=>rule "set.search.anew";setSearchFrom S (.ref x) (q8<|.tup Y) true a none
     |some f=>if equal then return .there (some f)else setSearchFrom S (.ref x) (q8<|.tup Y) true a (some<|ST.o5 t.mask (q8<|.tup Y)<|U+1)) Q E s:=by
    rw[l];generalize he:es[i]=en at*
    obtain⟨hn,y⟩:=en;dsimp only at J q⊢;refine aAa (aAY (HA J O (by have:=xp _ (aAw d);lia) prog w E _ ?_));refine aAa (aCm ho hd (kE K) ?_);dsimp only;cases hq:y6 (.tup N) (.tup Y)with
    |true=>rw[hV (show(true&&true)=true from rfl)];have:D.tup N=.tup Y:=kL J.ok O.ok hq;rw[this]at d;exact aAb (g<|aAw d)
    |false=>
     rw[h9 (by simp)];have hsm:t.sameMemory t.moves t.mask=some true:=by unfold SetTable.sameMemory;rw[hV (by simp)]
     rw[hsm];dsimp only;rw[hV rfl,ST.M8 K.tab u];dsimp only;rw[l];dsimp only;cases J with
     |tup p r=>
      refine aAa (wpAny_isSame_ref_self ?_);refine aAa (aAb ?_);rw[hV rfl];dsimp only;rw[h9 (by simp)];refine nN ho hd K B P O C xp hT hu hf g b a (U+1) _ rfl (by lia) (by lia) λm I i2 zg hz=>?_;by_cases z:m<n
      .exact H m z i2 zg hz
      .by_cases z2:m=U
       .subst z2;have:i2=i:=by have g:=ST.M8 K.tab zg;have b:=ST.M8 K.tab u;rw[g]at b;injection b
        subst this;rw[d]at hz;have:D.tup N=.tup Y:=Option.some.inj hz;rw[this,X5]at hq;cases hq
       .obtain⟨f,dc,ag⟩:=a3 m (by lia) (by lia);have:f=i2:=by have g:=ST.M8 K.tab dc;have b:=ST.M8 K.tab zg;rw[g]at b;injection b
        subst this;obtain⟨⟨h0,v0⟩,he0,hv0,hh0⟩:=eN P hz;refine ag ?_;show(es[f]?.map (·.1)).getD 0=_;rw[<-aAE,he0];exact hh0
   refine mK (λ_=>?_) (λ_=>go);refine aAa (cx O C _ (λy hy=>?_) ?_)
   .obtain⟨e',xh,rfl⟩:=aAk.mp hy;rw[Array.toList_filter]at xh;have I:=(aAU.mp xh).1;obtain⟨k,hk⟩:=aDv.mp I;obtain⟨dk,hdk,hvk,_⟩:=J4 P hk;exact⟨dk,hvk,xp _ (aAw hdk)⟩
   .rw[h9 (by simp)];exact go
def wG (m n:Nat):Prop:=(m=7/\n<=4)\/(m=31/\n<=18)\/(m=127/\n<=76)
def wG.odd (h:wG m n):m%2=1:=by rcases h with⟨rfl,_⟩|⟨rfl,_⟩|⟨rfl,_⟩<;>rfl
def Keeps (h0 h:cq):Prop:=∀b o,h0.get? b=some o->h.get? b=some o
structure SetAt (L:Bool)(h0 h:Heap)(S:Addr)(ds:List D):Prop where
 ex:∃(o:Obj) (es:Array (Int×Value)) (ep:Nat) (t:SetTable),h.get? S=some o/\o.cls=.type "set"/\o.dict=none/\o.slots=#[]/\o.data=.set es ep t/\ST.SOk t es.toList/\wG t.mask es.size/\Paired (EV h0) es.toList ds/\t.led=L/\t.plain=true
 nd:ds.Nodup
def fE {α β:Type}{F:α->β->Prop}:∀{l b:List α} {m:List β},b.Perm l->Paired F l m->∃a,a.Perm m/\Paired F b a:=λ{l b m} p=>by
 induction p generalizing m with
 |nil=>intro h;exact⟨m,.refl _,h⟩
 |cons x _ f=>
  intro h;cases h with
  |cons r t=>obtain⟨a,g,i⟩:=f t;exact⟨_::a,g.cons _,.cons r i⟩
 |swap x y l=>
  intro h;cases h with
  |cons r t=>
   cases t with
   |cons j k=>exact⟨_,.swap _ _ _,.cons j (.cons r k)⟩
 |trans _ _ d e=>intro h;obtain⟨v,n,o⟩:=e h;obtain⟨q,s,u⟩:=d o;exact⟨q,s.trans n,u⟩
theorem dQ {α β:Type}{F G:α->β->Prop}(i:∀a b,F a b->G a b):∀{l:List α} {m:List β},Paired F l m->Paired G l m
 |_,_,.nil=>.nil
 |_,_,.cons r t=>.cons (i _ _ r) (dQ i t)
theorem rL {α β:Type}{F:α->β->Prop}{a:α}{b:β}(r:F a b):∀{l:List α} {m:List β} (p:Nat),Paired F l m->Paired F (l.take p++a::l.drop p) (m.take p++b::m.drop p)
 |_,_,0,h=>.cons r h
 |_,_,p+1,.nil=>.cons r .nil
 |_,_,p+1,.cons d t=>.cons d (rL r p t)
def RY {α:Type}(a:α)(l:List α)(p:Nat):(l.take p++a::l.drop p).Perm (a::l):=by have h:=List.perm_middle (a:=a) (l₁:=l.take p) (l₂:=l.drop p);rw[aFN]at h;exact h
def CQ {α β:Type}{M:Model}{Q:α->a9->Prop}{c:Prop}[Decidable c]{a:Sem β}{k:β->Sem α}(b:β)(e:∀d:β->a9->Prop,d b s->aA M A a d E s)(h:aA M A (k b) Q E s):aA M A (if c then a>>=k else pure b>>=k) Q E s:=
 mK (λ_=>aAa (e _ h)) (λ_=>aAa (aAb h))
def nB (h:cq)(S:bb)(f:Obj->Obj):Heap.SameBut S h (h.update S f):=⟨by simp[Heap.size_update],λb a=>aAI _ _ (aCa a)⟩
def tY {h:cq}{S:bb}{o:Obj}{es es':Array (Int×ao)}{ep:Nat}{t t':eR}(b:h.get? S=some o)(a:o.data=.set es ep t):(h.update S (aEx es' t')).get? S=some {o with data:=.set es' (ep+1) t'}:=by
 have e:aEx es' t' o={o with data:=.set es' (ep+1) t'}:=by obtain⟨c,d,f,g⟩:=o;cases f<;>simp at a;obtain⟨rfl,rfl,rfl⟩:=a;rfl
 rw[aBv _ b (by rw[e];rfl),e]
def iy {L:Bool}{h0:cq}{Q:BL}(hS:SetAt L h0 s.heap S ds)(kp:Keeps h0 s.heap)(B:HV h0 (.ref x) (.tup Y))(C:J0 (.tup Y)<8)(xp:∀e∈ds,J0 e<8)(hT:∀e∈ds,∃N,e=.tup N)(hu:A.units+128<cz)(hn:ds.length<76)
  (q1:D.tup Y∈ds->∀tk,s.toks<=tk->Q false {s with toks:=tk})
  (q2:D.tup Y∉ds->∀h' tk bf,s.toks<=tk->Heap.SameBut S s.heap h'->SetAt L h0 h' S bf->bf.Perm (.tup Y::ds)->Q true {s with heap:=h',toks:=tk}):aA (be prog w) A (setAdd S (.ref x)) Q E s:=by
 obtain⟨⟨o,es,ep,t,H,hc,zh,I,J,K,mk,P0,lp0⟩,nd⟩:=hS;have hx:HV s.heap (.ref x) (.tup Y):=B.keeps λb o e _=>kp b o e;have P:Paired (EV s.heap) es.toList ds:=dQ (λe d r=>⟨r.1.keeps λb o e _=>kp b o e,r.2⟩) P0;have gu:es.size=ds.length:=by have:=iO P;simpa using this
 unfold setAdd;refine aAY (aAa (ZN hx A E s _ rfl (by lia) λtk we=>?_));unfold setAddHashed setAddHashedIn;refine aAY (aAa<|aCm (s:={s with toks:=tk}) H J (kE K) ?_);dsimp only;rw[show byScan (.ref x) es=false from rfl];simp only[aAu,if_false];obtain⟨n0,hf⟩:=ST.EG K.full K.room (q8<|.tup Y);refine aAa (nN (s:={s with toks:=tk}) (n0:=n0) H J K mk.odd P hx C xp hT (by lia) hf (λn=>?_) (λn=>?_) 100000 0 none rfl (aAX _) ?_ (λm n=>by lia))
 .dsimp only;exact aAb (q1 n tk we)
 .dsimp only;refine aAa (aCm (s:={s with toks:=tk}) H J (kE K) ?_);dsimp only;refine CQ true (λQ' q=>rN 8 hx C _ _ _ _ _ rfl q) ?_;rw[hV rfl];have og:t.place.size+1<=t.mask:=by have:=K.len;simp at this;rcases mk with⟨a,k⟩|⟨a,k⟩|⟨a,k⟩<;>lia
  have p:=ST.qx K (x:=.ref x) hf og;have el:=ST.gN es (t.put (ST.o5 t.mask (q8<|.tup Y) n0).j).2 (q8 (.tup Y),aDJ x);have lp:(t.put (ST.o5 t.mask (q8<|.tup Y) n0).j).1.led=L/\(t.put (ST.o5 t.mask (q8<|.tup Y) n0).j).1.plain=true:=lp0;have em:(t.put (ST.o5 t.mask (q8<|.tup Y) n0).j).1.mask=t.mask:=rfl;rw[<-el]at p;have O:Paired (EV h0) (aGz es (t.put (ST.o5 t.mask (q8<|.tup Y) n0).j).2 (q8 (.tup Y),aDJ x)).toList (ds.take (t.put (ST.o5 t.mask (q8<|.tup Y) n0).j).2++.tup Y::ds.drop (t.put (ST.o5 t.mask (q8<|.tup Y) n0).j).2):=by rw[el];exact rL ⟨B,rfl⟩ _ P0
  have T:=RY (D.tup Y) ds (t.put (ST.o5 t.mask (q8<|.tup Y) n0).j).2;generalize hds2:ds.take (t.put (ST.o5 t.mask (q8<|.tup Y) n0).j).2++.tup Y::ds.drop (t.put (ST.o5 t.mask (q8<|.tup Y) n0).j).2=qm at O T;generalize hes2:aGz es (t.put (ST.o5 t.mask (q8<|.tup Y) n0).j).2 (q8 (.tup Y),aDJ x)=h at p O⊢;generalize ht2:(t.put (ST.o5 t.mask (q8<|.tup Y) n0).j).1=g at p em lp⊢;have rh:qm.Nodup:=T.nodup_iff.mpr (aAF.mpr ⟨n,nd⟩);have i:h.size=es.size+1:=by
   have h1:=iO O;have h2:=T.length_eq;simp at h1 h2
   lia
  have cg:h.size<=sizeLine:=by rw[i,aFs];lia
  refine aAa (wpAny_storeSet_of (s:={s with toks:=tk}) H J ?_ cg);have kg:=tY (es':=h) (t':=g) H J;have U:=nB s.heap S (aEx h g);have l:g.fill=h.size:=by have h1:=p.len;have h2:=p.tab.nod;unfold SetTable.fill;rw[h2];simp at h1⊢;lia
  refine mK (λwg=>?_) (λwg=>?_)
  .
   have qf:g.fill*5>=g.mask*3:=by
    have:g.tooFull=true:=by simpa using wg
    simpa[aGF]using this
   rw[l,em,i]at qf;obtain⟨M,hM,hM1,u⟩:∃M,SetTable.sizeAbove (SetTable.grown<|es.size+1)=M+1/\ST.nT (M+1)/\wG M (es.size+1):=by
    rcases mk with⟨a,k⟩|⟨a,k⟩|⟨a,k⟩
    .have:es.size=4:=by lia
     rw[this];exact⟨31,by decide,ST.cw,.inr (.inl ⟨rfl,by lia⟩)⟩
    .have:es.size=18:=by lia
     rw[this];exact⟨127,by decide,ST.UV,.inr (.inr ⟨rfl,by lia⟩)⟩
    .lia
   unfold setRelay;refine aAa (aAa<|aCm (s:={s with heap:=s.heap.update S (aEx h g),toks:=tk}) kg rfl (kE p) ?_);dsimp only;rw[hM];refine mK (λz=>?_) (λ_=>?_)
   .exfalso;rcases u with⟨a,_⟩|⟨a,_⟩|⟨a,_⟩<;>(subst a;exact absurd z (by rw[aFs];decide))
   obtain⟨y,f,r1,r2,r3,r4,r5,r6,r7,r8,r9⟩:=ST.NJ (finger:=g.finger) (moves:=g.movedTo M) (led:=g.led) (plain:=g.plain) hM1 h (by rw[i];rcases u with⟨a,k⟩|⟨a,k⟩|⟨a,k⟩<;>lia);have er:g.relaid (h.map (·.1)) (SetTable.grown<|es.size+1)=some (y,f):=by unfold SetTable.relaid;rw[hM];exact r1
   rw[er];have hre:∀{Q':Array (Int×ao)×eR->a9->Prop} {s':a9},Q' (f.filterMap (h[·]?),y) s'->aA (be prog w) A (do
     let es':=f.filterMap (h[·]?)
     if es'.size !=h.size then unsupported "internal:set-table-lost-an-element"
     pure (es',y)) Q' E s':=λ{Q' s'} qq=>by
    dsimp only;rw[h9 (by simp[r2])];exact aAb qq
   refine aAa (hre ?_);dsimp only;generalize hes3:f.filterMap (h[·]?)=v at r2 r3 r4⊢;refine wpAny_storeSet_of (s:={s with heap:=s.heap.update S (aEx h g),toks:=tk}) kg rfl ?_ (by rw[r2];exact cg);refine aAb ?_;have ho3:=tY (es':=v) (t':=y) kg rfl;have sb3:=nB (s.heap.update S<|aEx h g) S (aEx v y);obtain⟨ds3,p3,P5⟩:=fE r3 O;exact q2 n _ tk ds3 we (U.trans sb3) ⟨⟨_,v,_,y,ho3,hc,zh,I,rfl,r4,by rw[r5,r2,i];exact u,P5,by rw[r7];exact lp.1,by rw[r8];exact lp.2⟩,p3.nodup_iff.mpr rh⟩ (p3.trans T)
  .refine aAb ?_;refine q2 n _ tk qm we U ⟨⟨_,h,_,g,kg,hc,zh,I,rfl,p,?_,O,lp⟩,rh⟩ T;have qf:¬g.fill*5>=g.mask*3:=λz=>wg (by simp[aGF,z]);rw[l,em,i]at qf;rw[em,i];rcases mk with⟨a,k⟩|⟨a,k⟩|⟨a,k⟩
   .exact .inl ⟨a,by lia⟩
   .exact .inr (.inl ⟨a,by lia⟩)
   .exact .inr (.inr ⟨a,by lia⟩)
 .have:=hf.1;have n:t.mask<=127:=by rcases mk with⟨a,_⟩|⟨a,_⟩|⟨a,_⟩<;>lia
  lia
end
section
variable{prog:bt} {w:cp} {A:cf} {R:Result->a9->Prop} {I:bb} {fp wr:List bb} {G:Array GenState->Array GenState->Prop} {n:Nat} {P:Nat->ao->Prop} {St:Nat->a9->Prop} {h0:cq}
def xj (h0:cq)(v:ao)(d:D):Prop:=∃a Y,v=.ref a/\d=.tup Y/\J0 d<8/\HV h0 v d
def MQ {L:Bool}(W:WalksS prog w A.in1 I fp wr G n P St)(S:bb)(pf:S∉fp)(hS0:h0.get? S=none)(hw0:∀b∈wr,h0.get? b=none)
  (val:Nat->D) (y:∀i v,P i v->xj h0 v (val i)) (hvd:∀i<n,J0 (val i)<8/\∃N,val i=.tup N) {U:List D} (hU:∀i<n,val i∈U) (f:U.length<=75) (hu:A.units+200<cz):
  ∀(k i:Nat) (s:a9),n-i=k->i<=n->St i s->Keeps h0 s.heap->(∃ds,SetAt L h0 s.heap S ds/\∀d,d∈ds↔∃j<i,val j=d)->
   (∀s',Moved (S::wr) G s s'->(∃ds,SetAt L h0 s'.heap S ds/\∀d,d∈ds↔∃j<n,val j=d)->R (.ok (.ret .none)) s')->
   fh (be prog w) A (.builtin "set.update.loop" ⟨[.ref S,.ref I],[]⟩) R s:=by
 have B:S∉wr:=λh=>pf (W.sub _ h);have ju:∀b∈wr,b∈S::wr:=λb f=>aAe _ f;intro k;induction k with
 |zero=>
  intro i s hk hi jh C hS Q;have T:i=n:=by omega
  subst T;refine aBV F.entry_set_update_loop ?_;rw[aBt F.plain_set_update_loop _];show aA _ A.in1 (fb (.ref I)>>=_) _ _ s;refine aAa (W.done s _ _ jh λs' l=>?_);show aA _ A.in1 (ret Value.none) _ _ s';refine aAb (Q s' (l.mono ju) ?_);obtain⟨ds,⟨⟨o,es,ep,t,ho,r⟩,nd⟩,p⟩:=hS;exact⟨ds,⟨⟨o,es,ep,t,l.heap S _ B ho,r⟩,nd⟩,p⟩
 |succ k ih=>
  intro i s hk hi jh C hS Q;have ah:i<n:=by omega
  refine aBV F.entry_set_update_loop ?_;rw[aBt F.plain_set_update_loop _];show aA _ A.in1 (fb (.ref I)>>=_) _ _ s;refine aAa (W.item i s _ _ ah jh λv s' hP ki l=>?_);obtain⟨ds,⟨⟨o,es,ep,t,ho,r⟩,nd⟩,p⟩:=hS;have jd:SetAt L h0 s'.heap S ds:=⟨⟨o,es,ep,t,l.heap S _ B ho,r⟩,nd⟩;have q:Keeps h0 s'.heap:=λb ob e=>l.heap b ob (λz=>by rw[hw0 b z]at e;cases e) (C b ob e);obtain⟨a,Y,rfl,ue,E,hv⟩:=y i v hP;rw[ue]at E hv;show aA _ A.in1 (gk [aDJ a] (setAdd S<|.ref a)>>=_) _ _ s';have g:∀e∈ds,J0 e<8/\∃N,e=.tup N:=λe H=>by obtain⟨j,J,ej⟩:=(p e).mp H;rw[<-ej];exact hvd j (by omega)
  refine aAa (aAY (iy jd q hv E (λe H=>(g e H).1) (λe H=>(g e H).2) (by rw[x5];omega) (by letI:DecidableEq D:=λa b=>aEa _;have:=ST.R1 (m:=U) nd (λd hd=>by obtain⟨j,J,e⟩:=(p d).mp hd;rw[<-e];exact hU j (by omega));omega) (λT tk O=>?_)<|λhni h' tk bf O hsb hS2 pm=>?_))
  .
   refine aAb ⟨aCd F.plain_set_update_loop _,ih (i+1) _ (by omega) ah (W.frame _ s' _ _ ki O λb f o e=>e) q ⟨ds,jd,λd=>?_⟩ λu md wm=>?_⟩
   .rw[p];constructor
    .rintro⟨j,J,e⟩;exact⟨j,by omega,e⟩
    .rintro⟨j,J,e⟩;by_cases z:j=i
     .subst z;rw[ue]at e;rw[e]at T;exact(p d).mp T
     .exact⟨j,by omega,e⟩
   .exact Q u (aFw W.gtrans ((l.mono ju).then_heap O λb o f e=>e) md) wm
  .have x:∀b,b≠S->h'.get? b=s'.heap.get? b:=λb f=>hsb.2 b f;refine aAb ⟨aCd F.plain_set_update_loop _,ih (i+1) _ (by omega) ah (W.frame _ s' _ _ ki O λb f o e=>?_) (λb o e=>?_) ⟨bf,hS2,λd=>?_⟩ λu md wm=>?_⟩
   .rw[x b (λz:b=S=>pf (by rw[<-z];exact f))];exact e
   .show h'.get? b=some o;rw[x b (λz=>by subst z;rw[hS0]at e;cases e)];exact q b o e
   .rw[pm.mem_iff,aAd,p];constructor
    .rintro(rfl|⟨j,J,e⟩)
     .exact⟨i,by omega,ue⟩
     .exact⟨j,by omega,e⟩
    .rintro⟨j,J,e⟩;by_cases z:j=i
     .subst z;rw[ue]at e;exact .inl e.symm
     .exact .inr ⟨j,by omega,e⟩
   .refine Q u (aFw W.gtrans ((l.mono ju).then_heap O λb o f e=>?_) md) wm;rw[x b (λz:b=S=>f (by rw[z];exact aBn))];exact e
end
section
variable{prog:bt} {w:cp} {A:cf} {E:G0} {s:a9}
abbrev nQ (led:Bool):Obj:={cls:=.type "set",dict:=none,data:=.set #[] 0 (.fresh 0 0 led)}
def JG (h0 h:cq)(S:bb)(led:Bool)(e:h.get? S=some (nQ led)):SetAt led h0 h S []:=by
 refine⟨⟨_,#[],0,.fresh 0 0 led,e,rfl,rfl,rfl,rfl,⟨⟨λi k a=>?_,λj b=>?_,rfl⟩,ST.a3e,rfl,?_,λe d=>?_⟩,.inl ⟨rfl,aAX _⟩,.nil,rfl,rfl⟩,aDk⟩
 .exact absurd a (by show¬i<0;omega)
 .exact absurd b (by show¬j∈[];simp)
 .show 0<=7;omega
 .exact absurd d (by show¬e∈[];simp)
def zG (a:ao){Q₁:G0}(h:Q₁ (.ref s.heap.objs.size) {s with heap:=s.heap.push (nQ (!w.params.followText "set-order"))}):
  fh (be prog w) A (.call (.builtin "set.__new__") ⟨[.type "set",a],[]⟩) (wants Q₁ E) s:=by
 refine codeAny_of_tree ?_;show aA _ A.in1 (do checkBuiltinCall "set.__new__" ⟨[.type "set",a],[]⟩;again (.builtin "set.__new__" ⟨[.type "set",a],[]⟩)) _ _ s;refine aAa (wpAny_of_eq (F.newCall_set_1 a)<|aAb ⟨aCd F.plain_set_new _,aBV F.entry_set_new ?_⟩);rw[aBt F.plain_set_new _];unfold Builtin.«set.__new__» Builtin.Frozenset.newClass;have b:=sub_set_self;obtain⟨e,g,d,f,os⟩:=s;dsimp only
 wp_walk
 refine aFD (aAb ?_);dsimp only;simp only[newObj];exact aAa (wpAny_alloc<|aAb<|aAb h)
def CF {h0:cq}(n:Keeps h0 s.heap){l:bb}{a:Array ao}{val:Nat->D}{Q:G0}(hh:A.handled=none)(hl:s.heap.IsList l a)
  (p:∀(i:Nat) (v:ao),a[i]?=some v->xj h0 v (val i)) (H:∀i<a.size,J0 (val i)<8/\∃N,val i=.tup N) {U:List D} (hU:∀i<a.size,val i∈U) (k:U.length<=75) (hu:A.units+300<cz)
  (h:∀(h':cq) (tk:Nat) (ds:List D),SetAt (!w.params.followText "set-order") h0 h' s.heap.objs.size ds->(∀d,d∈ds↔∃j<a.size,val j=d)->Keeps s.heap h'->Q (.ref s.heap.objs.size) {s with heap:=h',toks:=tk}):
  aA (be prog w) A (call (.type "set") [.ref l]) Q E s:=by
 obtain⟨c,tl,hmro⟩:=PySem.F.called_set.mro;have I:=PySem.F.called_set.made;have ju:=PySem.F.called_set.sub;refine wpAny_call (codeAny_of_tree ?_);show aA _ _ (callAny (.type "set") _) _ _ _;refine aAb ⟨Code.quiet_builtin _ (by decide+kernel),aBV PySem.F.entry_type_call ?_⟩;rw[Around.under_plain (weight_type_call_type "set" [.ref l] []) rfl];have h1:=PySem.F.called_set.notType;have h2:=PySem.F.called_set.canCreate;have hct:=PySem.F.typeCall_set_1 (.ref l);repeat(any_goals(first|assumption|wp_step))
 refine aDR (zG (.ref l) (E:=E) (Q₁:=λob aa=>∃led:Bool,led=!w.params.followText "set-order"/\ob=.ref s.heap.objs.size/\aa={s with heap:=s.heap.push (nQ led)}) ⟨_,rfl,rfl,rfl⟩) λr aa q=>?_;cases r with
 |error e=>exact q
 |ok fl=>
  cases fl with
  |next=>exact q.elim
  |brk=>exact q.elim
  |cont=>exact q.elim
  |ret ob=>
   obtain⟨led,eL,rfl,rfl⟩:=q;have hS:(s.heap.push<|nQ led).get? s.heap.objs.size=some (nQ led):=aAr _ rfl;have hT:Shared.TypeIs {s with heap:=s.heap.push (nQ led)} (.ref s.heap.objs.size) "set":=⟨_,hS,rfl⟩;have hli:=PySem.F.called_set.init.lookup;have hbi:=PySem.F.called_set.init.bind (.ref s.heap.objs.size);repeat(any_goals(first|assumption|wp_step))
   refine aDR (codeAny_call_builtin (R:=wants (λr fu=>r=.none/\∃h' tk ds,fu={s with heap:=h',toks:=tk}/\SetAt (!w.params.followText "set-order") h0 h' s.heap.objs.size ds/\(∀d,d∈ds↔∃j<a.size,val j=d)/\Keeps s.heap h') E) PySem.F.called_set.init.plain PySem.F.entry_set_init<|check_set_init_1 hT ?_) λrf fu f=>?_
   .obtain⟨ol,t,xv,nl,u⟩:=hl;obtain⟨ocls,m,J,g⟩:=ol;simp only at xv u;subst xv;subst u;have x:(s.heap.push<|nQ led).get? l=some {cls:=.type "list",dict:=m,data:=.seq a nl,slots:=g}:=aAc _ t;have hsls:=PySem.F.sub_list_set;have hslf:=PySem.F.sub_list_frozenset;have ag:(aCx "list"==aCx "dict")=false:=by decide
    have qg:(s.heap.push<|nQ led).IsList l a:=⟨_,x,rfl,nl,rfl⟩;unfold Builtin.«set.__init__» noKeywords Builtin.Frozenset.updateFrom;generalize L:pyIter=PI
    wp_walk
    subst L;refine aDF qg (aAa<|wpAny_runValue ?_);have y:l<s.heap.objs.size:=aAg t;have O:A.in1.in1.in1.handled=none:=by simp[hh]
    have B:l≠(s.heap.push<|nQ led).objs.size:=by rw[aBH];exact aAn (aBI y)
    have pf:s.heap.objs.size∉[(s.heap.push<|nQ led).objs.size,l]:=by rw[aBH];simp only[aAd,aAW,or_false,not_or];exact⟨aAn (aDO _),aDy y⟩
    have oi:∀b,s.heap.objs.size<=b->h0.get? b=none:=λb k=>by
     cases e:h0.get? b with
     |none=>rfl
     |some o=>have:=n b o e;rw[aEt k]at this;cases this
    refine MQ (h0:=h0) ((Walks.list O _ l B a).toS) s.heap.objs.size pf (oi _<|aAj _) (λb k=>?hw) val p H hU k (by show A.units+1+1+200<cz;omega) (a.size-0) 0 _ (by omega) (aAX _) ⟨⟨_,aAr _ rfl,rfl,rfl⟩,(qg.push _)⟩ (λb o e=>aAc _ (aAc _<|n b o e)) ⟨[],JG _ _ _ led (aAc _ hS),λd=>?he⟩ ?hR
    case he=>exact⟨λz=>(by cases z),by rintro⟨j,hj,_⟩;exact(by omega)⟩
    case hw=>
     have jg:b=(s.heap.push<|nQ led).objs.size:=by simpa using k
     subst jg;rw[aBH];exact oi _ (aFv _)
    case hR=>
     rintro⟨h',g',d',yc,T⟩ C ⟨ds,Y,qe⟩;have eg:g'=s.gens:=C.gens;have ed:d'=s.drawn:=C.drawn;have eo:T=s.os:=C.os;subst eg;subst ed;subst eo;refine aAb ?_;show aA _ _ (ret Value.none) _ _ _;refine aAb ⟨rfl,h',yc,ds,rfl,(eL▸Y),qe,λb o e=>?_⟩;have k:=aAg e;have xi:b≠(s.heap.push<|nQ led).objs.size:=by rw[aBH];exact aAn (aBI k)
     exact C.heap b o (by simp only[aAd,aAW,or_false,not_or];exact⟨aAn k,xi⟩) (aAc _<|aAc _ e)
   .cases rf with
    |error e=>exact f
    |ok fl0=>
     cases fl0 with
     |next=>exact f.elim
     |brk=>exact f.elim
     |cont=>exact f.elim
     |ret r=>
      obtain⟨rfl,h',tk,ds,rfl,Y,qe,kl⟩:=f;repeat(any_goals(first|assumption|wp_step))
      exact h _ _ _ Y qe kl
end
end DL
namespace SI
open PySem
theorem IH {α:Type}(next:Nat->Nat):∀(a k:Nat) (left:List α) (b:Array α),left.length=a->(aGE next a k left b).toList.Perm (b.toList++left)
 |0,k,left,b,h=>by have:left=[]:=aDj h;subst this;simp[aGE]
 |a+1,k,left,b,h=>by
  unfold aGE;have e:0<left.length:=by lia
  have d:next k%left.length<left.length:=aFj _ e
  rw[aAh d];dsimp only;refine(IH next a (k+1) _ _ (by rw[List.length_eraseIdx_of_lt d];lia)).trans ?_;rw[Array.toList_push,aFp];refine List.Perm.append_left _ ?_;have:∀(l:List α) (i:Nat) (h:i<l.length),(l[i]::l.eraseIdx i).Perm l:=by
   intro l;induction l with
   |nil=>intro i h;simp at h
   |cons x l f=>
    intro i h;cases i with
    |zero=>simp
    |succ i=>
     have g:i<l.length:=by simpa using h
     rw[aFt,List.getElem_cons_succ];exact(List.Perm.swap _ _ _).trans ((f i g).cons _)
  exact this left _ d
def uG {α:Type}(next:Nat->Nat)(Y:Array α):(hE next Y).toList.Perm Y.toList:=by unfold hE;simpa using IH next Y.size 0 Y.toList #[] (by simp)
def walkL (w:cp)(S:bb)(es:Array (Int×ao))(ep:Nat):List (Int×ao):=if w.params.followText "set-order"=true then(hE (w.params.setOrder S ep) es).toList else es.toList
def walkL_perm (w:cp)(S:bb)(es:Array (Int×ao))(ep:Nat):(walkL w S es ep).Perm es.toList:=by
 unfold walkL;split
 .exact uG _ _
 .exact List.Perm.refl _
def slotAt (w:cp)(t:eR):Nat->Nat
 |0=>0
 |i+1=>if w.params.followText "set-order"=true then 0 else t.place.getD i 0+1
def P9 (h:cq)(w:cp)(it S:bb)(t:eR)(i n ep:Nat):Prop:=
 h.get? it=some {cls:=.type "set_iterator",dict:=none,data:=.fields #[ee (slotAt w t i),ee i,.ref S,ee n,ee ep],slots:=#[]}
def IsSet (h:cq)(S:bb)(es:Array (Int×ao))(ep:Nat)(t:eR):Prop:=∃o,h.get? S=some o/\o.cls=.type "set"/\o.data=.set es ep t
namespace F
def entry_set_iter:entryFor table "set.__iter__"=some Builtin.«frozenset.__iter__»:=entryFor_alias (id':= "frozenset.__iter__") (by kernel_rfl) rfl (by decide+kernel) (by kernel_rfl)
def slot_seti_next:Slot "set_iterator" "__next__" "set_iterator.__next__":=
 .of (owner:= "set_iterator") (n:= "__next__") (by rw[aDA,aCv];kernel_rfl) (by decide+kernel) (by decide+kernel) (by decide+kernel)
  (by first|exact .inl (by decide+kernel)|exact .inr (by decide+kernel)) (by rw[aFc];kernel_rfl)
def entry_seti_next:entryFor table "set_iterator.__next__"=some Builtin.«set_iterator.__next__»:=entryFor_of_tree (by kernel_rfl)
def args_seti_next (a:ao):argsOk "set_iterator.__next__" ⟨[a],[]⟩:=by unfold argsOk;kernel_rfl
def slot_seti_iter:Slot "set_iterator" "__iter__" "set_iterator.__iter__":=
 .of (owner:= "set_iterator") (n:= "__iter__") (by rw[aDA,aCv];kernel_rfl) (by decide+kernel) (by decide+kernel) (by decide+kernel)
  (by first|exact .inl (by decide+kernel)|exact .inr (by decide+kernel)) (by rw[aFc];kernel_rfl)
def entry_seti_iter:entryFor table "set_iterator.__iter__"=some Builtin.«dict_keyiterator.__iter__»:=entryFor_alias (id':= "dict_keyiterator.__iter__") (by kernel_rfl) rfl (by decide+kernel) (by kernel_rfl)
def args_seti_iter (a:ao):argsOk "set_iterator.__iter__" ⟨[a],[]⟩:=by unfold argsOk;kernel_rfl
end F
section
variable{s:a9} {t:eR}
def MF {α:Type}{M:Model}{Q:α->a9->Prop}{c:Prop}[Decidable c]{a b:Sem α}(h:c)(k:aA M A a Q E s):aA M A (if c then a else b) Q E s:=by rw[hV h];exact k
def BK (es:Array (Int×ao))(a:t.plain=true):(!t.plain&&decide (es.size>1))=false:=by rw[a];rfl
def EQ {Q:BL}(h:Q (w.params.followText "set-order") s):aA (be prog w) A setsByText Q E s:=by unfold setsByText;exact aAa (aFD<|aAb h)
def TV {Q:G0}(f:IsSet s.heap S es ep t)(b:t.fits es.size=true)(g:t.plain=true)
  (h:Q (.ref s.heap.objs.size) {s with heap:=s.heap.push {cls:=.type "set_iterator",dict:=none,data:=.fields #[ee (slotAt w t 0),ee (0:Nat),.ref S,ee es.size,ee ep],slots:=#[]}}):
  aA (be prog w) A (pyIter (.ref S)) Q E s:=by
 obtain⟨o,a,i,d⟩:=f;have e:s.TypeIs (.ref S) "set":=⟨o,a,i⟩;refine aFq e PySem.F.slot_set_iter (aBB PySem.F.slot_set_iter e F.entry_set_iter ?_ (PySem.F.args_set_iter_1 _));unfold Builtin.«frozenset.__iter__»;show aA _ _ (aFx "__iter__" ⟨[.ref S],[]⟩>>=_) _ _ s;have j:aFx "__iter__" ⟨[.ref S],[]⟩=pure S:=rfl;rw[j];refine aAa (aAb ?_);unfold Builtin.Frozenset.sizeOf;refine aAa (aAa<|aEE a d b<|aAb ?_);refine aAa ?_;unfold setDrawn;refine aAa (aCm a d b<|aAa<|EQ<|aAb ?_);show aA _ _ (if(!w.params.followText "set-order"&&(!t.plain&&decide (es.size>1)))=true then _ else _) _ _ s;rw[BK es g,aGe];simp only[aAu,if_false];refine aAa (aAb<|aAa<|wpAny_setEpoch_of a d b ?_);refine aAa (aBG<|aAb ⟨_,rfl, "set_iterator",_,⟨_,aAr _ rfl,rfl⟩,F.slot_seti_next.lookup,?_⟩);simpa[slotAt]using h
def GC (a:ST.KZ Y):aDM Y 0=0:=by
 obtain⟨d,b,e⟩:=ST.bB a 0;by_cases h:aDM Y 0=0
 .exact h
 .exact absurd (b 0 (by lia) (by lia)) (by lia)
def FD (b:ST.KZ Y)(a:i<Y.size):aDM Y (Y.getD i 0+1)=i+1:=by
 have e:Y.getD i 0=Y[i]:=by simp[aFi,a]
 rw[e];obtain⟨h,f,g⟩:=ST.bB b (Y[i]+1);rcases Nat.lt_trichotomy (aDM Y<|Y[i]+1) (i+1)with q|q|q
 .have:=g i a (by lia);lia
 .exact q
 .have d:i+1<Y.size:=by lia
  have:=f (i+1) d q;have:=b i (i+1) a d (by lia)
  lia
def EM (t:eR)(a:ST.KZ t.place)(b:¬w.params.followText "set-order"=true)(d:i<=t.place.size):aDM t.place (slotAt w t i)=i:=by
 cases i with
 |zero=>exact GC a
 |succ i=>show aDM t.place (if w.params.followText "set-order"=true then 0 else t.place.getD i 0+1)=i+1;rw[h9 b];exact FD a (by lia)
def CH {Q:Option (ao×Nat)->a9->Prop}(p:IsSet s.heap S es ep t)(d:t.fits es.size=true)(q:t.plain=true)(r:¬w.params.followText "set-order"=true->t.led=true)(u:ST.KZ t.place)(C:i<=es.size)(f:∀e,(walkL w S es ep)[i]?=some e->Q (some (e.2,slotAt w t (i+1))) s)(k:i=es.size->Q none s):aA (be prog w) A (setNext S (slotAt w t i) i ep) Q E s:=by
 obtain⟨o,l,H,m⟩:=p;have I:t.place.size=es.size:=by simp only[aGr,aAQ,beq_iff_eq,decide_eq_true_eq]at d;exact d.1
 unfold setNext;refine aAa (aCm l m d ?_);refine aAa (EQ ?_);by_cases a:w.params.followText "set-order"=true
 .rw[hV a,h9 (by simp)];unfold setWalk;refine aAa (aAa<|aCm l m d<|aAa<|EQ ?_);rw[hV a];refine aAa (aFD<|aAb ?_);refine aAb ?_;have h:(walkL w S es ep)=(hE (w.params.setOrder S ep) es).toList:=by unfold walkL;rw[hV a]
  have j:slotAt w t i=slotAt w t (i+1):=by
   cases i with
   |zero=>show 0=if w.params.followText "set-order"=true then 0 else _;rw[hV a]
   |succ i=>show(if w.params.followText "set-order"=true then 0 else _)=if w.params.followText "set-order"=true then 0 else _;rw[hV a,hV a]
  rw[h,aAE]at f;show Q (((hE (w.params.setOrder S ep) es)[i]?).map λe=>(e.2,slotAt w t i)) s;cases e:(hE (w.params.setOrder S ep) es)[i]? with
  |some x=>rw[j];exact f x e
  |none=>
   have n:(hE (w.params.setOrder S ep) es).size=es.size:=by have:=(uG (w.params.setOrder S ep) es).length_eq;simpa using this
   have:=Array.getElem?_eq_none_iff.mp e;exact k (by lia)
 .rw[h9 a];have v:¬(!t.plain&&decide (es.size>1))=true:=by rw[q];simp
  show aA _ _ (if(!t.plain&&decide (es.size>1))=true then _ else _) _ _ s;rw[h9 v];show aA _ _ ((if(!t.led&&!es.isEmpty)=true then _ else _)>>=_) _ _ s;rw[h9 (by rw[r a];simp)];refine aAa (aAb<|aAb ?_);rw[EM t u a (by lia)];have h:(walkL w S es ep)=es.toList:=by unfold walkL;rw[h9 a]
  rw[h,aAE]at f;by_cases y:i<es.size
  .have g:es[i]?=some es[i]:=aAM y;have b:i<t.place.size:=by lia
   have z:t.place[i]?=some t.place[i]:=aAM b;have:=f _ g;rw[g,z];have B:slotAt w t (i+1)=t.place[i]+1:=by show(if w.params.followText "set-order"=true then 0 else t.place.getD i 0+1)=_;rw[h9 a];simp[aFi,b]
   rw[B]at this;exact this
  .have g:es[i]?=none:=aCP (by lia);rw[g];exact k (by lia)
def S7 (h:P9 s.heap w it S t i n ep):s.TypeIs (.ref it) "set_iterator":=⟨_,h,rfl⟩
def RB {Q:Option ao->a9->Prop}(a:P9 s.heap w it S t i es.size ep)(b:IsSet s.heap S es ep t)(d:t.fits es.size=true)(j:t.plain=true)(k:¬w.params.followText "set-order"=true->t.led=true)(l:ST.KZ t.place)(m:i<es.size)(h:∀e h',(walkL w S es ep)[i]?=some e->P9 h' w it S t (i+1) es.size ep->Heap.SameBut it s.heap h'->Q (some e.2) {s with heap:=h'}):aA (be prog w) A (fb (.ref it)) Q E s:=by
 have f:=S7 a;obtain⟨o,n,z,p⟩:=id b;unfold fb;refine aAa (aEv (aCC (name:=aDz "__next__") f F.slot_seti_next
  (aBB F.slot_seti_next f F.entry_seti_next ?_ (F.args_seti_next _))))
 refine aAa (aAb ?_);refine aAa (wpAny_fieldsOf a rfl ?_);show aA _ _ (setEntries S>>=_) _ _ s;refine aAa (aEE n p d ?_);rw[h9 (by simp)];show aA _ _ (setNext S (aEF (slotAt w t i:Int)) (aEF (i:Int)) (aEF (ep:Int))>>=_) _ _ s;rw[aBP,aBP,aBP];refine aAa (CH b d j k l (aDx m) (λe q=>?_) λe=>by lia);show aA _ _ (setField (.ref it) 0 (ee<|slotAt w t<|i+1)>>=_) _ _ s;refine aAa (aCe a (by simp) λr u v=>?_);show aA _ _ (setField (.ref it) 1 (ee<|(i:Int)+1)>>=_) _ _ _;refine aAa (aCe (s:={s with heap:=r}) u (by simp) λg x y=>?_);refine aAb ⟨_,rfl,aAb (h e g q ?_ (v.trans y))⟩;have:g.get? it=some _:=x;unfold P9;rw[this];simp
def XS {Q:Option ao->a9->Prop}(k:A.handled=none)(d:P9 s.heap w it S t es.size es.size ep)(f:IsSet s.heap S es ep t)(g:t.fits es.size=true)(l:t.plain=true)(n:¬w.params.followText "set-order"=true->t.led=true)(p:ST.KZ t.place)(h:∀h',Heap.ExtBut it s.heap h'->Q none {s with heap:=h'}):aA (be prog w) A (fb (.ref it)) Q E s:=by
 have i:=S7 d;obtain⟨o,q,x,r⟩:=id f;unfold fb;refine aAa (aEv (aCC (name:=aDz "__next__") i F.slot_seti_next
  (aBB F.slot_seti_next i F.entry_seti_next ?_ (F.args_seti_next _))))
 refine aAa (aAb ?_);refine aAa (wpAny_fieldsOf d rfl ?_);show aA _ _ (setEntries S>>=_) _ _ s;refine aAa (aEE q r g ?_);rw[h9 (by simp)];show aA _ _ (setNext S (aEF (slotAt w t es.size:Int)) (aEF (es.size:Int)) (aEF (ep:Int))>>=_) _ _ s;rw[aBP,aBP,aBP];refine aAa (CH f g l n p (aAj _) (λe u=>?_) λ_=>?_)
 .have v:=(walkL_perm w S es ep).length_eq;have j:=(aAC.mp u).1;rw[v]at j;simp at j
 .show aA _ _ (setField (.ref it) 2 .none>>=_) _ _ s;refine aAa (wpAny_setField d rfl (by simp) ?_);show aA _ _ (newExc (.type "StopIteration") []>>=_) _ _ _;refine aAa ?_;simp only[newExc,newTuple];refine aAa (aBG ?_ (by size_fits));refine aAa (m:=firstArgMember _ _) (wpAny_of_eq (a:=Value.none) (by first|rfl|(simp only[firstArgMember];rfl)) ?_);refine aBG ?_ (by size_fits);simp only[raiseNew];refine aAa (wpAny_handled ?_);rw[show A.in1.handled=none from k];refine aAa (aAb<|wpAny_throw ?_);refine aAa (aDQ (T:= "StopIteration") (b:=true) ⟨_,aAr _ rfl,rfl⟩ isSubtype_stop ?_);exact aAb (h _<|((Heap.SameBut.update ..).extBut.push _).push _)
def dD (x:IsSet h S es ep t)(e:∀o,h.get? S=some o->h'.get? S=some o):IsSet h' S es ep t:=let⟨o,a,r⟩:=x;⟨o,e o a,r⟩
end
section
def LS (p:A.handled=none)(I S:bb)(r:S≠I)(g:t.fits es.size=true)(j:t.plain=true)(k:¬w.params.followText "set-order"=true->t.led=true)(l:ST.KZ t.place):
  Walks prog w A I [I,S] [I] es.size (λi v=>∃e,(walkL w S es ep)[i]?=some e/\v=e.2) (λi h=>P9 h w I S t i es.size ep/\IsSet h S es ep t)where
 sub:=λb a=>by simp at a;simp[a]
 frame:=λ_ _ _ st m=>⟨m I (by simp) _ st.1,dD st.2 λo e=>m S (by simp) o e⟩
 item:=λi s Q E u st d=>RB st.1 st.2 g j k l u λe f x y n=>d e.2 f s.toks ⟨e,x,rfl⟩ ⟨y,dD st.2 λo q=>(n.2 S r).trans q⟩ λb o a q=>(n.2 b (λz=>a (by simp[z]))).trans q
 done:=λs Q E st d=>XS p st.1 st.2 g j k l λf B=>d f s.toks λb o a q=>B b o (λz=>a (by simp[z])) q
 self:=λi s Q E st d=>by refine aFq (S7 st.1) F.slot_seti_iter (aBB F.slot_seti_iter (S7 st.1) F.entry_seti_iter ?_ (F.args_seti_iter _));refine aAa (aAb<|aAb ⟨_,rfl, "set_iterator",_,S7 st.1,F.slot_seti_next.lookup,d⟩)
def collect_set {Q:List ao->a9->Prop}(hh:A.handled=none)(hS:IsSet s.heap S es ep t)(hf:t.fits es.size=true)(hp:t.plain=true)(hl:¬w.params.followText "set-order"=true->t.led=true)(ha:ST.KZ t.place)(hn:es.size<=sizeLine)
  (hQ:∀h' tk,(∀b o,s.heap.get? b=some o->h'.get? b=some o)->Q ((walkL w S es ep).map (·.2)) {s with heap:=h',toks:=tk}):aA (be prog w) A (collect (.ref S)) Q E s:=by
 obtain⟨I,f,j,hdS⟩:=id hS;have hT:s.TypeIs (.ref S) "set":=⟨I,f,j⟩;have C:S<s.heap.objs.size:=aAg f;unfold collect;refine aAa (wpAny_runValue<|aBV PySem.F.entry_proto_collect ?_);rw[aBt PySem.F.plain_proto_collect _];show aA _ A.in1 (newList []>>=λl=>again (.builtin "list.__iadd__" ⟨[l,.ref S],[]⟩)) _ _ s;refine aAa (aBG ?_);refine aAb ⟨aCd PySem.F.plain_list_iadd _,aBV PySem.F.entry_list_iadd ?_⟩;rw[aBt PySem.F.plain_list_iadd _];generalize k:s.heap.push {cls:=.type "list",data:=.seq ([]:List ao).toArray}=a;have g:∀b o,s.heap.get? b=some o->a.get? b=some o:=λb o e=>by rw[<-k];exact aAc _ e
 have d:a.objs.size=s.heap.objs.size+1:=by rw[<-k,aBH]
 have J:a.get? s.heap.objs.size=some {cls:=.type "list",data:=.seq ([]:List ao).toArray}:=by rw[<-k];exact aAr _ rfl
 have p:IsSet a S es ep t:=dD hS λo e=>g S o e;have L:Shared.TypeIs {s with heap:=a} (.ref S) "set":=⟨I,g _ _ f,j⟩;have q:aDc (.ref s.heap.objs.size) (.ref S)=false:=by simp[aDc,aDy C]
 show aA _ A.in1 (aCf (.ref s.heap.objs.size) (.ref S)<|.ref s.heap.objs.size) _ _ _;unfold aCf;refine aAa (aDS L ?_);rw[h9 (by rw[q];decide)];refine aAa (TV (s:={s with heap:=a}) p hf hp ?_);refine aAa (aAY ?_);generalize r:a.push {cls:=.type "set_iterator",dict:=none,data:=.fields #[ee (slotAt w t 0),ee (0:Nat),.ref S,ee es.size,ee ep],slots:=#[]}=n;have h:∀b o,a.get? b=some o->n.get? b=some o:=λb o e=>by rw[<-r];exact aAc _ e
 have N:P9 n w a.objs.size S t 0 es.size ep:=by rw[<-r];exact aAr _ rfl
 have O:IsSet n S es ep t:=dD p λo e=>h S o e;have m:Shared.TypeIs {s with heap:=n} (.ref S) "set":=⟨I,h _ _ (g _ _ f),j⟩;have u:=h _ _ J;unfold aCL;refine aAa (aBC m PySem.F.slot_set_len.lookup ?_)
 (generalize hid:("set.__len__":String)=v;(fail_if_success (clear hid v));wp_delta;rw[show splitId v=some ("set", "__len__")from by subst hid;decide+kernel];subst hid)
 refine aAa (aDQ (b:=true) m (by rw[aFc];kernel_rfl) ?_);rw[h9 (by decide)];refine MF (by decide+kernel) ?_
 .refine aAa (aDS m<|aAb ?_);rw[hV (by decide)];show aA _ A.in1 (rule "list.extend.makes-room">>=λ_=>aFH (.ref s.heap.objs.size)>>=λ_=>again (.builtin "list.extend.loop" ⟨[.ref s.heap.objs.size,.ref a.objs.size,.ref s.heap.objs.size],[]⟩)) _ _ _
  refine aAa (aDC ?_);refine aAa ?_;show aA _ A.in1 (gi s.heap.objs.size (·.push .none)>>=λ_=>gi s.heap.objs.size (·.pop)) _ _ _;refine aAa (aCg u rfl ?_);have x:=aBv (aBT (·.push Value.none)) u rfl;refine aCg x rfl ?_;have T:=aBv (aBT (·.pop)) x rfl;have U:∀b o,b≠s.heap.objs.size->n.get? b=some o->((n.update s.heap.objs.size (aBT (·.push Value.none))).update s.heap.objs.size (aBT (·.pop))).get? b=some o:=
   λb o y e=>(aAI _ _<|aCa y).trans ((aAI _ _<|aCa y).trans e)
  have z:a.objs.size≠s.heap.objs.size:=by rw[d];lia
  have W:=(LS (prog:=prog) (w:=w) (A:=A.in1) (by simp[hh]) a.objs.size S (by rw[d];exact aAn (aBI C)) (es:=es) (ep:=ep) (t:=t) hf hp hl ha).toS;refine aAb ⟨aCd PySem.F.plain_extend_loop _,codeAny_extend_loopS W hn _ (by simp only[aAd,aAW,or_false,not_or];exact⟨aCa z,aDy C⟩) _ es.size 0 _ _ _ rfl (aAX _) ⟨U _ _ z N,dD O λo e=>U S o (aAn C) e⟩ T (ItemsOf.nil _) λB jl c' H jd Y=>?_⟩;show aA _ A (load s.heap.objs.size>>=_) _ _ B;refine aAa (wpAny_load jd ?_);refine aAb ?_;have g0:B.gens=s.gens:=H.gens;have d0:B.drawn=s.drawn:=H.drawn;have o0:B.os=s.os:=H.os;have ea:jl.toList=(walkL w S es ep).map (·.2):=by
   have mh:=(walkL_perm w S es ep).length_eq;apply aFk;intro i;rw[aAK,aAE];by_cases hi:i<es.size
   .have zg:i<jl.size:=by rw[Y.1];exact hi
    obtain⟨e,he,hv⟩:=Y.2 i _ (aAM zg);rw[he,aAM zg,hv];rfl
   .rw[aCP (by rw[Y.1];lia),List.getElem?_eq_none (by rw[mh];simp;lia)];rfl
  obtain⟨h',g',d',yc,os'⟩:=B;subst g0 d0 o0;rw[ea];refine hQ h' yc λb o e=>?_;have y:b≠s.heap.objs.size:=aAn (aAg e);have xi:b≠a.objs.size:=by rw[d];exact aAn (aBI<|aAg e)
  exact H.heap b o (by simp only[aAd,aAW,or_false,not_or];exact⟨y,xi⟩) (U b o y<|h _ _<|g _ _ e)
end
end SI
namespace DL
open PySem PySem.Spec L2
open PyProof.Rows hiding St
def MR:D->Bool
 |.int _=>true
 |_=>false
def cP:D->Bool
 |.tup Y=>!Y.isEmpty&&Y.all MR
 |_=>false
def intD:D->Int
 |.int i=>i
 |_=>0
def flat:D->List Int
 |.tup Y=>Y.map intD
 |_=>[]
theorem QO:∀{Y:List D},Y.all MR=true->Y=(Y.map intD).map D.int
 |[],_=>rfl
 |x::Y,h=>by
  simp only[aGp,aAQ]at h;cases x with
  |int i=>show D.int i::Y=D.int i::(Y.map intD).map D.int;rw[<-QO h.2]
  |_=>cases h.1
def iU (h:cP d=true):flat d≠[]/\d=.tup ((flat d).map .int):=by
 cases d with
 |tup Y=>simp only[cP,aAQ,Bool.not_eq_true',List.isEmpty_eq_false_iff]at h;refine⟨by simpa[flat]using h.1,?_⟩;show D.tup Y=D.tup ((Y.map intD).map D.int);rw[<-QO h.2]
 |_=>cases h
def BS (h:cP d=true)(h':cP e=true)(q:flat d=flat e):d=e:=by rw[(iU h).2,(iU h').2,q]
theorem tW:∀l:List Int,gD (l.map D.int)=true
 |[]=>rfl
 |i::l=>by show(true&&gD (l.map D.int))=true;rw[tW l];rfl
def V1 (h:cP d=true):qF d=true:=by rw[(iU h).2];exact tW _
def GJ (h:cP d=true):J0 d<8:=by
 rw[(iU h).2];have:∀l:List Int,N1 (l.map D.int)=0:=λl=>by
  induction l with
  |nil=>rfl
  |cons i l a=>show max 0 (N1<|l.map D.int)=0;rw[a];rfl
 show N1 _+1<8;rw[this];lia
def sJ (d:D):List D->List D
 |[]=>[d]
 |x::Y=>if flat d=flat x then x::Y else if HT.lexLt (flat d) (flat x)=true then d::x::Y else x::sJ d Y
def cN (ds:List D):List D:=ds.foldr sJ []
def UN (ds:List D):Prop:=ds.Pairwise λx y=>HT.lexLt (flat x) (flat y)=true
theorem kA:∀{Y:List D},e∈sJ d Y->e=d\/e∈Y
 |[],h=>by rcases aAd.mp h with h|h;exact .inl h;cases h
 |x::Y,h=>by
  unfold sJ at h;split at h
  .exact .inr h
  .split at h
   .rcases aAd.mp h with h|h
    .exact .inl h
    .exact .inr h
   .rcases aAd.mp h with h|h
    .exact .inr (by rw[h];exact .head _)
    .rcases kA h with h|h
     .exact .inl h
     .exact .inr (.tail _ h)
theorem AS:∀{Y:List D},e∈Y->e∈sJ d Y
 |x::Y,h=>by
  unfold sJ;split
  .exact h
  .split
   .exact .tail _ h
   .rcases aAd.mp h with h|h
    .rw[h];exact .head _
    .exact .tail _ (AS h)
theorem zM (a:cP d=true):∀{Y:List D},(∀x∈Y,cP x=true)->d∈sJ d Y
 |[],_=>.head _
 |x::Y,h=>by
  unfold sJ;split
  .rename_i q;rw[BS a (h x (.head _)) q];exact .head _
  .split
   .exact .head _
   .exact .tail _ (zM a λy b=>h y (.tail _ b))
theorem BG:∀{Y:List D},UN Y->UN (sJ d Y)
 |[],_=>aDV _ _
 |x::Y,h=>by
  have b:=aAy.mp h;unfold sJ;split
  .exact h
  .rename_i ne;split
   .rename_i lt;refine aAy.mpr ⟨λy a=>?_,h⟩;rcases aAd.mp a with rfl|a
    .exact lt
    .exact TS.lex_trans _ _ _ lt (b.1 y a)
   .rename_i e;refine aAy.mpr ⟨λy a=>?_,BG b.2⟩;rcases kA a with rfl|a
    .cases q:HT.lexLt (flat x) (flat y)with
     |true=>rfl
     |false=>exact absurd (TS.lex_total _ _ (by simpa using e) q) ne
    .exact b.1 y a
theorem fI:∀ds:List D,UN (cN ds)
 |[]=>.nil
 |_::ds=>BG (fI ds)
theorem AH:∀{ds:List D},(∀d∈ds,cP d=true)->∀d∈cN ds,cP d=true
 |[],_,d,h=>by cases h
 |e::ds,h,d,hd=>by
  rcases kA hd with rfl|hd
  .exact h _ (.head _)
  .exact AH (λd hd=>h d (.tail _ hd)) d hd
theorem Q9:∀{ds:List D},(∀d∈ds,cP d=true)->∀d,d∈cN ds↔d∈ds
 |[],_,d=>Iff.rfl
 |e::ds,h,d=>by
  have a:∀d∈ds,cP d=true:=λd b=>h d (.tail _ b);constructor
  .intro q;rcases kA q with rfl|q
   .exact .head _
   .exact .tail _ ((Q9 a d).mp q)
  .intro q;rcases aAd.mp q with rfl|q
   .exact zM (h _<|.head _) (AH a)
   .exact AS ((Q9 a d).mpr q)
theorem qY:∀{Y N:List D},UN Y->UN N->(∀d,d∈Y↔d∈N)->Y=N
 |[],[],_,_,_=>rfl
 |[],y::N,_,_,h=>by have:=(h y).mpr (.head _);cases this
 |x::Y,[],_,_,h=>by have:=(h x).mp (.head _);cases this
 |x::Y,y::N,i,j,h=>by
  have b:=aAy.mp i;have e:=aAy.mp j;have a:∀d:D,HT.lexLt (flat d) (flat d)≠true:=λd q=>by rw[TS.lex_irrefl]at q;cases q
  have f:x=y:=by
   rcases aAd.mp ((h x).mp (.head _))with q|q
   .exact q
   .rcases aAd.mp ((h y).mpr (.head _))with g|g
    .exact g.symm
    .exact absurd (TS.lex_trans _ _ _ (e.1 x q)<|b.1 y g) (a y)
  subst f;congr 1;refine qY b.2 e.2 λd=>?_;constructor
  .intro q;rcases aAd.mp ((h d).mp (.tail _ q))with z|z
   .subst z;exact absurd (b.1 d q) (a d)
   .exact z
  .intro q;rcases aAd.mp ((h d).mpr (.tail _ q))with z|z
   .subst z;exact absurd (e.1 d q) (a d)
   .exact z
def JX (h:UN Y):Y.Nodup:=h.imp λ{x y} q z=>by subst z;rw[TS.lex_irrefl]at q;cases q
def ssR:D->R (List D)
 |.lst a=>if a.all cP=true/\(cN a).length<=63 then .ok (cN a)else .bad
 |_=>.bad
section
mutual
theorem eS (I:Inv X a σ H s):∀{v:V} {d:D} {u:ao},Rep X.K H O v d->qF d=true->RelV v u->HV s.heap u d
 |_,_,_,.non,e,_=>by cases e
 |_,_,_,.bl,e,_=>by cases e
 |_,_,_,.str,e,_=>by cases e
 |_,_,_,.lst _ _ _,e,_=>by cases e
 |_,_,_,.dct _ _ _,e,_=>by cases e
 |_,_,_,.int,_,r=>by obtain⟨t,rfl⟩:=r;exact .int _ t
 |_,_,_,.tup h r,e,b=>by cases b;obtain⟨f,g,p,_⟩:=I.tuple h;exact .tup p (GQ I r e g)
theorem GQ (I:Inv X b σ H s):∀{v:List V} {d:List D} {u:List ao},Reps X.K H O v d->gD d=true->p5 v u->HVs s.heap u d
 |_,_,_,.nil,_,.nil=>.nil
 |_,_,_,.cons r t,e,.cons f g=>by have a:(qF _&&gD _)=true:=e;rw[aAQ]at a;exact .cons (eS I r a.1 f) (GQ I t a.2 g)
end
end
variable [Tabs]
def a1q (w:cp)(o:Obj)(es:List ao):Prop:=o.ExactSet/\∃a b t,o.data=.set a b t/\t.fits a.size=true/\t.plain=true/\t.led=!w.params.followText "set-order"/\ST.KZ t.place/\a.toList.map (·.2)=es
abbrev B0 (K:iu)(H:Hp)(O:bb->Prop):List ao->List D->Prop:=Paired λu d=>∃v,RelV v u/\Rep K H O v d
theorem B0.of {K:iu}{H:Hp}{O:bb->Prop}:∀{L:List V} {a:List ao} {ds:List D},p5 L a->Reps K H O L ds->B0 K H O a ds
 |_,_,_,.nil,.nil=>.nil
 |_,_,_,.cons r t,.cons q u=>.cons ⟨_,r,q⟩ (B0.of t u)
theorem B0.ac8 {K:iu}{H:Hp}{O:bb->Prop}:∀{a:List ao} {ds:List D},B0 K H O a ds->∃L,p5 L a/\Reps K H O L ds
 |_,_,.nil=>⟨[],.nil,.nil⟩
 |_,_,.cons ⟨v,r,q⟩ t=>let⟨L,b,d⟩:=B0.ac8 t;⟨v::L,.cons r b,.cons q d⟩
def B0.same {K:iu}{H H':Hp}{O:bb->Prop}(s:Same H H'){a:List ao}{ds:List D}(h:B0 K H O a ds):B0 K H' O a ds:=dQ (by rintro _ _ ⟨v,r,q⟩;exact⟨v,r,q.same s⟩) h
theorem B0.get {K:iu}{H:Hp}{O:bb->Prop}:∀{a:List ao} {ds:List D} {u:ao},B0 K H O a ds->u∈a->∃d∈ds,∃v,RelV v u/\Rep K H O v d
 |_,_,_,.cons r t,h=>by
  rcases aAd.mp h with rfl|h
  .exact⟨_,.head _,r⟩
  .obtain⟨d,b,q⟩:=B0.get t h;exact⟨d,.tail _ b,q⟩
open Classical in
def R5 (K:iu) (H:Hp) (h:cq):cq:=PySem.W.hideAll h ((aBa h.objs.size).filter λa=>decide (¬∃Y,Y8 K H a Y))
def Z9 (K:iu)(H:Hp)(h:cq):Keeps (R5 K H h) h:=λb o e=>PySem.W.of_hideAll _ e
open Classical in
def yY {K:iu}{H:Hp}{h:cq}{b:bb}{o:Obj}{Y:List V}(e:h.get? b=some o)(q:Y8 K H b Y):(R5 K H h).get? b=some o:=PySem.W.hideAll_get _ e λa=>by have:=(aAU.mp a).2;exact(of_decide_eq_true this) ⟨Y,q⟩
open Classical in
def CZ {K:iu}{H:Hp}{h:cq}{b:bb}{o:Obj}(e:(R5 K H h).get? b=some o):∃Y,Y8 K H b Y:=by refine Classical.byContradiction λn=>?_;have a:=Z9 K H h b o e;have:(R5 K H h).get? b=none:=PySem.W.hideAll_none _ (aAU.mpr ⟨aBd.mpr (aAg a),decide_eq_true n⟩);rw[this]at e;cases e
section
mutual
theorem OZ (I:Inv X a σ H s):∀{v:V} {d:D} {u:ao},Rep X.K H O v d->qF d=true->RelV v u->HV (R5 X.K H s.heap) u d
 |_,_,_,.non,e,_=>by cases e
 |_,_,_,.bl,e,_=>by cases e
 |_,_,_,.str,e,_=>by cases e
 |_,_,_,.lst _ _ _,e,_=>by cases e
 |_,_,_,.dct _ _ _,e,_=>by cases e
 |_,_,_,.int,_,r=>by obtain⟨t,rfl⟩:=r;exact .int _ t
 |_,_,_,.tup h r,e,b=>by cases b;obtain⟨f,i,⟨o,g,c,n,d⟩,_⟩:=I.tuple h;exact .tup ⟨o,yY g h,c,n,d⟩ (GL I r e i)
theorem GL (I:Inv X b σ H s):∀{v:List V} {d:List D} {u:List ao},Reps X.K H O v d->gD d=true->p5 v u->HVs (R5 X.K H s.heap) u d
 |_,_,_,.nil,_,.nil=>.nil
 |_,_,_,.cons r t,e,.cons f g=>by have a:(qF _&&gD _)=true:=e;rw[aAQ]at a;exact .cons (OZ I r a.1 f) (GL I t a.2 g)
end
mutual
theorem TD (I:Inv X b σ H s):∀{u:ao} {d:D},HV (R5 X.K H s.heap) u d->∃v,RelV v u/\Rep X.K H O v d
 |_,_,.int i t=>⟨.int i,⟨t,rfl⟩,.int⟩
 |_,_,.tup (a:=a) ⟨o,g,c,n,h⟩ r=>by obtain⟨Y,q⟩:=CZ g;obtain⟨L,j,k⟩:=B0.ac8 (GI I r);obtain⟨l,m,⟨w,e,_,x,f⟩,_⟩:=I.tuple q;rw[Z9 _ _ _ _ _ g]at e;cases e;rw[h]at f;injection f with p _;subst p;have:L=Y:=j.inj (by simpa using m);subst this;exact⟨.ref a,rfl,.tup q k⟩
theorem GI (I:Inv X a σ H s):∀{u:List ao} {d:List D},HVs (R5 X.K H s.heap) u d->B0 X.K H O u d
 |_,_,.nil=>.nil
 |_,_,.cons r t=>.cons (TD I r) (GI I t)
end
end
section
def a0p (X:Cx)(B:D->Bool)(U:List D->List D)(f:Ev->R D):TE:=λσ H Q=>∃i j O ρ,EnvOk X.K i j H O σ ρ/\match f ρ with
 |.ok (.lst b)=>(b.all B=true/\(U b).length<=63)/\∀S o g e a,Same H a->a S=none->a1q X.w o g->B0 X.K a O g e->e.Nodup->(∀d,d∈e↔d∈b)->Q (.ref S) (upd a S<|.frz o (.own S))
 |.ex x=>∀h,Same H h->XW X x h
 |_=>False
def VR {B:D->Bool}{U:List D->List D}(hB:∀{d},B d=true->qF d=true/\J0 d<8/\∃N,d=.tup N)(hU:∀{ds:List D},(∀d∈ds,B d=true)->∀d,d∈U ds↔d∈ds)(ha:PB X e f)(hh:X.calm=true)(hu:X.A.units+300<cz)(hg:Gl X "set":=by rfl)(hm:X.mg "set"=none:=by assumption)(hv:de "set"=some (.type "set"):=by decide+kernel)(he:ba [e] X.env=(false,dm e X.env)::ba [] X.env:=by rfl)(bp:(cy C (ba [] X.env)).any (·.1)=false:=by rfl):
  PE X (.Call (.Name "set" p) [e] [] C) (a0p X B U f):=by
 refine zR λJ s σ H Q I H9 O0 O ρ E q=>?_;refine aBi (X6 I hg hm hv ?_ (by decide) (by decide));have om:PA X [e] _:=R0 ha dR he;refine aBu (J7 (om C J s σ H (λL g=>∃v ds,L=[v]/\f ρ=.ok (.lst ds)/\Same H g/\D2 X.K g O v (.lst ds)) I ⟨H9,O0,O,ρ,E,?_⟩) λus h z9=>?_) he bp
 .cases b:f ρ with
  |ex z=>rw[b]at q;exact q
  |bad=>rw[b]at q;exact q.elim
  |ok d=>
   rw[b]at q;cases d with
   |lst ds=>exactλv g h r1=>⟨v,ds,rfl,rfl,h,r1⟩
   |_=>exact q.elim
 .obtain⟨L,g,m,r1,v,ds,ev,ef,sm,rb⟩:=z9;subst ev;rw[ef]at q;obtain⟨⟨hp,zi⟩,q⟩:=q;obtain⟨a,ws,rfl,hS,rr⟩:=rb.aa6;obtain⟨u,rfl,ru⟩:=vals1 r1;cases ru;obtain⟨k,rv,⟨oL,nL,gL,cL,dL,sL⟩,zL⟩:=m.list hS;have pt:∀d∈ds,B d=true:=aCi.mp hp;have hlen:k.toArray.size=ds.length:=by rw[aAq,<-rv.length,rr.length]
  have st:B0 X.K g O k ds:=B0.of rv rr;have goes:∀(i:Nat) (v:ao),k.toArray[i]?=some v->xj (R5 X.K g h.heap) v (ds.getD i .non):=λi v n=>by
   rw[aCS]at n;obtain⟨d,x,w,ql,rp⟩:=J4 st n;have pg:ds.getD i .non=d:=by rw[aAs,x];rfl
   rw[pg];have hpt:=pt d (aAw x);obtain⟨Y,hd8,N,rfl⟩:=hB hpt;have hv:=OZ m rp Y ql;cases hv with
   |tup p r=>exact⟨_,_,rfl,rfl,hd8,.tup p r⟩
  have vd:∀i<k.toArray.size,J0 (ds.getD i .non)<8/\∃N,ds.getD i .non=.tup N:=λi n=>by
   have T:i<ds.length:=by rw[<-hlen];exact n
   have b:ds.getD i .non=ds[i]:=by rw[aAs,aAh T];rfl
   rw[b];exact(hB<|pt _<|aCj T).2
  refine CF (Z9 X.K g h.heap) (val:=λi=>ds.getD i .non) (U:=U ds) (m.ok.hd hh) ⟨oL,gL,cL,nL,sL⟩ goes vd (λi n=>?_) (by lia) hu λh' tk bf jd qe kp=>?_
  .have T:i<ds.length:=by rw[<-hlen];exact n
   rw[hU pt];have b:ds.getD i .non=ds[i]:=by rw[aAs,aAh T];rfl
   show ds.getD i .non∈ds;rw[b];exact aCj T
  .obtain⟨⟨o,y,ep,t,Y,hc,zh,hsl,x,l,msk,pr,led,pl⟩,nd⟩:=jd;have mem:∀d,d∈bf↔d∈ds:=λd=>by
    rw[qe];constructor
    .rintro⟨j,hj,b⟩;have ua:j<ds.length:=by rw[<-hlen];exact hj
     have e2:ds.getD j .non=ds[j]:=by rw[aAs,aAh ua];rfl
     rw[<-b,e2];exact aCj ua
    .intro x;obtain⟨j,hj,b⟩:=aBo x;refine⟨j,by rw[hlen];exact hj,?_⟩;show ds.getD j .non=d;rw[aAs,aAh hj,<-b];rfl
   have I2:=m.laid (a:=h.heap.objs.size) (o:=.frz o (.own h.heap.objs.size)) (h':=h') (t':=tk) kp (aAj _) ⟨Y,o,Y⟩;refine⟨.ref h.heap.objs.size,_,I2,rfl,q h.heap.objs.size o (y.toList.map (·.2)) bf g sm (m.hok.fresh<|aAj _) ⟨⟨hc,zh,hsl⟩,y,ep,t,x,?_,pl,led,l.tab.asc,rfl⟩ ?_ nd mem⟩
   .have h1:=l.len;have h2:=l.room;simp only[aGr,aAQ,beq_iff_eq,decide_eq_true_eq];exact⟨by simpa using h1,by show t.place.size+t.dummies.size<=t.mask;rw[l.tab.nod];simpa using h2⟩
   .have:∀{y:List (Int×ao)} {ds:List D},Paired (EV<|R5 X.K g h.heap) y ds->B0 X.K g O (y.map (·.2)) ds:=λ{y ds} p=>by
     induction p with
     |nil=>exact .nil
     |cons r _ ih=>exact .cons (TD m r.1) ih
    exact this pr
def WK (h:cq) (v:ao):List Int:=open Classical in if p:∃d,cP d=true/\HV h v d then flat p.choose else[]
def xL (b:cP d=true)(a:HV h v d):WK h v=flat d:=by unfold WK;have q:∃d,cP d=true/\HV h v d:=⟨d,b,a⟩;rw[dif_pos q,HV.inj q.choose_spec.2 a]
def bD (e:cP d=true)(a:HV h v d):∃b items,v=.ref b/\IsTup h b items/\IntsAre items.toList (flat d):=by
 rw[(iU e).2]at a;cases a with
 |tup p r=>
  refine⟨_,_,rfl,p,?_⟩;have:∀{L:List ao} {l:List Int},HVs h L (l.map D.int)->IntsAre L l:=λ{L l} r=>by
   induction l generalizing L with
   |nil=>cases r;exact .nil
   |cons i l f=>
    cases r with
    |cons r t=>cases r;exact .cons _ _ (f t)
  exact this r
def xz {prog:bt}{w:cp}{A:cf}{E:G0}{s:a9}{x y:ao}{d e:D}{f:Bool}{Q:BL}(g:cP d=true)(h:cP e=true)(i:HV s.heap x d)(j:HV s.heap y e)(q:Q (HT.lexLt (flat d) (flat e)) s):aA (be prog w) A (keyLt' (TS.tupK f) x y) Q E s:=by obtain⟨b,k,rfl,l,m⟩:=bD g i;obtain⟨p,a,rfl,n,o⟩:=bD h j;exact TS.lt_ints f l n m o q
def SV {prog:bt}{w:cp}{A:cf}{E:G0}{s:a9}{L:List ao}{Q:SortKind->a9->Prop}(h:∀x∈L,∃d,cP d=true/\HV s.heap x d)(v:2<=L.length)(q:Q (TS.tupK true) s):aA (be prog w) A (keyKind' L.toArray) Q E s:=by
 obtain⟨g,j⟩:∃g:ao->ao,∀x∈L,∃b a k t,x=.ref b/\IsTup s.heap b a/\a[0]?=some (g x)/\g x=.int k t:=by
  refine⟨λx=>open Classical in if z:∃p,∃b a k t,x=.ref b/\IsTup s.heap b a/\a[0]?=some p/\p=aGH k t then z.choose else .none,λx m=>?_⟩;obtain⟨d,y,C⟩:=h x m;obtain⟨b,a,rfl,H,f⟩:=bD y C;have B:=(iU y).1;have z:∃p,∃i a k t,aDJ b=.ref i/\IsTup s.heap i a/\a[0]?=some p/\p=aGH k t:=by
   cases e:a.toList with
   |nil=>rw[e]at f;generalize flat d=l at f B;cases f;exact absurd rfl B
   |cons p J=>
    rw[e]at f;generalize flat d=l at f;cases f with
    |cons k t N=>exact⟨_,b,a,k,t,rfl,H,by rw[<-aAE,e];rfl,rfl⟩
  dsimp only;rw[dif_pos z];obtain⟨i,I,k,t,n,o,r,u⟩:=z.choose_spec;exact⟨i,I,k,t,n,o,r,u⟩
 refine TS.kind_tuples (T:= "int") g (λx m=>?_) (λz=>by rw[z]at v;simp at v) (by decide) q;obtain⟨b,a,k,t,n,o,r,u⟩:=j x m;exact⟨b,a,n,o,r,by rw[u];exact typeIs_int s k t⟩
def xF {K:iu}{H:Hp}{O:bb->Prop}{m b:List ao}{ds:List D}{key:ao->List Int}(st:B0 K H O m ds)(B:b.Perm m)(C:b.Pairwise λx y=>HT.lexLt (key y) (key x)=false)(E:∀u d,(∃v,RelV v u/\Rep K H O v d)->d∈ds->key u=flat d)(pt:∀d∈ds,cP d=true)(I:ds.Nodup):
  ∃a,B0 K H O b a/\a.Perm ds/\UN a:=by
 obtain⟨a,j,k⟩:=fE B st;refine⟨a,k,j,?_⟩;have J:a.Nodup:=j.nodup_iff.mpr I;have n:∀d∈a,cP d=true:=λd f=>pt d (j.mem_iff.mp f);have o:∀u d,(∃v,RelV v u/\Rep K H O v d)->d∈a->key u=flat d:=λu d h f=>E u d h (j.mem_iff.mp f);clear B j st I pt E;induction k with
 |nil=>exact .nil
 |@cons u d m ds r t p=>
  have s:=aAy.mp C;have w:=aAF.mp J;refine aAy.mpr ⟨λe g=>?_,p s.2 w.2 (λd f=>n d (.tail _ f)) λu d h f=>o u d h (.tail _ f)⟩;have:∃i∈m,∃v,RelV v i/\Rep K H O v e:=by
   clear p C s w J n o r;induction t with
   |nil=>cases g
   |cons r t p=>
    rcases aAd.mp g with rfl|g
    .exact⟨_,.head _,r⟩
    .obtain⟨i,A,q⟩:=p g;exact⟨i,.tail _ A,q⟩
  obtain⟨i,A,q⟩:=this;have l:=s.1 i A;rw[o i e q (.tail _ g),o u d r (.head _)]at l;cases z:HT.lexLt (flat d) (flat e)with
  |true=>rfl
  |false=>have:=BS (n _<|.head _) (n _<|.tail _ g) (TS.lex_total _ _ z l);subst this;exact absurd g w.1
def kO {p p2 fm:Pos}{f:Ev->R D}(ha:PB X e f)(hh:X.calm=true)(hu:X.A.units+300<cz)(hg:Gl X "set":=by rfl)(hm:X.mg "set"=none:=by assumption)(hg2:Gl X "sorted":=by rfl)(ji:X.mg "sorted"=none:=by assumption)
  (hv:de "set"=some (.type "set"):=by decide+kernel) (hv2:de "sorted"=some (.builtin "sorted"):=by decide+kernel)
  (he:ba [e] X.env=(false,dm e X.env)::ba [] X.env:=by rfl) (bp:(cy fm (ba [] X.env)).any (·.1)=false:=by rfl)
  (ml:ba [.Call (.Name "set" p2) [e] [] fm] X.env=(false,dm (.Call (.Name "set" p2) [e] [] fm) X.env)::ba [] X.env:=by rfl) (wu:(cy pos (ba [] X.env)).any (·.1)=false:=by rfl):
  PF X (.Call (.Name "sorted" p) [.Call (.Name "set" p2) [e] [] fm] [] pos) (λρ=>(f ρ).bind ssR):=by
 refine zR λpins s σ H Q I H9 O0 O ρ E q=>?_;dsimp only at q;refine aBi (X6 I hg2 ji hv2 ?_ (by decide) (by decide));have om:PA X [.Call (.Name "set" p2) [e] [] fm] _:=R0 (VR (p:=p2) (B:=cP) (U:=cN) (λh=>⟨V1 h,GJ h,_,(iU h).2⟩) Q9 ha hh hu hg hm hv he bp) dR ml;refine aCu (J7 (om pos pins s σ H (λL H2=>∃S o es i g N,L=[.ref S]/\H2=upd N S (.frz o (.own S))/\f ρ=.ok (.lst g)/\(g.all cP=true/\(cN g).length<=63)/\Same H N/\N S=none/\a1q X.w o es/\B0 X.K N O es i/\i.Nodup/\(∀d,d∈i↔d∈g)) I ⟨H9,O0,O,ρ,E,?_⟩)
  λus s1 z=>?_) ml wu
 .cases e1:f ρ with
  |ex z=>rw[e1]at q;exact q
  |bad=>rw[e1]at q;exact q.elim
  |ok d=>
   rw[e1,R.aa0]at q;cases d with
   |lst g=>
    simp only[ssR]at q;by_cases hc:g.all cP=true/\(cN g).length<=63
    .exact⟨hc,λS o es i N sm hS so st nd j=>⟨S,o,es,i,g,N,rfl,rfl,rfl,hc,sm,hS,so,st,nd,j⟩⟩
    .rw[h9 hc]at q;exact q.elim
   |_=>exact q.elim
 .obtain⟨L,H2,I2,r1,S,o,es,i,g,N,ev,eH,ef,⟨hp,zi⟩,sm,hS1,so,st,nd,j⟩:=z;subst ev eH;obtain⟨u,rfl,ru⟩:=vals1 r1;cases ru;rw[ef,R.aa0]at q;simp only[ssR]at q;rw[hV ⟨hp,zi⟩]at q;have pt:∀d∈g,cP d=true:=aCi.mp hp;have yd:∀d∈i,cP d=true:=λd J=>pt d ((j d).mp J);have s12:Same N (upd N S<|.frz o (.own S)):=m8 hS1 _;have km:=st.same s12;obtain⟨hc,ea,ep,t,J,hf,hpln,led,asc,ees⟩:=so;have goS:=(I2.hok S _ l4).1;have hS2:SI.IsSet s1.heap S ea ep t:=⟨o,goS,hc.1,J⟩;have hsl:(cN g).Perm i:=by
   letI:DecidableEq D:=λa b=>aEa _
   exact(aBf (JX<|fI g) nd).mpr λd=>by rw[Q9 pt,j]
  have gu:ea.size=i.length:=by have:=st.length;rw[<-ees]at this;simpa using this
  have h63':i.length<=63:=by rw[<-hsl.length_eq];exact zi
  have wp:=SI.walkL_perm X.w S ea ep;have wpv:((SI.walkL X.w S ea ep).map (·.2)).Perm es:=by rw[<-ees];exact wp.map _
  have m:∀u∈(SI.walkL X.w S ea ep).map (·.2),∃d,d∈i/\cP d=true/\HV s1.heap u d:=λu hu=>by obtain⟨d,J,v,rv,rp⟩:=km.get (wpv.mem_iff.mp hu);exact⟨d,J,yd d J,eS I2 rp (V1<|yd d J) rv⟩
  refine TS.sorted_keys (L:=(SI.walkL X.w S ea ep).map (·.2)) (f:=true) (key:=WK s1.heap) (C:=λs'=>∃h' Y,s'={s1 with heap:=h',toks:=Y}/\∀b o,s1.heap.get? b=some o->h'.get? b=some o)
   (λ{Q'} hq=>SI.collect_set (by simp[I2.ok.hd hh]) hS2 hf hpln (λnb=>by rw[led];simpa using nb) asc (by rw[gu];exact aAl h63' (by decide)) λh' Y k=>hq _ ⟨h',Y,rfl,k⟩)
   (λs' ⟨h',Y,r,k⟩ s6 k6 x hx y hy prog w A E hA {Q} qq=>?_) (λh2 s' ⟨h',Y,r,k⟩ s6 k6 A {Q} qq=>?_) (by rw[aAf,wp.length_eq,aBk,gu];lia) λs' ic h' l ⟨h1,Y,r,k⟩ pm srt k2 hl ⟨n,gl⟩=>?_
  .subst r;obtain⟨d,_,pd,T⟩:=m x hx;obtain⟨d',_,pd',hvd'⟩:=m y hy;rw[xL pd T,xL pd' hvd']at qq;exact xz pd pd' (T.keeps λb o e _=>k6 b o (k b o e)) (hvd'.keeps λb o e _=>k6 b o (k b o e)) qq
  .subst r;refine SV (λx hx=>?_) h2 qq;obtain⟨d,_,pd,T⟩:=m x hx;exact⟨d,pd,T.keeps λb o e _=>k6 b o (k b o e)⟩
  .subst r;obtain⟨qm,st3,p2,srt2⟩:=xF (key:=WK s1.heap) km (pm.trans wpv) srt (by rintro u d ⟨v,rv,rp⟩ J;exact xL (yd d J) (eS I2 rp (V1<|yd d J) rv)) yd nd;have e2:qm=cN g:=qY srt2 (fI g) λd=>by rw[p2.mem_iff,j,Q9 pt]
   subst e2;obtain⟨wv,ql,rr⟩:=st3.ac8;have I2':=I2.kept (h':=h1) (t':=Y) k;have I3:=I2'.laid (a:=l) (o:=.lst wv) (h':=h') (t':=Y) k2 hl ⟨by rw[rr.length];exact aAl zi (by decide),ic,n,ql,gl⟩;exact⟨.ref l,_,I3,rfl,q wv _ l (sm.trans s12) (I2'.hok.fresh hl) rr⟩
end
end DL
namespace SZ
open PySem
abbrev Zs (h:cq)(z TI TO:bb)(a b:ao):Prop:=h.get? z=some {cls:=.type "zip",dict:=none,data:=.fields #[a,b,.bool false,.ref TI,.ref TO],slots:=#[]}
def AL (b:ao):Prop:=b=.none\/∃a:Nat,b=ee a
section
def alive {Q:Option Obj->a9->Prop}(h:Q (s.heap.get? c) s):aA (be prog w) A (loadIfAlive c) Q E s:=λΓ p _=>by unfold loadIfAlive;rw[Sem.wp_loadIfAlive];simpa using h
def oB {Q:BL}(hz:Zs s.heap z TI TO b d)(j:AL b)(f:Q true s)(g:∀h' e,Zs h' z TI TO b e->Heap.SameBut z s.heap h'->Q false {s with heap:=h'}):aA (be prog w) A (aBY (.ref z)) Q E s:=by
 unfold aBY;refine aAa (aCV hz rfl (x:=b) rfl ?_);rcases j with rfl|⟨a,rfl⟩
 .exact aAb f
 .show aA _ _ (loadIfAlive (aEF (a:Int))>>=_) _ _ _;refine aAa (alive ?_);by_cases h:(s.heap.get?<|aEF (a:Int)).isNone=true
  .rw[hV h];exact aAb f
  .rw[h9 h];refine aAa (aCV hz rfl (x:=d) rfl ?_);by_cases i:(d !=aDE true)=true
   .rw[hV i];refine aAa (aCe hz (by simp) λh' k l=>aAb (g h' (.bool true) k l))
   .rw[h9 i];exact aAb (g s.heap d hz ⟨rfl,λ_ _=>rfl⟩)
def PU {Q:G0}(D:ZipApart z TI TO l m L l2)(hz:Zs s.heap z TI TO f0 f1)(ho:AL f0)(ug:ff s.heap TI (.ref l) (.ref m))(tf:ff s.heap TO a b)(h1:s.heap.IsListIter l L k)(h2:s.heap.IsListIter m l2 k)(qg:s.heap.IsList L Y)(mh:s.heap.IsList l2 N)(hx:Y[k]?=some x)(hy:N[k]?=some y)(hQ:∀h' T O t a' b',Zs h' z TI TO O t->AL O->ff h' TO a' b'->h'.IsListIter l L (k+1)->h'.IsListIter m l2 (k+1)->s.heap.objs.size<=T->ff h' T x y->
   (∀c o,c≠z->c≠TO->c≠l->c≠m->s.heap.get? c=some o->h'.get? c=some o)->Q (.ref T) {s with heap:=h'}):
  aA (be prog w) A (Builtin.«zip.__next__» ⟨[.ref z],[]⟩) (λfin s'=>∃v,fin=.done (.ret v)/\Q v s') E s:=by
 show aA _ _ (field (.ref z) 2>>=_) _ _ _;refine aAa (aCV hz rfl (x:=.bool false) rfl ?_);show aA _ _ (field (.ref z) 3>>=_) _ _ _;refine aAa (aCV hz rfl (x:=.ref TI) rfl ?_);refine aAa (aBU ug rfl ?_);show aA _ _ (aBY (.ref z)>>=_) _ _ _;refine aAa (oB hz ho ?_ λp t U d=>?_)
 .simp only[if_true];refine aAa (aDC ?_);refine aAa (aCV hz rfl (x:=.ref TO) rfl ?_);refine aAa (aCe hz (by simp) λp U d=>?_);replace U:Zs p z TI TO .ellipsis f1:=U;refine aAa ?_;simp only[aEp,aED,aDb,aEf];refine aAa (aAa<|wpAny_onRaise ?_);show aA _ _ (aBW (.ref l)>>=_) _ _ _;refine aAa (aDo (h1.extBut d.extBut D.i1z) (qg.extBut d.extBut D.l1z) hx λir u g=>aAb ?_);have q:ff ir TO a b:=g.extBut _ _ D.TOi1 (d.extBut _ _ D.TOz tf);refine aAa (aBU q rfl ?_);refine aAa (wpAny_updateSeq_pair q λaB h J=>?_);replace h:ff aB TO x b:=h;refine aAa (aEe<|aAb ?_);refine aAa (aAa<|wpAny_onRaise ?_);show aA _ _ (aBW (.ref m)>>=_) _ _ _;refine aAa (aDo (((h2.extBut d.extBut D.i2z).extBut g.extBut D.i12.symm).extBut J.extBut D.TOi2.symm)
   (((mh.extBut d.extBut D.l2z).extBut g.extBut D.l2i1).extBut J.extBut D.l2TO) hy λB C i=>aAb ?_)
  have zo:ff B TO x b:=i.extBut _ _ D.TOi2 h;refine aAa (aBU zo rfl ?_);refine aAa (wpAny_updateSeq_pair zo λf zr j=>?_);replace zr:ff f TO x y:=zr;refine aAa (aEe<|aAb<|aAb ?_);refine aAa (aBU zr rfl ?_);refine aAa (aGd ?_);have gu:f.objs.size=s.heap.objs.size:=by rw[j.1,i.1,J.1,g.1,d.1]
  have hz3:Zs f z TI TO .ellipsis f1:=j.extBut _ _ D.TOz.symm (i.extBut _ _ D.i2z.symm<|J.extBut _ _ D.TOz.symm<|g.extBut _ _ D.i1z.symm U);have hk3:∀c o,c≠z->c≠TO->c≠l->c≠m->s.heap.get? c=some o->f.get? c=some o:=λc o n c2 c3 c4 e=>j.extBut _ _ c2 (i.extBut _ _ c4<|J.extBut _ _ c2<|g.extBut _ _ c3<|d.extBut _ _ n e)
  have h11:f.IsListIter l L (k+1):=((u.extBut J.extBut D.TOi1.symm).extBut i.extBut D.i12).extBut j.extBut D.TOi1.symm;have h21:f.IsListIter m l2 (k+1):=C.extBut j.extBut D.TOi2.symm;have r:z<f.objs.size:=aAg hz3;show aA _ _ (aDN (.ref z) (.ref f.objs.size)>>=_) _ _ _;refine aAa ?_;unfold aDN;have hz5:Zs (f.push {cls:=.type "tuple",data:=.seq #[x,y]}) z TI TO .ellipsis f1:=aAc _ hz3;refine aAa (aCe hz5 (by simp) λaD H hs8=>?_);replace H:Zs aD z TI TO (ee f.objs.size) f1:=H;refine aCe H (by simp) λaC I hs9=>?_;replace I:Zs aC z TI TO (ee f.objs.size) (.bool false):=I;have up:∀c o,c≠z->f.get? c=some o->aC.get? c=some o:=λc o n e=>hs9.extBut _ _ n (hs8.extBut _ _ n<|aAc _ e);have hT0:ff aC f.objs.size x y:=hs9.extBut _ _ (aDy r) (hs8.extBut _ _ (aDy r)<|aAr _ rfl);refine aAb ⟨_,rfl,?_⟩;exact hQ aC f.objs.size _ _ x y I (.inr ⟨_,rfl⟩) (up _ _ D.TOz zr) (h11.at λo e=>up _ o D.i1z e) (h21.at λo e=>up _ o D.i2z e) (aEj gu.symm) hT0 λc o n c2 c3 c4 e=>up c o n (hk3 c o n c2 c3 c4 e)
 .simp only[aAu,if_false];refine aAa ?_;show aA _ _ (forIn (#[.ref l,.ref m]:Array ao) _ _) _ _ _;rw[<-aCy];simp only[aDb,aEf];refine aAa (aAa<|aAY ?_);show aA _ _ (aBW (.ref l)>>=_) _ _ _;refine aAa (aDo (h1.extBut d.extBut D.i1z) (qg.extBut d.extBut D.l1z) hx λir u g=>aAb ?_);refine aAb ?_;refine aAa (aAa<|aAY ?_);show aA _ _ (aBW (.ref m)>>=_) _ _ _;refine aAa (aDo ((h2.extBut d.extBut D.i2z).extBut g.extBut D.i12.symm) ((mh.extBut d.extBut D.l2z).extBut g.extBut D.l2i1) hy λB C i=>aAb ?_);refine aAb (aAb ?_);have gu:B.objs.size=s.heap.objs.size:=by rw[i.1,g.1,d.1]
  have hz6:Zs B z TI TO f0 t:=i.extBut _ _ D.i2z.symm (g.extBut _ _ D.i1z.symm U);have zo:ff B TO a b:=i.extBut _ _ D.TOi2 (g.extBut _ _ D.TOi1<|d.extBut _ _ D.TOz tf);have h12:B.IsListIter l L (k+1):=u.extBut i.extBut D.i12;show aA _ _ (newTuple [x,y]>>=_) _ _ _;refine aAa (aGd ?_);refine aAb ⟨_,rfl,?_⟩;exact hQ _ B.objs.size _ _ a b (aAc _ hz6) ho (aAc _ zo) (h12.at λo e=>aAc _ e) (C.at λo e=>aAc _ e) (aEj gu.symm) (aAr _ rfl)
   λc o n c2 c3 c4 e=>aAc _ (i.extBut _ _ c4<|g.extBut _ _ c3<|d.extBut _ _ n e)
def WL {Q:Fin->a9->Prop}(v:A.handled=none)(D:ZipApart z TI TO h l y l2)(hz:Zs s.heap z TI TO O B)(T:AL O)(U:ff s.heap TI (.ref h) (.ref l))(tf:ff s.heap TO a b)
  (C:s.heap.IsListIter h y k) (h2:s.heap.IsListIter l l2 k) (H:s.heap.IsList y Y) (mh:s.heap.IsList l2 N) (I:Y[k]?=none)
  (J:∀h' e,(∀c o,c≠z->c≠TO->c≠h->c≠l->s.heap.get? c=some o->h'.get? c=some o)->(∃o,h'.get? e=some o/\o.cls=.type "StopIteration")->E (.ref e) {s with heap:=h'}):
  aA (be prog w) A (Builtin.«zip.__next__» ⟨[.ref z],[]⟩) Q E s:=by
 show aA _ _ (field (.ref z) 2>>=_) _ _ _;refine aAa (aCV hz rfl (x:=.bool false) rfl ?_);show aA _ _ (field (.ref z) 3>>=_) _ _ _;refine aAa (aCV hz rfl (x:=.ref TI) rfl ?_);refine aAa (aBU U rfl ?_);show aA _ _ (aBY (.ref z)>>=_) _ _ _;refine aAa (oB hz T ?_ λd f1' m f=>?_)
 .simp only[if_true];refine aAa (aDC ?_);refine aAa (aCV hz rfl (x:=.ref TO) rfl ?_);refine aAa (aCe hz (by simp) λd m f=>?_);replace m:Zs d z TI TO .ellipsis B:=m;refine aAa ?_;simp only[aEp,aED,aDb,aEf];refine aAa (aAa<|wpAny_onRaise ?_);show aA _ _ (aBW (.ref h)>>=_) _ _ _;refine aAa (wpAny_nextOf_list_end v (C.extBut f.extBut D.i1z) (H.extBut f.extBut D.l1z) I λq e n r=>?_);obtain⟨oe,g,i⟩:=r;have j:Zs q z TI TO .ellipsis B:=n _ _ D.i1z.symm m;have t:e≠z:=λx=>by subst x;rw[j]at g;cases g;simp at i
  exact aCe j (by simp) λaB _ L=>J aB e (λc o p _ u _ x=>L.extBut _ _ p (n _ _ u<|f.extBut _ _ p x)) ⟨oe,L.extBut _ _ t g,i⟩
 .simp only[aAu,if_false];refine aAa ?_;show aA _ _ (forIn (#[.ref h,.ref l]:Array ao) _ _) _ _ _;rw[<-aCy];simp only[aDb,aEf];refine aAa (aAa<|aAY ?_);show aA _ _ (aBW (.ref h)>>=_) _ _ _;exact aAa (wpAny_nextOf_list_end v (C.extBut f.extBut D.i1z) (H.extBut f.extBut D.l1z) I λq e n r=>J q e (λc o p _ u _ x=>n _ _ u (f.extBut _ _ p x)) r)
end
def SO (z TI TO d e f l2:bb)(Y N:Array ao)(i:Nat)(h:cq):Prop:=
 (∃g j,Zs h z TI TO g j/\AL g)/\ff h TI (.ref d) (.ref e)/\(∃a b,ff h TO a b)/\h.IsListIter d f i/\h.IsListIter e l2 i/\h.IsList f Y/\h.IsList l2 N
section
variable{s:a9}
def SO.type (h:SO z TI TO b d e l2 Y N i s.heap):s.TypeIs (.ref z) "zip":=by obtain⟨⟨f,g,a,_⟩,_⟩:=h;exact⟨_,a,rfl⟩
def SO.keeps (x:SO z TI TO d f g l2 Y N i h)(k:∀b o,b∈[z,TI,TO,d,f,g,l2]->h.get? b=some o->h'.get? b=some o):SO z TI TO d f g l2 Y N i h':=by obtain⟨⟨j,l,m,n⟩,p,⟨a,b,q⟩,r,t,u,v⟩:=x;exact⟨⟨j,l,k z _ (by simp) m,n⟩,k TI _ (by simp) p,⟨a,b,k TO _ (by simp) q⟩,r.at λo e=>k d o (by simp) e,t.at λo e=>k f o (by simp) e,u.at λo e=>k g o (by simp) e,v.at λo e=>k l2 o (by simp) e⟩
def OH {Q:Option ao->a9->Prop}(D:ZipApart z TI TO g h l l2)(hl:Y.size=N.size)(st:SO z TI TO g h l l2 Y N i s.heap)(u:i<Y.size)(v:∀h' T x y,Y[i]?=some x->N[i]?=some y->SO z TI TO g h l l2 Y N (i+1) h'->s.heap.objs.size<=T->ff h' T x y->(∀c o,c∉[z,TO,g,h]->s.heap.get? c=some o->h'.get? c=some o)->Q (some (.ref T)) {s with heap:=h'}):
  aA (be prog w) A (fb (.ref z)) Q E s:=by
 have m:=st.type;obtain⟨⟨f0,f1,B,C⟩,n,⟨a,b,H⟩,I,J,p,q⟩:=st;have r:Y[i]?=some Y[i]:=aAM u;have t:N[i]?=some (N[i]'(by lia)):=aAM (by lia);unfold fb;refine aAa (aEv (aCC (name:=aDz "__next__") m aEb
  (aBB aEb m F.entry_zip_next (PU D B C n H I J p q r t λh' T j k L O U e2 e3 e4 e5 e6 e7 f=>aAb ?_)<|F.args_zip_next_1 _)))
 refine v h' T _ _ r t ⟨⟨j,k,U,e2⟩,f _ _ D.TIz D.TITO D.TIi1 D.TIi2 n,⟨L,O,e3⟩,e4,e5,p.at λo e=>f _ o D.l1z D.l1TO D.l1i1 D.l1i2 e,q.at λo e=>f _ o D.l2z D.l2TO D.l2i1 D.l2i2 e⟩ e6 e7 λc o d e=>?_;simp only[aAd,aAW,or_false,not_or]at d;exact f c o d.1 d.2.1 d.2.2.1 d.2.2.2 e
def QC {Q:Option ao->a9->Prop}(i:A.handled=none)(D:ZipApart z TI TO f g j l2)(st:SO z TI TO f g j l2 Y N Y.size s.heap)
  (k:∀h',(∀c o,c∉[z,TO,f,g]->s.heap.get? c=some o->h'.get? c=some o)->Q none {s with heap:=h'}):aA (be prog w) A (fb (.ref z)) Q E s:=by
 have h:=st.type;obtain⟨⟨B,C,l,m⟩,n,⟨a,b,p⟩,q,r,t,u⟩:=st;unfold fb;refine aAa (aEv (aCC (name:=aDz "__next__") h aEb
  (aBB aEb h F.entry_zip_next (WL (by simpa using i) D l m n p q r t u (aCP<|aAj _) λh' e v x=>?_)<|F.args_zip_next_1 _)))
 obtain⟨o,y,d⟩:=x;refine aAa (aDQ (T:= "StopIteration") (b:=true) ⟨o,y,d⟩ isSubtype_stop ?_);refine aAb (k _ λc o d e=>?_);simp only[aAd,aAW,or_false,not_or]at d;exact v c o d.1 d.2.1 d.2.2.1 d.2.2.2 e
def Pairs (h0:cq)(Y N B:Array ao)(i:Nat)(h:cq)(off:List bb):Prop:=B.size=i/\∀(j:Nat) (v:ao),B[j]?=some v->∃T x y,v=.ref T/\Y[j]?=some x/\N[j]?=some y/\ff h T x y/\T∉off/\h0.get? T=none
def UJ (hh:A.handled=none)(D:ZipApart z TI TO g l Q l2)(hl:Y.size=N.size)(hn:Y.size<=sizeLine)(S:bb)(pf:S∉[z,TI,TO,g,l,Q,l2])(res:ao)(h0:cq):
  ∀(k i:Nat) (s:a9) (B:Array ao) (c:Nat),Y.size-i=k->i<=Y.size->(∀b o,b∉[z,TO,g,l,S]->h0.get? b=some o->s.heap.get? b=some o)->SO z TI TO g l Q l2 Y N i s.heap->s.heap.get? S=some {cls:=.type "list",dict:=none,data:=.seq B c,slots:=#[]}->Pairs h0 Y N B i s.heap [z,TO,g,l,S]->
  (∀h' L U,(∀b o,b∉[z,TO,g,l,S]->s.heap.get? b=some o->h'.get? b=some o)->h'.get? S=some {cls:=.type "list",dict:=none,data:=.seq L U,slots:=#[]}->Pairs h0 Y N L Y.size h' [z,TO,g,l,S]->R (.ok (.ret res)) {s with heap:=h'})->
  fh (be prog w) A (.builtin "list.extend.loop" ⟨[.ref S,.ref z,res],[]⟩) R s:=by
 have C:S∉[z,TO,g,l]:=λh=>pf (by simp only[aAd,aAW,or_false]at h⊢;rcases h with h|h|h|h<;>simp[h]);have m:∀b,b∉[z,TO,g,l,S]->b∉[z,TO,g,l]:=λb h q=>h (by simp only[aAd,aAW,or_false]at q⊢;rcases q with q|q|q|q<;>simp[q]);intro k;induction k with
 |zero=>
  intro i s B c hk hi p O E n hR;have nh:i=Y.size:=by lia
  subst nh;refine aBV F.entry_extend_loop ?_;rw[aBt aDh _];show aA _ A.in1 (fb (.ref z)>>=_) _ _ s;refine aAa (QC (by simpa using hh) D O λh' kp=>?_);refine aAb (hR h' B c (λb o d e=>kp b o (m b d) e) (kp S _ C E) ⟨n.1,λj v t=>?_⟩);obtain⟨T,x,y,e1,e2,e3,e4,u,e6⟩:=n.2 j v t;exact⟨T,x,y,e1,e2,e3,kp T _ (m T u) e4,u,e6⟩
 |succ k ih=>
  intro i s B c hk hi p O E n hR;have ah:i<Y.size:=by lia
  refine aBV F.entry_extend_loop ?_;rw[aBt aDh _];show aA _ A.in1 (fb (.ref z)>>=_) _ _ s;refine aAa (OH D hl O ah λh' T x y hx hy ki hT hP kp=>?_);have jd:=kp S _ C E;have f:∀b o,s.heap.get? b=some o->T≠b:=λb o e q=>absurd (aAv (aAg e) hT) (by rw[q];exact aBs _);obtain⟨⟨f0,f1,hz,_⟩,_,⟨a,b,tf⟩,⟨o1,g1,_⟩,⟨o2,g2,_⟩,_⟩:=id O;have H:T∉[z,TO,g,l,S]:=by simp only[aAd,aAW,or_false,not_or];exact⟨f _ _ hz,f _ _ tf,f _ _ g1,f _ _ g2,f _ _ E⟩
  show aA _ A.in1 (gi S (·.push (.ref T))>>=_) _ _ _;refine aAa ?_;have I:∀b o,b≠S->h'.get? b=some o->(h'.update S (aBT (·.push (.ref T)))).get? b=some o:=λb o d e=>(aAI _ _<|aCa d).trans e;have neS:∀b,b∈[z,TI,TO,g,l,Q,l2]->b≠S:=λb d q=>pf (q▸d);refine aCg jd rfl (aAb ⟨aCd aDh _,ih (i+1) _ (B.push<|.ref T) _ (by lia) ah (λb o d e=>I b o (λq=>d (by simp[q])) (kp b o (m b d)<|p b o d e)) (ki.keeps λb o d e=>I b o (neS b d) e) (aBv _ jd rfl) ⟨by rw[Array.size_push,n.1],λj v t=>?_⟩ λh'' L U kp' wm r=>?_⟩)
   (by rw[n.1];lia) (by show(B.push<|.ref T).size<=sizeLine+1;rw[Array.size_push,n.1];lia)
  .rw[Array.getElem?_push]at t;split at t
   .rename_i q;cases t;rw[n.1]at q;subst q;refine⟨T,x,y,rfl,hx,hy,I T _ (f _ _ E) hP,H,?_⟩;cases q0:h0.get? T with
    |none=>rfl
    |some o=>exact absurd rfl (f T o<|p T o H q0)
   .obtain⟨J,x',y',e1,e2,e3,e4,u,e6⟩:=n.2 j v t;have n5:J≠S:=λq=>u (by simp[q]);exact⟨J,x',y',e1,e2,e3,I J _ n5 (kp J _ (m J u) e4),u,e6⟩
  .refine hR h'' L U (λb o d e=>kp' b o d (I b o (λq=>d (by simp[q]))<|kp b o (m b d) e)) wm r
end
section
def dN {Q:G0}(St:cq->Prop)(N:∀d:a9,St d.heap->d.TypeIs (.ref I) T)(B:∀h h',St h->(∀b o,b≠s.heap.objs.size->h.get? b=some o->h'.get? b=some o)->St h')(r:I≠s.heap.objs.size)
  (n1:(aCx T==aCx "list")=false) (n2:(aCx T==aCx "tuple")=false) (O:∀{M:Model} {A:cf} {E:G0} {s:a9} {Q:Fin->a9->Prop} {a b:Sem Fin},(room=true->aA M A a Q E s)->(room=false->aA M A b Q E s)->aA M A (if(room||["set", "frozenset", "dict", "dict_keys", "dict_values", "dict_items"].any (aCx T==aCx ·))=true then a else b) Q E s)
  (self:∀(d:a9) (Q:G0) (E:G0),St d.heap->Q (.ref I) d->aA (be prog w) A.in1.in1 (pyIter (.ref I)) Q E d)
  (hint:∀(d:a9) (Q:BL) (E:G0),St d.heap->Q room d->aA (be prog w) A.in1.in1 (aCL (.ref I)) Q E d) (U:St s.heap)
  (f:∀(n:cq) (c:Nat) (R:Result->a9->Prop),(∀b o,s.heap.get? b=some o->n.get? b=some o)->St n->n.get? s.heap.objs.size=some {cls:=.type "list",dict:=none,data:=.seq #[] c,slots:=#[]}->(∀s',Q (.ref s.heap.objs.size) s'->R (.ok (.ret .none)) s')->
   fh (be prog w) A.in1 (.builtin "list.extend.loop" ⟨[.ref s.heap.objs.size,.ref I,.none],[]⟩) R {s with heap:=n}):
  aA (be prog w) A (call (.type "list") [.ref I]) Q E s:=by
 refine callType_codes (Q₁:=λj C=>j=.ref s.heap.objs.size/\C={s with heap:=s.heap.push {cls:=.type "list",data:=.seq #[]}}) F.called_list (F.typeCall_list_1 _) F.entry_list_init
  (code_list_new _ ⟨rfl,rfl⟩) λj C k=>?_
 obtain⟨rfl,rfl⟩:=k;have p:(s.heap.push {cls:=.type "list",data:=.seq #[]}).get? s.heap.objs.size=some {cls:=.type "list",data:=.seq #[]}:=aAr _ rfl;have H:∀b o,s.heap.get? b=some o->b≠s.heap.objs.size:=λb o e=>aAn (aAg e);refine⟨⟨_,p,rfl⟩,F.args_list_init_2 _ _,?_⟩;show aA _ A.in1.in1 (do let t<-aCO (.ref s.heap.objs.size);Builtin.List.listUpdate (.ref s.heap.objs.size) (λ_=>#[]);letGo t.toList.reverse;aCf (.ref s.heap.objs.size) (.ref I) .none) _ _ _;refine aAa ?_;unfold aCO;refine aAa (aBU p rfl<|aAb ?_);show aA _ A.in1.in1 (gi s.heap.objs.size (λ_=>#[])>>=λ_=>letGo (#[]:Array ao).toList.reverse>>=λ_=>aCf (.ref s.heap.objs.size) (.ref I) .none) _ _ _;refine aAa (aCg p rfl ?_);have i:=aBv (aBT<|λ_=>(#[]:Array ao)) p rfl;refine aAa (aEe ?_);generalize u:(s.heap.push {cls:=.type "list",data:=.seq #[]}).update s.heap.objs.size (aBT<|λ_=>(#[]:Array ao))=g at*
 have v:∀b o,s.heap.get? b=some o->g.get? b=some o:=λb o e=>by rw[<-u];exact(aAI _ _<|aCa<|H b o e).trans (aAc _ e)
 have l:St g:=B s.heap g U λb o _ e=>v b o e;have x:aDc (.ref s.heap.objs.size) (.ref I)=false:=by simp[aDc,aCa r]
 have y:Shared.TypeIs {s with heap:=g} (.ref I) T:=N {s with heap:=g} l;unfold aCf;refine aAa (aDS y ?_);simp only[x,n1,n2,Bool.or_false,aAu,if_false];refine aAa (self _ _ _ l ?_);refine aAa (aAY<|hint _ _ _ l ?_);refine O (λ_=>?_) (λ_=>?_)
 .show aA _ A.in1.in1 (rule "list.extend.makes-room">>=λ_=>aFH (.ref s.heap.objs.size)>>=λ_=>again (.builtin "list.extend.loop" ⟨[.ref s.heap.objs.size,.ref I,.none],[]⟩)) _ _ _;refine aAa (aDC ?_);refine aAa ?_;show aA _ A.in1.in1 (gi s.heap.objs.size (·.push .none)>>=λ_=>gi s.heap.objs.size (·.pop)) _ _ _;refine aAa (aCg i rfl ?_);have m:=aBv (aBT (·.push Value.none)) i rfl;refine aCg (hz:=by seq_fits) m rfl ?_;have z:=aBv (aBT (·.pop)) m rfl;have J:∀b o,b≠s.heap.objs.size->g.get? b=some o->((g.update s.heap.objs.size (aBT (·.push Value.none))).update s.heap.objs.size (aBT (·.pop))).get? b=some o:=
   λb o L e=>(aAI _ _<|aCa L).trans ((aAI _ _<|aCa L).trans e)
  exact aAb ⟨aCd aDh _,f _ _ _ (λb o e=>J b o (H b o e) (v b o e)) (B g _ l J) z λs' q=>⟨rfl,q⟩⟩
 .exact aAb ⟨aCd aDh _,f _ _ _ v l i λs' q=>⟨rfl,q⟩⟩
def LQ:typeLookup (.type "zip") "__len__"=pure none:=by rw[aDA,aCv];kernel_rfl
def EK:typeLookup (.type "zip") "__length_hint__"=pure none:=by rw[aDA,aCv];kernel_rfl
def OC {Q:G0}(r:A.handled=none)(D:ZipApart z TI TO f g i l2)(t:Y.size=N.size)(u:Y.size<=sizeLine)(st:SO z TI TO f g i l2 Y N 0 s.heap)(y:∀h' B c,(∀b o,b∉[z,TO,f,g]->s.heap.get? b=some o->h'.get? b=some o)->h'.get? s.heap.objs.size=some {cls:=.type "list",dict:=none,data:=.seq B c,slots:=#[]}->Pairs s.heap Y N B Y.size h' [z,TO,f,g,s.heap.objs.size]->Q (.ref s.heap.objs.size) {s with heap:=h'}):
  aA (be prog w) A (call (.type "list") [.ref z]) Q E s:=by
 have lt:∀b∈[z,TI,TO,f,g,i,l2],b≠s.heap.objs.size:=λb d=>by
  obtain⟨⟨C,H,m,_⟩,I,⟨a,b',J⟩,⟨o1,L,_⟩,⟨o2,O,_⟩,⟨o3,U,_⟩,⟨o4,g4,_⟩⟩:=st;simp only[aAd,aAW,or_false]at d;rcases d with rfl|rfl|rfl|rfl|rfl|rfl|rfl
  .exact aAn (aAg m)
  .exact aAn (aAg I)
  .exact aAn (aAg J)
  .exact aAn (aAg L)
  .exact aAn (aAg O)
  .exact aAn (aAg U)
  .exact aAn (aAg g4)
 refine dN (T:= "zip") (room:=true) (SO z TI TO f g i l2 Y N 0) (λl h=>h.type) (λh h' x k=>x.keeps λb o d e=>k b o (lt b d) e) (lt z (by simp)) (by decide) (by decide) (λn h2=>by rw[hV (by decide)];exact n rfl)
  (λl Q E x q=>?_) (λl Q E x q=>?_) st λn c R p aw hS hR=>?_
 .obtain⟨⟨C,H,m,_⟩,_⟩:=id x;refine aFq x.type F.slot_zip_iter (aBB F.slot_zip_iter x.type F.entry_zip_iter ?_ (F.args_zip_iter_1 _));show aA _ _ (ret<|.ref z) _ _ l;exact aAb ⟨_,rfl, "zip",_,x.type,aEb.lookup,q⟩
 .unfold aCL;refine aAa (aBC x.type LQ ?_);show aA _ _ (specialOf (aDJ z) (aDz "__length_hint__")>>=_) _ _ _;exact aAa (aBC x.type EK<|aAb q)
 .refine UJ (by simpa using r) D t u s.heap.objs.size (λh=>lt _ h rfl) .none s.heap Y.size 0 _ #[] c (by lia) (aAX _) (λb o _ e=>p b o e) aw hS ⟨rfl,λj v h=>by simp at h⟩ λh' jl c' kp jd hP=>hR _ (y h' jl c' (λb o d e=>kp b o ?_ (p b o e)) jd hP);have:=aAn (aAg e);simp only[aAd,aAW,or_false,not_or]at d⊢;exact⟨d.1,d.2.1,d.2.2.1,d.2.2.2,this⟩
def KQ:typeLookup (.type "list_reverseiterator") "__len__"=pure none:=by rw[aDA,aCv];kernel_rfl
def ON:typeLookup (.type "list_reverseiterator") "__length_hint__"=pure (some (.builtin "list_reverseiterator.__length_hint__")):=by rw[aDA,aCv];kernel_rfl
def OB {Q:G0}(C:A.handled=none)(H:l≠r)(I:Y.size<=sizeLine)(p:s.heap.IsRevIter r l ((Y.size:Int)-1))(t:s.heap.IsList l Y)(J:∀h' tk c,(∀b o,b≠r->s.heap.get? b=some o->h'.get? b=some o)->h'.get? s.heap.objs.size=some {cls:=.type "list",dict:=none,data:=.seq Y.reverse c,slots:=#[]}->Q (.ref s.heap.objs.size) {s with heap:=h',toks:=tk}):
  aA (be prog w) A (call (.type "list") [.ref r]) Q E s:=by
 have j:r≠s.heap.objs.size:=by obtain⟨o,g,_⟩:=p;exact aAn (aAg g)
 have u:l≠s.heap.objs.size:=by obtain⟨o,g,_⟩:=t;exact aAn (aAg g)
 refine dN (T:= "list_reverseiterator") (room:=false) (λh=>h.IsRevIter r l ((Y.size:Int)-1)/\h.IsList l Y) (λv h=>h.1.typeIs) (λh h' x k=>⟨x.1.at λo e=>k r o j e,x.2.at λo e=>k l o u e⟩) j (by decide) (by decide)
  (λL N=>by rw[h9 (by decide)];exact N rfl) (λv Q E x q=>wpAny_pyIter_revIter x.1 q) (λv Q E x q=>?_) ⟨p,t⟩ λL c R O aw U hR=>?_
 .have m:=x.1.typeIs;unfold aCL;refine aAa (aBC m KQ ?_);show aA _ _ (specialOf (aDJ r) (aDz "__length_hint__")>>=_) _ _ _;refine aAa (aBC m ON ?_)
  (generalize hid:("list_reverseiterator.__length_hint__":String)=a;(fail_if_success (clear hid a));wp_delta;rw[show splitId a=some ("list_reverseiterator", "__length_hint__")from by subst hid;decide+kernel];subst hid)
  refine aAa (aDQ (b:=true) m (by rw[aFc];kernel_rfl) ?_);exact aAb q
 .have W:=(Walks.listRev (prog:=prog) (w:=w) (A:=A.in1.in1) (by simp[C]) r l H Y).toS;refine codeAny_extend_loopS W I s.heap.objs.size (by simp only[aAd,aAW,or_false,not_or];exact⟨aCa j,aCa u⟩) .none Y.size 0 _ #[] c (by lia) (aAX _) ⟨aAX _,by simpa using aw.1,aw.2⟩ U (ItemsOf.nil _) λd y c' f jd n=>hR _ ?_;have ea:y=Y.reverse:=by
   apply Array.ext';apply aFk;intro i;rw[aAE,aAE];by_cases z:i<Y.size
   .have B:i<y.size:=by rw[n.1];exact z
    have:=n.2 i _ (aAM B);rw[aAM B,Array.getElem?_reverse z,this]
   .rw[aCP (by rw[n.1];lia),aCP (by simp;lia)]
  subst ea;have g0:d.gens=s.gens:=f.gens;have d0:d.drawn=s.drawn:=f.drawn;have o0:d.os=s.os:=f.os;obtain⟨h',g',d',yc,os'⟩:=d;subst g0 d0 o0;refine J h' yc c' (λb o hb e=>?_) jd;exact f.heap b o (by simp only[aAd,aAW,or_false,not_or];exact⟨aAn (aAg e),hb⟩) (O b o e)
end
end SZ
namespace DL
open PySem PySem.Spec L2
open PyProof.Rows hiding St
section
variable [Tabs]
section
def a2c:D->R (List D)
 |.lst Y=>.ok Y.reverse
 |_=>.bad
def ER (ha:PB X e f)(hh:X.calm=true)(hg:Gl X "reversed":=by rfl)(hm:X.mg "reversed"=none:=by assumption)(A:Gl X "list":=by rfl)(ji:X.mg "list"=none:=by assumption)(hv:de "reversed"=some (.type "reversed"):=by decide+kernel)(B:de "list"=some (.type "list"):=by decide+kernel)(Y:ba [e] X.env=(false,dm e X.env)::ba [] X.env:=by rfl)(bp:(cy j (ba [] X.env)).any (·.1)=false:=by rfl)(ml:ba [.Call (.Name "reversed" C) [e] [] j] X.env=(false,dm (.Call (.Name "reversed" C) [e] [] j) X.env)::ba [] X.env:=by rfl)(wu:(cy i (ba [] X.env)).any (·.1)=false:=by rfl)(J:cy i (ba [] X.env)=[]:=by rfl):
  PF X (.Call (.Name "list" p) [.Call (.Name "reversed" C) [e] [] j] [] i) (λρ=>(f ρ).bind a2c):=by
 refine zR λk s σ H Q I H9 O0 O ρ E q=>?_;dsimp only at q;refine aBi (X6 I A ji B ?_ (by decide) (by decide));refine aBu ?_ ml wu;rw[ml];show aA _ _ (spliced ((false,dm (.Call (.Name "reversed" C) [e] [] j) X.env)::cy i (ba [] X.env))) _ _ s;refine aEX (aBi (X6 I hg hm hv ?_ (by decide) (by decide)));have om:PA X [e] _:=R0 ha dR Y;refine aBu (J7 (om j k s σ H (λL l=>∃v m,L=[v]/\f ρ=.ok (.lst m)/\Same H l/\D2 X.K l O v (.lst m)) I ⟨H9,O0,O,ρ,E,?_⟩) λy h z9=>?_) Y bp
 .cases N:f ρ with
  |ex z=>rw[N]at q;exact q
  |bad=>rw[N]at q;exact q.elim
  |ok d=>
   rw[N,R.aa0]at q;cases d with
   |lst m=>exactλv l h T=>⟨v,m,rfl,rfl,h,T⟩
   |_=>exact aAm q
 .obtain⟨L,l,n,T,v,m,ev,ef,sm,rb⟩:=z9;subst ev;rw[ef,R.aa0]at q;obtain⟨a,U,rfl,hS,rr⟩:=rb.aa6;obtain⟨u,rfl,ru⟩:=vals1 T;cases ru;obtain⟨g,rv,⟨oL,nL,gL,cL,dL,sL⟩,zL⟩:=n.list hS;have hl:h.heap.IsList a g.toArray:=⟨oL,gL,cL,nL,sL⟩;refine call_reversed_list hl ?_;rw[J];refine aFn ?_;have ge:a≠h.heap.objs.size:=aAn (aAg gL);have I2:=n.kept (h':=h.heap.push (revObj a<|(g.toArray.size:Int)-1)) (t':=h.toks) λb u e=>aAc _ e;refine SZ.OB (s:={h with heap:=h.heap.push (revObj a<|(g.toArray.size:Int)-1)}) (n.ok.hd hh) ge (by rw[aAq,<-rv.length];exact zL) ⟨_,aAr _ rfl,rfl,rfl⟩ (hl.push _) λh' tk c kp gl=>?_;have kk:∀b u,h.heap.get? b=some u->h'.get? b=some u:=λb u e=>kp b u (aAn<|aAg e) (aAc _ e);have w:h.heap.objs.size<=(h.heap.push<|revObj a<|(g.toArray.size:Int)-1).objs.size:=by rw[aBH];lia
  have x:p5 U.reverse g.reverse:=by
   have:∀{L:List V} {y:List ao},p5 L y->p5 L.reverse y.reverse:=λ{L y} r=>by
    induction r with
    |nil=>exact .nil
    |cons r t ih=>rw[aAO,aAO];exact ih.append (.cons r .nil)
   exact this rv
  have I3:=n.laid (a:=(h.heap.push<|revObj a<|(g.toArray.size:Int)-1).objs.size) (o:=.lst U.reverse) (h':=h') (t':=tk) kk w ⟨by rw[aCM];exact zL,g.reverse,c,x,by rw[gl];simp⟩;exact⟨.ref _,_,I3,rfl,q U.reverse l _ sm (n.hok.fresh w) rr.reverse⟩
def _root_.L2.Inv.ad8 (I:Inv X d σ H s)(k:∀b u,s.heap.get? b=some u->h'.get? b=some u)(a:Same H Hn)(f:∀b u,H b=none->Hn b=some u->s.heap.get? b=none/\ObjOk X.prog X.w Hn h' b u):
  Inv X d σ Hn {s with heap:=h',toks:=t'}:=by
 refine I.un ⟨λb o e _ _ _=>k b o e,λb o e _ _ _=>⟨o.slots,k b o e⟩,λb o e n _=>?_,λb o e _=>⟨o,k b o e⟩,λb Y e=>a _ _ e,λb o u e=>a _ _ e,λb h e=>a _ _ e⟩ λb u e=>?_
 .cases q:Hn b with
  |none=>rfl
  |some u=>rw[(f b u n q).1]at e;cases e
 .cases q:H b with
  |none=>exact(f b u q e).2
  |some g=>have:=a b g q;rw[e]at this;cases this;exact(I.hok b u q).ac1 (λc v _ z=>k c v z) (λc z=>a _ _ z) λc u _ z=>a _ _ z
def lZ (Y N:List D):List D:=List.zipWith (λa b=>D.tup [a,b]) Y N
def ZF:List D->R (List D)
 |[.lst Y,.lst N]=>if Y.length=N.length then .ok (lZ Y N)else .bad
 |_=>.bad
def LX {K:iu}{i:Hp}{O:bb->Prop}{h0 h':cq}{l:bb}(hf:∀b,h0.get? b=none->i b=none):∀{Y N:List D} {m p B:List ao},B0 K i O m Y->B0 K i O p N->Y.length=N.length->
  (∀(j:Nat) (v:ao),B[j]?=some v->∃T x y,v=.ref T/\m[j]?=some x/\p[j]?=some y/\ff h' T x y/\T≠l/\h0.get? T=none)->B.length=Y.length->
  ∃(L:List V) (Hn:Hp),p5 L B/\Same i Hn/\(∀b u,i b=none->Hn b=some u->h0.get? b=none/\b≠l/\∃ws e,u=.tup ws/\ws.length<=2/\p5 ws e/\IsTup h' b e.toArray)/\Reps K Hn O L (lZ Y N):=by
 intro Y N m p B;induction B generalizing Y N m p with
 |nil=>
  intro s t z _ A;cases Y with
  |nil=>cases N with
   |nil=>exact⟨[],i,.nil,Same.refl _,λb u n q=>(by rw[n]at q;cases q),.nil⟩
   |cons _ _=>cases z
  |cons _ _=>cases A
 |cons v B ih=>
  intro s t z hP A;cases s with
  |nil=>cases A
  |@cons u d m Y rx s=>
   cases t with
   |nil=>cases z
   |@cons J d' p N ry t=>
    obtain⟨T,x,y,rfl,ex,ey,hp,nl,r⟩:=hP 0 v rfl;cases ex;cases ey;obtain⟨L,Hn,r1,k,Q,rr⟩:=ih s t (by simpa using z) (λj v hj=>by obtain⟨T,x,y,e1,U,e3,e4⟩:=hP (j+1) v (by simpa using hj);exact⟨T,x,y,e1,by simpa using U,by simpa using e3,e4⟩) (by simpa using A)
    obtain⟨C,rvx,f⟩:=rx;obtain⟨E,rvy,h⟩:=ry;have v2:p5 [C,E] [u,J]:=.cons rvx (.cons rvy .nil);cases q:Hn T with
    |none=>
     have H:Same Hn (upd Hn T<|.tup [C,E]):=m8 q _;refine⟨.ref T::L,upd Hn T (.tup [C,E]),.cons rfl r1,k.trans H,λb w n I=>?_,.cons (.tup (Y8.of l4) (.cons ((f.same k).same H) (.cons ((h.same k).same H) .nil))) (rr.same H)⟩;by_cases hb:b=T
     .subst hb;rw[l4]at I;cases I;exact⟨r,nl,_,_,rfl,by simp,v2,⟨_,hp,rfl,0,rfl⟩⟩
     .rw[m9 hb]at I;exact Q b w n I
    |some w=>
     obtain⟨_,_,ws,e,rfl,_,vw,⟨o,g,_,n,dd⟩⟩:=Q T w (hf T r) q;have hp':h'.get? T=some {cls:=.type "tuple",data:=.seq #[u,J]}:=hp;rw[hp']at g;cases g;have U:e=[u,J]:=by have:=ip (λd=>match d with|Data.seq a _=>a.toList|_=>[]) dd;simpa using this.symm
     subst U;have:ws=[C,E]:=vw.inj v2;subst this;exact⟨.ref T::L,Hn,.cons rfl r1,k,Q,.cons (.tup (Y8.of q) (.cons (f.same k) (.cons (h.same k) .nil))) rr⟩
def DM {e1 e2:cu}{p p2 A:Pos}{C J:Ev->R D}(ha1:PB X e1 C)(ha2:PB X e2 J)(hh:X.calm=true)(hg:Gl X "zip":=by rfl)(hm:X.mg "zip"=none:=by assumption)(hg2:Gl X "list":=by rfl)(ji:X.mg "list"=none:=by assumption)
  (hv:de "zip"=some (.type "zip"):=by decide+kernel) (hv2:de "list"=some (.type "list"):=by decide+kernel)
  (he1:ba [e2] X.env=(false,dm e2 X.env)::ba [] X.env:=by rfl) (he:ba [e1,e2] X.env=(false,dm e1 X.env)::ba [e2] X.env:=by rfl) (bp:(cy A (ba [e2] X.env)).any (·.1)=false:=by rfl)
  (ml:ba [.Call (.Name "zip" p2) [e1,e2] [] A] X.env=(false,dm (.Call (.Name "zip" p2) [e1,e2] [] A) X.env)::ba [] X.env:=by rfl) (wu:(cy k (ba [] X.env)).any (·.1)=false:=by rfl) (hnl:cy k (ba [] X.env)=[]:=by rfl):
  PF X (.Call (.Name "list" p) [.Call (.Name "zip" p2) [e1,e2] [] A] [] k) (λρ=>(t4 C (t4 J V2) ρ).bind ZF):=by
 refine zR λU s σ H Q I H9 O0 O ρ E q=>?_;dsimp only at q;refine aBi (X6 I hg2 ji hv2 ?_ (by decide) (by decide));refine aBu ?_ ml wu;rw[ml];show aA _ _ (spliced ((false,dm (.Call (.Name "zip" p2) [e1,e2] [] A) X.env)::cy k (ba [] X.env))) _ _ s;refine aEX (aBi (X6 I hg hm hv ?_ (by decide) (by decide)));have om:tw X [e1,e2] (t4 C<|t4 J V2):=A4 ha1 (A4 ha2 G8 he1) he;refine aBu (J7 (om A U s σ H (λL i=>∃v1 v2 Y N,L=[v1,v2]/\t4 C (t4 J V2) ρ=.ok [.lst Y,.lst N]/\Y.length=N.length/\Same H i/\D2 X.K i O v1 (.lst Y)/\D2 X.K i O v2 (.lst N)) I ⟨H9,O0,O,ρ,E,?_⟩) λus d z9=>?_) he bp
 .cases e1:t4 C (t4 J V2) ρ with
  |ex z=>rw[e1]at q;exact q
  |bad=>rw[e1]at q;exact q.elim
  |ok ds=>
   rw[e1,R.aa0]at q;match ds,q with
   |[.lst Y,.lst N],q=>
    simp only[ZF]at q;by_cases hc:Y.length=N.length
    .intro L i d m;cases m with
     |cons ra m=>cases m with
      |cons rb m=>cases m with
       |nil=>exact⟨_,_,Y,N,rfl,rfl,hc,d,ra,rb⟩
    .rw[h9 hc]at q;exact aAm q
 .obtain⟨L,i,I1,m,v1,v2,Y,N,ev,ef,r,sm,rb1,rb2⟩:=z9;subst ev;rw[ef,R.aa0]at q;simp only[ZF]at q;rw[hV r]at q;obtain⟨a,wx,rfl,hSx,rx⟩:=rb1.aa6;obtain⟨b,wy,rfl,hSy,ry⟩:=rb2.aa6;obtain⟨u1,u2,rfl,ru1,ru2⟩:=vals2 m;cases ru1;cases ru2;obtain⟨t,f,⟨oX,nX,gX,cX,dX,sX⟩,zX⟩:=I1.list hSx;obtain⟨w,rvy,⟨oY,nY,gY,cY,dY,sY⟩,zY⟩:=I1.list hSy;have hlx:d.heap.IsList a t.toArray:=⟨oX,gX,cX,nX,sX⟩;have hly:d.heap.IsList b w.toArray:=⟨oY,gY,cY,nY,sY⟩;refine call_zip_2 hlx hly λg z1 z2 z3 z4 z5 zsz k1=>?_;rw[hnl];refine aFn ?_;have lx:t.length=Y.length:=by rw[<-f.length,rx.length]
  have ly:w.length=N.length:=by rw[<-rvy.length,ry.length]
  have I2:=I1.kept (h':=g) (t':=d.toks) k1;have D:=zipApart_new (n:=d.heap.objs.size) (aAg gX) (aAg gY);refine SZ.OC (s:={d with heap:=g}) (I1.ok.hd hh) D (by rw[aAq,aAq,lx,ly,r]) (by rw[aAq,<-f.length];exact zX) ⟨⟨_,_,z1,.inl rfl⟩,z2,⟨_,_,z3⟩,z4,z5,hlx.at λo e=>k1 _ o e,hly.at λo e=>k1 _ o e⟩ λh' B c kp gl hP=>?_;have k12:∀b u,d.heap.get? b=some u->h'.get? b=some u:=λb u e=>kp b u (by have h:=aAg e;simp only[aAd,aAW,or_false,not_or];exact⟨aAn (aAv h<|aDP _ _),aAn (aAv h<|aDP _ _),aAn h,aAn (aAv h<|aDP _ _)⟩) (k1 b u e)
  have sx:B0 X.K i O t Y:=B0.of f rx;have sy:B0 X.K i O w N:=B0.of rvy ry;obtain⟨L,Hn,rva,smn,me,rr⟩:=LX (h0:=g) (h':=h') (l:=g.objs.size) (λb h=>by
   cases q:i b with
   |none=>rfl
   |some u=>exact absurd h ((I2.hok b u q).live)) (B:=B.toList) sx sy r (λj v hj=>by
   obtain⟨T,x,y,e1,e2,e3,e4,e5,e6⟩:=hP.2 j v (by rw[<-aAE];exact hj);exact⟨T,x,y,e1,by simpa using e2,by simpa using e3,e4,λz=>e5 (by simp[z]),e6⟩) (by rw[aBk,hP.1,aAq,lx])
  have hls:Hn g.objs.size=none:=by
   cases q:Hn g.objs.size with
   |none=>rfl
   |some u=>have:=(me _ u (I2.hok.fresh<|aAj _) q).2.1;exact absurd rfl this
  have hlen:L.length<=sizeLine:=by rw[rva.length,aBk,hP.1,aAq,<-f.length];exact zX
  have s3:Same Hn (upd Hn g.objs.size<|.lst L):=m8 hls _;have I3:=I1.ad8 (Hn:=upd Hn g.objs.size (.lst L)) (h':=h') (t':=d.toks) k12 (smn.trans s3) (λb u n qb=>by
   by_cases h:b=g.objs.size
   .subst h;rw[l4]at qb;cases qb;refine⟨aEt (by rw[zsz];lia),hlen,B.toList,c,rva,by rw[gl]⟩
   .rw[m9 h]at qb;obtain⟨h0b,_,ws,its,rfl,l2,vw,tt⟩:=me b u n qb;refine⟨?_,aAl l2 (by decide),its,vw,tt⟩;cases z:d.heap.get? b with
    |none=>rfl
    |some o=>rw[k1 b o z]at h0b;cases h0b)
  exact⟨.ref _,_,I3,rfl,q L Hn _ (sm.trans smn) hls rr⟩
end
mutual
def lX:D->Nat
 |.tup Y=>L7 Y+1
 |_=>1
def L7:List D->Nat
 |[]=>0
 |x::Y=>lX x+L7 Y
end
theorem cS:∀Y N:List D,L7 (Y++N)=L7 Y+L7 N
 |[],N=>by simp[L7]
 |x::Y,N=>by rw[aAG,L7,L7,cS Y N];lia
section
variable{prog:bt} {w:cp}
def PHe (prog:bt)(w:cp)(h:cq)(v:ao)(d:D):Prop:=∀(A:cf) (E:G0) (s:a9) (Q:Int->a9->Prop),s.heap=h->A.units+8*J0 d<cz->Q (q8 d) {s with toks:=s.toks+lX d}->aA (be prog w) A (pyHash v) Q E s
mutual
theorem QZ:∀{v:ao} {d:D},HV h v d->PHe prog w h v d
 |_,_,.int i t=>λA E s Q C H q=>(intKind prog w).pyHash (k:=i) (intKind_is _ _ _ _) q
 |_,_,.tup (a:=a) (items:=items) (ds:=ds) p r=>λA E s Q C H q=>by
  have fs:=HU r;subst C;obtain⟨o,I,N,n,O⟩:=p;have l:s.TypeIs (.ref a) "tuple":=⟨o,I,N⟩;have y:A.units<cz:=by lia
  rw[J0]at H;unfold pyHash;first|unfold pyHashByItsType|skip
  first|refine aAa (wpAny_cRoomFor_or (.inr y) ?_)|skip
  refine aAa (aBC l PySem.F.slot_tuple_hash.lookup ?_);show aA _ _ (if(some (aGq "tuple.__hash__")==some Value.none)=true then _ else _) Q E s;rw[h9 (by rw[aFC];exact aBc)];refine aAa (aBC l PySem.F.slot_tuple_hash.lookup ?_);show aA _ _ (callSpecialIfBoundUnlessNone? (.ref a) "__hash__" _>>=_) Q E s;refine aAa (aDs l PySem.F.slot_tuple_hash<|aBB PySem.F.slot_tuple_hash l PySem.F.entry_tuple_hash ?_ (PySem.F.args_tuple_hash_1 _));show aA _ _ (aDG (.ref a)>>=_) _ _ s;refine aAa (wpAny_tupleItemsOf I O ?_);refine aAa ?_;rw[<-aCy];refine aCA _
   (λrest (b:Array Int) z=>∃done left,ds=done++left/\Paired (PHe prog w s.heap) rest left/\b.toList=done.map q8/\z={s with toks:=s.toks+L7 done})
   _ ?_ ?_ _ _ ⟨[],ds,rfl,fs,rfl,rfl⟩
  .rintro x rest b z ⟨done,left,f,B,m,rfl⟩;cases B with
   |@cons _ d _ e T J=>
    refine aAa (T _ _ _ _ rfl ?_ ?_)
    .have:J0 d<=N1 ds:=by rw[f];exact wI (j:=done.length) (by simp)
     rw[x5];lia
    have L:s.toks+L7 done+lX d=s.toks+L7 (done++[d]):=by rw[cS];simp[L7];lia
    first
     |exact aAb ⟨done++[d],e,by simp[f],J,by simp[m],by rw[<-L]⟩
     |exact aAa (aAb (aAb ⟨done++[d],e,by simp[f],J,by simp[m],by rw[<-L]⟩))
  .rintro b z ⟨done,left,f,B,m,rfl⟩;cases B;rw[aCs]at f;subst f;show aA _ _ (retInt<|aAT b.toList) _ _ _;rw[m];refine wpAny_ret_mkInt ?_;show aA _ _ (if(decide (-(2:Int)^63<=aAT (ds.map q8))&&decide (aAT (ds.map q8)<2^63))=true then _ else _) Q E _;have g:=q;rw[q8,iG,lX]at g;unfold reduceHash at g;by_cases u:(decide (-(2:Int)^63<=aAT (ds.map q8))&&decide (aAT (ds.map q8)<2^63))=true
   .rw[hV u];rw[hV u]at g;exact aAb g
   .rw[h9 u];rw[h9 u]at g;exact aAa (aDC<|aAb g)
theorem HU:∀{v:List ao} {d:List D},HVs h v d->Paired (PHe prog w h) v d
 |_,_,.nil=>.nil
 |_,_,.cons r t=>.cons (QZ r) (HU t)
end
end
theorem oP:∀{n:Nat} {d:D},T0 n d=true->qF d=true/\J0 d<=n
 |n,.int i,_=>⟨rfl,by simp[J0]⟩
 |0,.tup Y,h=>by simp[T0]at h
 |n+1,.tup Y,h=>by
  have f:Y.all (T0 n)=true:=by simpa[T0]using h
  have a:∀N:List D,N.all (T0 n)=true->gD N=true/\N1 N<=n:=λN=>by
   induction N with
   |nil=>intro _;exact⟨rfl,aAX _⟩
   |cons y N g=>intro e;simp only[aGp,aAQ]at e;obtain⟨j,m⟩:=oP e.1;obtain⟨k,o⟩:=g e.2;exact⟨by show(qF y&&gD N)=true;rw[j,k];rfl,by show max (J0 y) (N1 N)<=n;lia⟩
  obtain⟨l,p⟩:=a Y f;exact⟨l,by show N1 Y+1<=n+1;lia⟩
 |n,.non,h=>by cases n<;>simp[T0]at h
 |n,.dct,h=>by cases n<;>simp[T0]at h
 |n,.bl b,h=>by cases n<;>simp[T0]at h
 |n,.str x,h=>by cases n<;>simp[T0]at h
 |n,.lst Y,h=>by cases n<;>simp[T0]at h
mutual
theorem HV.ab9 (k:∀b o,h.get? b=some o->(∃a n,o.data=.seq a n)->h'.get? b=some o):∀{v:ao} {d:D},HV h v d->HV h' v d
 |_,_,.int i t=>.int i t
 |_,_,.tup p r=>.tup (by obtain⟨o,e,c,n,d⟩:=p;exact⟨o,k _ _ e ⟨_,n,d⟩,c,n,d⟩) (HVs.ab9 k r)
theorem HVs.ab9 (k:∀b o,h.get? b=some o->(∃a n,o.data=.seq a n)->h'.get? b=some o):∀{v:List ao} {d:List D},HVs h v d->HVs h' v d
 |_,_,.nil=>.nil
 |_,_,.cons r t=>.cons (HV.ab9 k r) (HVs.ab9 k t)
end
instance decD:DecidableEq D:=λa b=>aEa _
def uX (prog:bt) (w:cp):HeapKind prog w D where
 is:=λh d a=>HV h (.ref a) d/\J0 d<8
 hash:=q8
 draws:=lX
 room:=λA=>A.units+128<cz
 inj:=λx y=>HV.inj x.1 y.1
 keeps:=λ{h u k a d o v B} x j l m=>⟨x.1.ab9<|by rintro b C e ⟨p,n,q⟩;exact(m.2 b (λz=>by subst z;rw[j]at e;cases e;rw[l]at q;cases q)).trans e,x.2⟩
 pyHash:=λ{A E s k a Q} r f q=>QZ f.1 A E s Q rfl (by have:=f.2;lia) q
 eqBool:=λ{A E s x y a b Q} r g i q=>by
  have t:=HA (A:=A) g.1 i.1 (by have:=g.2;lia);refine t prog w E Q ?_;have e:y6 x y=decide (x=y):=by
   by_cases h:x=y
   .subst h;rw[X5,decide_eq_true rfl]
   .rw[decide_eq_false h];cases z:y6 x y with
    |false=>rfl
    |true=>exact absurd (kL g.1.ok i.1.ok z) h
  rw[e];exact q
 quiet:=λ{A E s k a Q} f q=>jJ 8 f.1 f.2 _ A E s Q rfl q
open Classical in
def gG (J:List (D×D)) (k v:D):List (D×D):=if k∈J.map (·.1)then J.map (λp=>if p.1=k then(p.1,v)else p)else J++[(k,v)]
def KS (J:List (D×D))(k v:D)(h:(J.map (·.1)).Nodup):((gG J k v).map (·.1)).Nodup:=by
 unfold gG;split
 .rw[aAV];have:((λx=>x.1)∘λp:D×D=>if p.1=k then(p.1,v)else p)=λp=>p.1:=by funext p;simp only[aGs];split<;>rfl
  rw[this];exact h
 .rename_i n;rw[aBA,aCX];refine⟨h,by simp,λa f b d=>?_⟩;simp at d;subst d;exactλe=>n (e▸f)
section
theorem JE (I:Inv X d σ H s):∀{es:List DictEntry} {J:List (D×D)},qU X.K H O es J->∃Y:List (D×bb×ao),es=Y.map (entryOfKey (uX X.prog X.w))/\Y.map (·.1)=J.map (·.1)/\(∀x∈Y,(uX X.prog X.w).is s.heap x.1 x.2.1)/\
  Paired (λ(x:D×bb×ao) (p:D×D)=>x.1=p.1/\Rep X.K H O (.ref x.2.1) p.1/\(∃v,RelV v x.2.2/\Rep X.K H O v p.2)/\T0 7 p.1=true) Y J
 |_,_,.nil=>⟨[],rfl,rfl,λx h=>(by cases h),.nil⟩
 |e::_,p::_,.cons ⟨⟨a,f,g⟩,j,i,k⟩ t=>by
  obtain⟨Y,l,m,n,o⟩:=JE I t;obtain⟨ok,r⟩:=oP k;refine⟨(p.1,a,e.val)::Y,?_,by rw[aAi,aAi,m],λx b=>?_,.cons ⟨rfl,g,j,k⟩ o⟩
  .rw[aAi,<-l];congr 1;obtain⟨q,u,y⟩:=e;simp only at f i;subst f i;rfl
  .rcases aAd.mp b with rfl|b
   .exact⟨eS I g ok rfl,by show J0 p.1<8;lia⟩
   .exact n x b
theorem GO {P:bt}{w:cp}{K:iu}{H:Hp}{O:bb->Prop}:∀{Y:List (D×bb×ao)} {J:List (D×D)},Paired (λ(x:D×bb×ao) (p:D×D)=>x.1=p.1/\Rep K H O (.ref x.2.1) p.1/\(∃v,RelV v x.2.2/\Rep K H O v p.2)/\T0 7 p.1=true) Y J->qU K H O (Y.map (entryOfKey (uX P w))) J
 |_,_,.nil=>.nil
 |_,_,.cons ⟨e,a,b,k⟩ t=>.cons ⟨⟨_,rfl,a⟩,b,by rw[<-e];rfl,k⟩ (GO t)
def bL {Y:List (D×bb×ao)}{k:D}:(atKey Y k).isSome=true↔k∈Y.map (·.1):=by unfold atKey;rw[Option.isSome_map,List.find?_isSome];simp only[decide_eq_true_eq,aAk]
def IA (I:Inv X b σ H s)(h:H a=some (.ext λh=>h.get? a=some o))(d:SS a o es)(r:qU X.K H O es J)(f:(J.map (·.1)).Nodup):
  ∃Y,s.heap.DictOfH (uX X.prog X.w) a Y/\Y.map (·.1)=J.map (·.1)/\Paired (λ(x:D×bb×ao) (p:D×D)=>x.1=p.1/\Rep X.K H O (.ref x.2.1) p.1/\(∃v,RelV v x.2.2/\Rep X.K H O v p.2)/\T0 7 p.1=true) Y J:=by
 obtain⟨Y,i,e,j,k⟩:=JE I r;obtain⟨_,l,m,n,q,t⟩:=d;have g:s.heap.get? a=some o:=(I.hok a _ h).1;exact⟨Y,⟨o,m,n,g,l,q,by rw[t,i],j,by rw[e];exact f⟩,e,k⟩
def LK {K:iu}{Y:List (D×bb×ao)}{J:List (D×D)}{k d:D}{b:bb}{u:ao}{v:V}(g:Paired (λ(x:D×bb×ao) (p:D×D)=>x.1=p.1/\Rep K H O (.ref x.2.1) p.1/\(∃v,RelV v x.2.2/\Rep K H O v p.2)/\T0 7 p.1=true) Y J)(a:Y.map (·.1)=J.map (·.1))
  (l:Rep K H O (.ref b) k) (kk:T0 7 k=true) (i:RelV v u) (j:Rep K H O v d):
  Paired (λ(x:D×bb×ao) (p:D×D)=>x.1=p.1/\Rep K H O (.ref x.2.1) p.1/\(∃v,RelV v x.2.2/\Rep K H O v p.2)/\T0 7 p.1=true) (storedH Y k b u) (gG J k d):=by
 unfold storedH gG;by_cases h:k∈J.map (·.1)
 .rw[hV h,hV (bL.mpr (by rw[a];exact h))];clear a h;induction g with
  |nil=>exact .nil
  |@cons x p Y J r t f=>
   rw[aAi,aAi];refine .cons ?_ f;unfold putAt;by_cases e:p.1=k
   .rw[hV (r.1.trans e),hV e];exact⟨r.1,r.2.1,⟨v,i,j⟩,r.2.2.2⟩
   .rw[h9 (λz=>e (r.1.symm.trans z)),h9 e];exact r
 .rw[h9 h,h9 (λz=>h (by rw[<-a];exact bL.mp z))];clear a h;induction g with
  |nil=>exact .cons ⟨rfl,l,⟨v,i,j⟩,kk⟩ .nil
  |cons r t f=>exact .cons r f
end
section
variable{K:Type} [DecidableEq K] {knd:HeapKind prog w K}
def sR {Q:BL}(g:knd.room A.in1)(b:knd.is s.heap k a)(i:(d==sysModules)=false)(e:s.heap.DictOfH knd d Y)
  (h:Q (atKey Y k).isSome {s with toks:=s.toks+knd.draws k}):aA (be prog w) A (contains (.ref d) (.ref a)) Q E s:=by
 unfold contains;try with_reducible refine aAY ?_
 refine aAa (aBC e.typeIs aFa.lookup ?_);show aA _ _ (if(some (aGq "dict.__contains__")==some Value.none)=true then _ else _) _ E s;rw[h9 (by rw[aFC];exact aBc)];refine aAa (wpAny_callSpecialUnlessNone?_slot (name:=aDz "__contains__") e.typeIs aFa
  (aBB aFa e.typeIs entry_dict_contains ?_ (args_dict_contains _ _)))
 show aA _ _ (dictGet d (.ref a)>>=_) _ _ s;refine aAa (wpAny_dictGet_heap g b e ?_);cases f:atKey Y k with
 |some p=>rw[f]at h;show aA _ _ (ret<|.bool true) _ _ _;exact aAb ⟨_,rfl,aBO h⟩
 |none=>rw[f]at h;show aA _ _ (Builtin.Dict.pendingKey? d (.ref a)>>=_) _ _ _;exact aAa (wpAny_pendingKey_other i<|aAb ⟨_,rfl,aBO h⟩)
end
def KA:D->Bool
 |.tup _=>true
 |_=>false
open Classical in
def qL (i:Nat) (ρ:Ev) (k:D):R Bool:=match ρ[i]? with
 |some (.d J)=>if T0 7 k=true/\KA k=true then .ok (!decide (k∈J.map (·.1)))else .bad
 |_=>.bad
section
def pZ {K:iu}{H:Hp}{O:bb->Prop}{v:V}{k:D}(r:Rep K H O v k)(h:KA k=true):∃a,v=.ref a:=by
 cases r with
 |tup h r=>exact⟨_,rfl⟩
 |_=>cases h
def JO (i:Nat){x:Str}{p:Pos}{f:Ev->R D}(ha:PD X e f)(hu:X.A.units+130<cz)(hN:X.N[i]?=some x:=by rfl)(hv:HD X.env.scope x:=by first|exact aDd rfl|exact aCn (aDd rfl)|exact aCn (aCn rfl))
  (hd:(x==ix)=false:=by decide) (ia:(x==i3)=false:=by decide) (hm:gy .NotIn (.Name x p)=false:=by first|rfl|with_unfolding_all rfl):
  MN X (.Compare e [.NotIn] [.Name x p] pos) (λρ=>(f ρ).bind (qL i ρ)):=by
 refine zR λpins s σ H Q I H9 O0 O ρ E q=>?_;dsimp only at q;refine wpAny_isTrue_Compare1 (RT (ta:=tD X f) (tb:=a0i i) ha (W2 hN hv hd ia) (R:=λy x g=>∃a b o l J k,x=.ref a/\y=.ref b/\g a=some (.ext λh=>h.get? a=some o)/\SS a o l/\qU X.K g O l J/\(J.map (·.1)).Nodup/\Rep X.K g O (.ref b) k/\T0 7 k=true/\Q (!(open Classical in decide (k∈J.map (·.1)))) g) I ⟨H9,O0,O,ρ,E,?_⟩ λu w s2 y x g t ry rx h=>?_) hm
 .cases B:f ρ with
  |ex z=>rw[B]at q;exact q
  |bad=>rw[B]at q;exact q.elim
  |ok k=>
   rw[B,R.aa0]at q;intro v H1 sm r;unfold qL at q;cases C:ρ[i]? with
   |none=>rw[C]at q;exact aAm q
   |some sl=>
    rw[C]at q;cases sl with
    |d J=>
     dsimp only at q;by_cases j:T0 7 k=true/\KA k=true
     .rw[hV j]at q;obtain⟨a,o,l,h1,_,_,L,m,T,U⟩:=(E.grow sm).slot i _ C;obtain⟨b,rfl⟩:=pZ r j.2;exact⟨_,h1,a,b,o,l,J,k,rfl,rfl,L,m,T,U,r,j.1,q H1 sm⟩
     .rw[h9 j]at q;exact aAm q
    |_=>exact aAm q
 .obtain⟨a,b,o,l,J,k,rfl,rfl,L,m,T,U,rk,j,qq⟩:=h;cases ry;cases rx;obtain⟨Y,hD,qp,hp⟩:=IA t L m T U;obtain⟨ok,dp⟩:=oP j;show aA _ _ (contains (.ref a) (.ref b)>>=λc=>pure (aDE (!c))) _ _ s2;refine aAa (sR (knd:=uX X.prog X.w) (by show X.A.in1.units+128<cz;rw[x5];lia) ⟨eS t rk ok rfl,by lia⟩ m.1 hD (aAb ?_));refine aBO ⟨g,t.tok _,?_⟩;have e3:(atKey Y k).isSome=(open Classical in decide (k∈J.map (·.1))):=by
   by_cases n:k∈J.map (·.1)
   .rw[decide_eq_true n];exact bL.mpr (by rw[qp];exact n)
   .rw[decide_eq_false n];cases z:(atKey Y k).isSome with
    |false=>rfl
    |true=>exact absurd (by rw[<-qp];exact bL.mp z) n
  rw[e3];exact qq
def QU (i:Nat)(y:X.N.Nodup)(A:X.N[i]?=some x:=by rfl)(B:Loc X.env.scope x:=by first|exact aDd rfl|exact aCn rfl)(C:ek (.Dict [] [] f) (some (.Name x g)) j.line X.env=pure false:=by rfl)(J:X.fn x=true\/X.env.scope.names.lookup x=some .local:=by first|exact .inl rfl|exact .inr rfl|assumption):rP X (.Assign [.Name x g] (.Dict [] [] f) j) (λρ=>.ok (.nx (ρ.set i (.d [])))):=by
 rintro U Y t s σ H D I ⟨O,ρ,E,fk,q⟩;refine aFm (wpAny_Dict_empty ?_) C;have v:(s.heap.push {cls:=.type "dict",data:=.dict #[]}).get? s.heap.objs.size=some {cls:=.type "dict",data:=.dict #[]}:=aAr _ rfl;have l:=I.hok.fresh (aAj s.heap.objs.size);have m:=I.laid (a:=s.heap.objs.size) (o:=.ext λh=>h.get? s.heap.objs.size=some {cls:=.type "dict",data:=.dict #[]}) (h':=s.heap.push {cls:=.type "dict",data:=.dict #[]}) (t':=s.toks) (λ_ _ q=>aAc _ q) (aAj _)
  ⟨v,⟨_,v⟩,λh1 h2 e k=>k _ e⟩
 have L:=QM m (l4 (H:=H) (a:=s.heap.objs.size));have p:sysModules<s.heap.objs.size:=aGC (by decide) (I.mod.glob.keeps I.bk).lt;refine R8 m y A B (show RelV (.ref s.heap.objs.size) _ from rfl) (λs3 Q=>⟨_,_,Q,?_⟩) J;have w:=E.ae3 (u:=.ext λh=>h.get? s.heap.objs.size=some {cls:=.type "dict",data:=.dict #[]}) (sl:=.d []) i l L trivial λT=>⟨s.heap.objs.size,_,[],rfl,.inr rfl,T,l4,⟨by simp[aDy p],⟨rfl,rfl,rfl⟩,#[],0,rfl,rfl⟩,.nil,aDk⟩;exact q _ _ _ w (xT m _ w.trk) λb o r n=>⟨by rw[m9 (u4 r l)];exact r,λz=>z.elim n (u4 r l)⟩
def a4h (X:Cx):YX:=λx y v H Q=>∃O a b o f J k d,x=.ref a/\y=.ref b/\H a=some (.ext λh=>h.get? a=some o)/\SS a o f/\qU X.K H O f J/\(J.map (·.1)).Nodup/\f.length<=sizeLine/\Rep X.K H O (.ref b) k/\T0 7 k=true/\Rep X.K H O v d/\
 ∀g e,SS a g e->qU X.K H O e (gG J k d)->Q (upd H a<|.ext λh=>h.get? a=some g)
def VU (hu:X.A.units+130<cz):a0t X (a4h X):=by
 intro C s σ H x y v ov iv u Q I rx ry ru z;obtain⟨O,a,b,o,es,J,k,d,E,ey,l,m,h6,h7,hz,L,N,rv,q⟩:=z;subst E ey;cases rx;cases ry;obtain⟨Y,T,qp,hp⟩:=IA I l m h6 h7;obtain⟨ok,dp⟩:=oP N;have f:Y.length<=sizeLine:=by
  obtain⟨_,E,ea,ep,hd,he⟩:=m;obtain⟨o2,ko,ep2,U,_,i,ml,_⟩:=T;have g:s.heap.get? a=some o:=(I.hok a _ l).1;rw[g]at U;cases U;rw[hd]at i;cases i;have:=ip aGg (he.symm.trans ml);rw[aAf]at this
  lia
 refine wpAny_setItem_heap (knd:=uX X.prog X.w) (by show X.A.in1.units+128<cz;rw[x5];lia) ⟨eS I L ok rfl,by lia⟩ T (λh' n hs=>?_) f;obtain⟨j,p,r,t,B,pg,xh,is',mr⟩:=n;have I1:=I.write (x:=a) (e:=a) (o:=.ext λh=>h.get? a=some j) (h':=h') (t':=s.toks+lX k) (by rw[l];trivial) (.inl rfl) (λb u hb e=>(hs.2 b hb).trans e) ⟨j,t⟩ ⟨t,⟨j,t⟩,λh1 h2 e k=>k _ e⟩;exact⟨_,I1,q j _ ⟨m.1,B,p,r,pg,rfl⟩ (by rw[xh];exact GO (LK hp qp L N ru rv))⟩
def AU (i:Nat) (ρ:Ev) (k d:D):R Out:=match ρ[i]? with
 |some (.d J)=>if T0 7 k=true/\KA k=true/\J.length<=sizeLine then .ok (.nx (ρ.set i<|.d (gG J k d)))else .bad
 |_=>.bad
def GE (i:Nat){x:Str}{k:cu}{f g:Ev->R D}{p ps:Pos}(he:PD X e f)(j:PD X k g)(hu:X.A.units+130<cz)(hN:X.N[i]?=some x:=by rfl)(hv:HD X.env.scope x:=by first|exact aDd rfl|exact aCn (aDd rfl)|exact aCn (aCn rfl))(hd:(x==ix)=false:=by decide)
  (ia:(x==i3)=false:=by decide) (ha:∀v,gc (.Subscript (.Name x p) k ps) X.env v=(do
   let t<-gk [v] (dm (.Name x p) X.env)
   let B<-gk [v,t] (dm k X.env)
   standAt ps
   gk [v,t,B] (setItem t B v)
   release [v,t,B] []):=by intro _;rfl)
  (hs:gn [.Subscript (.Name x p) k ps] e C.line X.env=pure false:=by rfl) (hw:gv [.Subscript (.Name x p) k ps] e X.env=pure none:=by rfl) (u:(dC [.Subscript (.Name x p) k ps] X.env).map (·.2)=[gc (.Subscript (.Name x p) k ps) X.env]:=by rfl):
  rP X (.Assign [.Subscript (.Name x p) k ps] e C) (λρ=>(f ρ).bind λd=>(g ρ).bind λl=>AU i ρ l d):=λY O0=>
 DK (SU he (fx (W2 hN hv hd ia) j (VU hu) ha) hs hw u) λD σ H O ρ E fk q=>⟨Y,O0,O,ρ,E,by
  cases I:f ρ with
  |ex z=>rw[I]at q;exactλH' s=>q H' (E.same.trans s)
  |bad=>rw[I]at q;exact q
  |ok d=>
   rw[I,R.aa0]at q;intro v H1 s1 r1;have L:=E.grow s1;cases w:g ρ with
   |ex z=>rw[w]at q;exact(q H<|E.same.trans<|Same.refl _).elim
   |bad=>rw[w]at q;exact aAm q
   |ok l=>
    rw[w,R.aa0]at q;unfold AU at q;cases y:ρ[i]? with
    |none=>rw[y]at q;exact aAm q
    |some sl=>
     rw[y]at q;cases sl with
     |d J=>
      dsimp only at q;by_cases j:T0 7 l=true/\KA l=true/\J.length<=sizeLine
      .rw[hV j]at q;obtain⟨a,o,es,u,h2,h3,Q,h5,h6,h7⟩:=L.slot i _ y;refine⟨_,u,Y,O0,O,ρ,L,?_⟩;rw[w];intro kv H2 n r2;have E2:=L.grow n;obtain⟨b,rfl⟩:=pZ r2 j.2.1;have T:qU X.K H2 O es J:=h6.mono λr=>r.same n;refine⟨O,a,b,o,es,J,l,d,rfl,rfl,n _ _ Q,h5,T,h7,by rw[h6.length];exact j.2.2,r2,j.1,r1.same n,λo' U d' r'=>?_⟩;obtain⟨E3,k3⟩:=E2.ad7 (sl':=.d (gG J l d)) (u':=.ext λh=>h.get? a=some o') y trivial u (n _ _ Q) trivial trivial λhO h0 m=>⟨a,o',U,rfl,h2,h3,l4,d',r'.mono λr=>r.upd (n _ _ Q) trivial h2,KS J l d h7⟩;exact q _ _ _ E3 fk (((Kp.of s1).trans (Kp.of n)).trans k3)
      .rw[h9 j]at q;exact aAm q
     |_=>exact aAm q⟩
end
end
section
variable [Tabs]
end
section
variable [Tabs]
section
variable{K:Type} [DecidableEq K] {knd:HeapKind prog w K}
end
section
variable{o e:cu} {es:List cu} {to:TE} {t:TA} {name:Str} {apos ai:Pos} {T id:String} {r:V->List V->Hp->VK->Prop}
end
open Classical in
def atK (J:List (D×D)) (k:D):Option D:=(J.find? λp=>decide (p.1=k)).map (·.2)
section
variable{A:cf} {s:a9} {prog:bt} {w:cp} {E:G0}
end
end
end DL
namespace MM
open PySem
def RV (prog:bt)(w:cp)(A:cf)(op:CmpOp)(d:cq->Prop)(P:Nat->ao->Prop)(e:Nat->Nat->Bool):Prop:=
 ∀i j a b (s:a9) (Q:G0) (E:G0),d s.heap->P i a->P j b->Q (.bool (e i j)) s->aA (be prog w) A (richCompare op a b) Q E s
section
def KN (W:WalksS prog w A.in1 I fp q G n P St){L:cq->Prop}(hH:∀i s,St i s->L s.heap)(m:Nat->Nat->Bool)(xg:RV prog w A.in1 .Lt L P m)(S:bb)(N:S∉fp):
  ∀(k j:Nat) (s:a9) (d:ao) (c:Nat),n-(j+1)=k->j+1<=n->St (j+1) s->P (eY m j) d->
  s.heap.get? S=some {cls:=.type "list",dict:=none,data:=.seq #[d,d] c,slots:=#[]}->
  (∀v s',P (eY m (n-1)) v->Moved (S::q) G s s'->R (.ok (.ret v)) s')->fh (be prog w) A (.builtin "min.loop" ⟨[.ref I,.none,.ref S],[]⟩) R s:=by
 have r:S∉q:=λh=>N (W.sub _ h);have y:∀b∈q,b∈S::q:=λb a=>aAe _ a;have O:(toString "min"++toString ".loop":String)= "min.loop":=by decide
 have Q:∀{b:bb},b∉S::q->S≠b:=λa h=>a (by rw[h];exact aBn);intro k;induction k with
 |zero=>
  intro j s d c hk hj z f t x;have T:j+1=n:=by omega
  refine aBV aFE ?_;rw[aBt aCQ _];show aA _ A.in1 (seqItems? (.ref S)>>=_) _ _ s;refine aAa (aBU t rfl ?_);show aA _ A.in1 (tryCatch (fb<|.ref I) _>>=_) _ _ s;refine aAa (aFd<|W.done s _ _ (T▸z) λs' p=>?_);have u:=p.heap S _ r t;show aA _ A.in1 (gi S (λ_=>#[])>>=_) _ _ _;refine aAa ?_;refine aCg u rfl (aAa<|aEe<|aAb ?_);exact x d _ (by rw[<-T];exact f) ((p.mono y).then_heap (tk:=s'.toks) (aAj _) λb o a e=>(aAI _ _<|Q a).trans e)
 |succ k U=>
  intro j s d c hk hj z f t x;have B:j+1<n:=by omega
  refine aBV aFE ?_;rw[aBt aCQ _];show aA _ A.in1 (seqItems? (.ref S)>>=_) _ _ s;refine aAa (aBU t rfl ?_);show aA _ A.in1 (tryCatch (fb<|.ref I) _>>=_) _ _ s;refine aAa (aFd<|W.item (j+1) s _ _ B z λv s' Y C p=>?_);have u:=p.heap S _ r t;show aA _ A.in1 (tryCatch (gk [v,v]<|richCompare .Lt v d>>=_) _>>=_) _ _ _;refine aAa (aFd<|aAY<|aAa<|xg (j+1) (eY m j) v d _ _ _ (hH _ _ C) Y f ?_);refine aAa (aAY<|aBO ?_);refine aAa (aEe<|aAb ?_);cases a:m (j+1) (eY m j)with
  |true=>
   simp only[if_true];refine aAa ?_;refine aCg u rfl (aAa<|aEe ?_);rw[O];refine aAb ⟨aCd aCQ _,U (j+1) _ v _ (by omega) B (W.frame _ s' _ s'.toks C (aAj _) λb E o e=>?_) (by simp only[eY,a,if_true];exact Y) (aBv _ u rfl)
    λH g l J=>?_⟩
   .exact(aAI _ _ (λh:S=b=>N (by rw[h];exact E))).trans e
   .exact x H g l (aFw W.gtrans ((p.mono y).then_heap (aAj _) λb o a e=>(aAI _ _<|Q a).trans e) J)
  |false=>simp only[aAu,if_false];refine aAa (aEe ?_);rw[O];refine aAb ⟨aCd aCQ _,U (j+1) _ d c (by omega) B C (by simp only[eY,a,aAu,if_false];exact f) u λH g l J=>?_⟩;exact x H g l (aFw W.gtrans (p.mono y) J)
def DT (W:WalksS prog w A.in1 I x a G n P St){p:cq->Prop}(y:∀i s,St i s->p s.heap)(f:Nat->Nat->Bool)(z:RV prog w A.in1 .Lt p P f)(S:bb)(g:S∉x)(q:0<n)(B:St 0 s)(r:s.heap.get? S=some {cls:=.type "list",dict:=none,data:=.seq #[] c,slots:=#[]})(C:∀v s',P (eY f (n-1)) v->Moved (S::a) G s s'->R (.ok (.ret v)) s'):fh (be prog w) A (.builtin "min.loop" ⟨[.ref I,.none,.ref S],[]⟩) R s:=by
 have j:S∉a:=λh=>g (W.sub _ h);have E:∀b∈a,b∈S::a:=λb d=>aAe _ d;have H:(toString "min"++toString ".loop":String)= "min.loop":=by decide
 have J:∀{b:bb},b∉S::a->S≠b:=λd h=>d (by rw[h];exact aBn);refine aBV aFE ?_;rw[aBt aCQ _];show aA _ A.in1 (seqItems? (.ref S)>>=_) _ _ s;refine aAa (aBU r rfl ?_);show aA _ A.in1 (tryCatch (fb<|.ref I) _>>=_) _ _ s;refine aAa (aFd<|W.item 0 s _ _ q B λv s' L N t=>?_);have u:=t.heap S _ j r;show aA _ A.in1 (gi S (λ_=>#[v,v])>>=_) _ _ _;refine aAa ?_;refine aCg u rfl ?_;rw[H];refine aAb ⟨aCd aCQ _,KN W y f z S g _ 0 _ v _ rfl q (W.frame _ s' _ s'.toks N (aAj _) λb k o e=>?_) L (aBv _ u rfl) λO l m Q=>?_⟩
 .exact(aAI _ _ (λh:S=b=>g (by rw[h];exact k))).trans e
 .exact C O l m (aFw W.gtrans ((t.mono E).then_heap (aAj _) λb o d e=>(aAI _ _<|J d).trans e) Q)
def call_minH {E:G0}{Q:G0}(h:aA (be prog w) A.in1 (pyIter x) (λit a=>∃I d g G n P St j f,it=.ref I/\WalksS prog w A.in1 I d g G n P St/\St 0 a/\(∀b∈d,b<a.heap.objs.size)/\0<n/\(∀i s,St i s->j s.heap)/\RV prog w A.in1 .Lt j P f/\
   ∀v s',P (eY f (n-1)) v->Moved g G a s'->Q v s') E s):
  aA (be prog w) A (call (.builtin "min") [x]) Q E s:=by
 have l:(toString "min"++toString ".loop":String)= "min.loop":=by decide
 refine call_function_tree F.kind_min F.plain_min F.entry_min (F.args_min1 _) ?_;show aA _ A.in1 (aEG "min" ["key", "default"] 0 ⟨[],[]⟩>>=_) _ _ s;refine aAa (wpAny_of_eq (show aEG "min" ["key", "default"] 0 ⟨[],[]⟩=pure [none,none]from rfl) ?_);refine aAa (aAb ?_);refine aAa (aCH h (λit a m=>?_) λ_ _ e=>e);obtain⟨I,d,g,G,n,P,St,j,f,rfl,W,p,q,r,t,u,y⟩:=m;refine aAa (aBG ?_);have z:a.heap.objs.size∉d:=λk=>aBs _ (q _ k);rw[l];refine aAb ⟨aCd aCQ _,DT W t f u a.heap.objs.size z r (W.frame 0 a _ a.toks p (aAj _) λb _ o e=>aAc _ e) (aAr _ rfl) λv s' B k=>?_⟩;exact y v s' B (Moved.drop_new (tk:=a.toks) k<|aAj _)
end
def walks_more {P:Nat->ao->Prop}{St:Nat->cq->Prop}(W:Walks prog w A I m j n P St)(more:R4)(q:∀p∈more,p.1∉j):
  Walks prog w A I (m++more.map (·.1)) j n P (λi h=>St i h/\∀p∈more,h.get? p.1=some p.2)where
 sub:=λb f=>aBr _ (W.sub b f)
 frame:=λi h g st k=>⟨W.frame i h g st.1 λb f o e=>k b (aBr _ f) o e,λp a=>k p.1 (aAL _<|aBL a) _ (st.2 p a)⟩
 item:=λi s Q E r st d=>W.item i s Q E r st.1 λv g t u x l=>d v g t u ⟨x,λp a=>l p.1 p.2 (q p a) (st.2 p a)⟩ l
 done:=λs Q E st d=>W.done s Q E st.1 d
 self:=λi s Q E st d=>W.self i s Q E st.1 d
end MM
namespace DL
open PySem PySem.Spec L2
open PyProof.Rows hiding St
section
variable [Tabs]
section
def JI {x:Str}{a:bb}{d:Option bb}{b:Array ao}{n:Nat}{sl:Array (Option ao)}{ns:List Int}(e:X.mg x=some (.ref a))(f:X.K.lookup a=some ⟨.type "tuple",d,.seq b n,sl⟩)(g:p5 (ns.map V.int) b.toList)(hz:b.size<=sizeLine)(h:Gl X x:=by rfl)(i:(x==ix)=false:=by decide):
 PD X (.Name x j) (ZY (.tup (ns.map D.int))):=wW (WE h e (show RelV (.ref a) _ from rfl) i) λH O=>.tup (.inr ⟨_,b,n,f,rfl,rfl,hz,g⟩) (Reps.ints ns)
def SA:D->D->R D
 |.non,.non=>.ok (.bl true)
 |_,.non=>.ok (.bl false)
 |_,_=>.bad
def vY:mI X (dq .Is) SA:=by
 intro H O x y e f Q j d g q;refine⟨_,xk,?_⟩;cases f with
 |non=>
  refine⟨g.ac3,?_⟩;cases e with
  |non=>rw[d.ac3];exact q _ H (Same.refl _) .bl
  |bl b=>rw[d.blI];exact q _ H (Same.refl _) .bl
  |int i=>rw[d.aa8];exact q _ H (Same.refl _) .bl
  |str z=>rw[d.ac5];exact q _ H (Same.refl _) .bl
  |tup h=>obtain⟨a,_,rfl,_⟩:=d.tupI;exact q _ H (Same.refl _) .bl
  |lst h=>obtain⟨a,_,rfl,_⟩:=d.aa6;exact q _ H (Same.refl _) .bl
  |dct=>obtain⟨a,_,rfl,_⟩:=d.ag1;exact q _ H (Same.refl _) .bl
 |_=>cases e<;>exact aAm q
def UC (h:PD X e f)(i:ek e none a.line X.env=pure false:=by rfl):rP X (.Expr e a) (λρ=>(f ρ).bind λ_=>.ok (.nx ρ)):=λj k=>
 DK (oK h i) λD σ H O ρ E l q=>⟨j,k,O,ρ,E,by
  cases b:f ρ with
  |ok d=>rw[b]at q;exactλv g s r=>q _ g O (E.grow s) l (Kp.of s)
  |ex x=>rw[b]at q;exactλg s=>q g (E.same.trans s)
  |bad=>rw[b]at q;exact q⟩
def dG:List D->Option (List Bool)
 |[]=>some []
 |.bl b::a=>(dG a).map (b::·)
 |_::_=>none
theorem qW:∀{ds:List D} {bs:List Bool},dG ds=some bs->ds=bs.map D.bl
 |[],bs,h=>by cases h;rfl
 |.bl b::ds,bs,h=>by
  unfold dG at h;cases e:dG ds with
  |none=>rw[e]at h;cases h
  |some l=>rw[e]at h;have a:b::l=bs:=Option.some.inj h;subst a;rw[qW e];rfl
 |.non::_,_,h|.int _::_,_,h|.str _::_,_,h|.tup _::_,_,h|.lst _::_,_,h|.dct::_,_,h=>by cases h
def anyR:List D->R D
 |[.lst a]=>match dG a with
  |some bs=>.ok (.bl (bs.any id))
  |none=>.bad
 |_=>.bad
def FM {K:iu}{H:Hp}{O:bb->Prop}{ws:List V}{bs:List Bool}{a:List ao}(r:Reps K H O ws (bs.map D.bl))(v:p5 ws a):a=bs.map aDE:=by
 induction bs generalizing ws a with
 |nil=>cases r;cases v;rfl
 |cons b bs d=>
  cases r with
  |cons r t=>
   cases v with
   |cons e f=>cases r;have:_=aDE b:=e;rw[this,d t f];rfl
def MC (bs:List Bool):(aBa bs.length).any (λi=>bs.getD i false)=bs.any id:=by
 rw[aDY,aEm,aEm];constructor
 .rintro⟨i,a,e⟩;have d:i<bs.length:=by simpa using a
  refine⟨bs[i],aCj d,?_⟩;simpa[aAs,aAh d]using e
 .rintro⟨b,f,e⟩;obtain⟨i,a,rfl⟩:=aBo f;exact⟨i,by simpa using a,by simpa[aAs,aAh a]using e⟩
def qz (x:X.calm=true):dP X (.builtin "any") anyR:=by
 intro H O L y Q fr r q;match y,q with
 |[.lst Y],q=>
  obtain⟨v,rfl,z⟩:=MB r;obtain⟨p,ws,rfl,A,j⟩:=z.aa6;simp only[anyR]at q;cases e:dG Y with
  |none=>rw[e]at q;exact q.elim
  |some bs=>
   rw[e]at q;rw[qW e]at j;refine⟨λL k l=>L=[.ref p]/\k=H/\l=Q,λm s σ k Y us l I B ⟨C,J,N⟩=>?_,rfl,rfl,rfl⟩;subst C J N;obtain⟨u,rfl,T⟩:=vals1 B;cases T;obtain⟨a,g,⟨U,nL,n,cL,dL,sL⟩,zL⟩:=I.list A;have t:=FM j g;have w:s.heap.IsList p a.toArray:=⟨U,n,cL,nL,sL⟩;refine call_any_walk (aDF w ⟨s.heap.objs.size,_,_,a.toArray.size,_,_,λi=>bs.getD i false,rfl,Walks.list (by simp[I.ok.hd x]) s.heap.objs.size p (aAn<|aAg n) a.toArray,⟨⟨_,aAr _ rfl,rfl,rfl⟩,w.push _⟩,λi v s' Q E d f=>?_,λh' tk kp=>?_⟩)
   .have d:a.toArray[i]?=some v:=d;have f:Q (bs.getD i false) s':=f;rw[aCS,t,aAK]at d;cases h:bs[i]? with
    |none=>rw[h]at d;cases d
    |some b=>rw[h]at d;have:aDE b=v:=Option.some.inj d;subst this;rw[aAs,h]at f;exact aBO f
   .have I2:=I.kept (h':=h') (t':=tk) λb o e=>kp b o (by simp only[aAN];exact aAn (aAg e)) (aAc _ e);refine⟨.bl (bs.any id),_,I2,?_,q _ _ (Same.refl _) .bl⟩;show aDE _=aDE _;rw[aAq,t,aAf,MC]
end
def yw (ds:List D)(i j:Nat):Bool:=HT.lexLt (flat<|ds.getD i .non) (flat<|ds.getD j .non)
def RA:List D->R D
 |[.lst a]=>if a≠[]/\a.all cP=true then .ok (a.getD (eY (yw a) (a.length-1)) .non)else .bad
 |_=>.bad
def xO (h:cq)(a:List ao):List (bb×Obj):=a.filterMap λv=>match v with
 |.ref b=>(h.get? b).map λo=>(b,o)
 |_=>none
def EU (d:aDJ b∈a)(e:h.get? b=some o):(b,o)∈xO h a:=
 aCb.mpr ⟨_,d,by show(h.get? b).map _=_;rw[e];rfl⟩
def iW (a:p∈xO h d):h.get? p.1=some p.2:=by
 obtain⟨v,_,e⟩:=aCb.mp a;cases v with
 |ref b=>
  have e:(h.get? b).map (λo=>(b,o))=some p:=e;cases q:h.get? b with
  |none=>rw[q]at e;cases e
  |some o=>rw[q]at e;cases e;exact q
 |_=>cases e
section
def XF (hc:X.calm=true)(hu:X.A.units+300<cz):dP X (.builtin "min") RA:=by
 intro H O L ds Q fr r q;match ds,q with
 |[.lst Y],q=>
  obtain⟨v,rfl,z⟩:=MB r;obtain⟨p,ws,rfl,h1,h2⟩:=z.aa6;simp only[RA]at q;by_cases x:Y≠[]/\Y.all cP=true
  .rw[hV x]at q;obtain⟨ag,x⟩:=x;have pt:∀d∈Y,cP d=true:=aCi.mp x;refine⟨λL T Q'=>L=[.ref p]/\T=H/\Q'=Q,λpins s σ T qi us Q' I rv z9=>?_,rfl,rfl,rfl⟩;obtain⟨e1,e2,e3⟩:=z9;subst e1 e2 e3;obtain⟨u,rfl,ru⟩:=vals1 rv;cases ru;obtain⟨f,y,⟨oL,nL,U,cL,dL,sL⟩,zL⟩:=I.list h1;have hl:s.heap.IsList p f.toArray:=⟨oL,U,cL,nL,sL⟩;have st:B0 X.K T O f Y:=B0.of y h2;have l:f.toArray.size=Y.length:=by rw[aAq,<-y.length,h2.length]
   have ui:0<Y.length:=aEH.mpr ag;have W:=MM.walks_more (Walks.list (prog:=X.prog) (w:=X.w) (A:=X.A.in1) (by simp[I.ok.hd hc]) s.heap.objs.size p (aAn<|aAg U) f.toArray) (xO s.heap f)
    (λq t=>by simp only[aAN];exact aAn (aAg<|iW t))
   refine MM.call_minH (aDF hl ⟨s.heap.objs.size,_,_,_,f.toArray.size,_,_,λh=>∀q∈xO s.heap f,h.get? q.1=some q.2,yw Y,rfl,W.toS,⟨⟨⟨_,aAr _ rfl,rfl,rfl⟩,hl.push _⟩,λq t=>aAc _ (iW t)⟩,λb k=>?_,by rw[l];exact ui,λi s h=>h.2,λi j vi vj m Q2 E2 hh B hj t=>?_,λv m E J=>?_⟩)
   .rw[aBH];rcases aAP.mp k with k|k
    .rcases aAd.mp k with rfl|k
     .exact aDO _
     .rcases aAd.mp k with rfl|k
      .exact aBI (aAg U)
      .cases k
    .obtain⟨q,t,rfl⟩:=aAk.mp k;exact aBI (aAg<|iW t)
   .have one:∀i v,f.toArray[i]?=some v->∃b a,v=.ref b/\IsTup m.heap b a/\IntsAre a.toList (flat<|Y.getD i .non):=λi v B=>by
     rw[aCS]at B;obtain⟨d,N,w,ql,rp⟩:=J4 st B;have pg:Y.getD i .non=d:=by rw[aAs,N];rfl
     rw[pg];have C:=pt d (aAw N);obtain⟨b,a,rfl,⟨o,g,c,n,dd⟩,hia⟩:=bD C (eS I rp (V1 C) ql);exact⟨b,a,rfl,⟨o,hh _ (EU (aAw B) g),c,n,dd⟩,hia⟩
    obtain⟨b,a,rfl,t1,i1⟩:=one i vi B;obtain⟨b',wo,rfl,t2,i2⟩:=one j vj hj;exact HT.lt_tupInts t1 t2 i1 i2 (by rw[x5];lia) t
   .have E:f.toArray[eY (yw Y) (f.toArray.size-1)]?=some v:=E;rw[aCS,l]at E;obtain⟨d,N,w,ql,rp⟩:=J4 st E;have pg:Y.getD (eY (yw Y)<|Y.length-1) .non=d:=by rw[aAs,N];rfl
    rw[pg]at q;have I2:=I.kept (h':=m.heap) (t':=m.toks) λb o e=>J.heap b o (by simp only[aAN];exact aAn (aAg e)) (aAc _ e);have es:m={s with heap:=m.heap,toks:=m.toks}:=by have g1:=J.gens;have g2:=J.drawn;have g3:=J.os;cases m;simp only at g1 g2 g3;subst g1 g2 g3;rfl
    rw[es];exact⟨w,_,I2,ql,q _ _ (Same.refl _) rp⟩
  .rw[h9 x]at q;exact q.elim
def VD (h:UN ds)(n:Nat)(a:n<ds.length):eY (yw ds) n=0:=by
 induction n with
 |zero=>rfl
 |succ k b=>
  have e:=b (by lia);unfold eY;rw[e];have:yw ds (k+1) 0=false:=by
   unfold yw;rw[aAs,aAs,aAh a,aAh (by lia:0<ds.length)];have:=aCo.mp h 0 (k+1) (by lia) a (by lia);cases q:HT.lexLt (flat<|(some ds[k+1]).getD .non) (flat ((some (ds[0]'(by lia))).getD .non))with
   |false=>rfl
   |true=>have z:HT.lexLt (flat (ds[0]'(by lia))) (flat (ds[0]'(by lia)))=true:=TS.lex_trans _ _ _ this q;rw[TS.lex_irrefl]at z;cases z
  rw[this];rfl
end
end
section
variable [Tabs]
end
end DL
namespace DL
open PySem PySem.Spec L2
open PyProof.Rows hiding St sub_tuple_tuple sub_list_list sub_tuple_list sub_list_tuple
section
open PySem.MeetsSeq PySem.MeetsSeq2 PySem.MeetsSeq3 PySem.AutoSeq1
def SR (l:bb)(Y:Array ao)(n:Nat)(b:bb)(N:Array ao)(n2:Nat)(sl:Array (Option ao))(f:¬(!Y.isEmpty&&aDa (Y.size+N.size))=true)(h:Y.size<=sizeLine)(i:Y.size+N.size<=sizeLine+1):
  Meets (Builtin.«list.extend» ⟨[.ref l,.ref b],[]⟩) (λ_ R s=>s.heap.get? l=some ⟨.type "list",none,.seq Y n,#[]⟩/\s.heap.get? b=some ⟨.type "list",none,.seq N n2,sl⟩/\R (.ok (.ret Value.none)) {s with heap:=s.heap.update l (aBT λx=>x++N),toks:=s.toks}):=
 .of_wp λa w A R s q=>by
  obtain⟨m,g,d,o,os⟩:=s;obtain⟨e,j,k⟩:=q;have p:=idx_int;have r:=sub_tuple_tuple;have t:=sub_list_list;have u:=sub_tuple_list;have v:=sub_list_tuple;have z:(Y++N).size<=sizeLine+1:=by rw[Array.size_append];exact i
  wp_walk using(aCg e rfl (hz:=h) (_hz':=z)),aEB e,aEB j
  exact⟨_,rfl,k⟩
end
section
def a0w (K:iu):V->List V->Hp->VK->Prop:=λx L H Q=>∃l b Y a,x=.ref l/\L=[.ref b]/\H l=some (.lst Y)/\Q8 K H b a/\Y.length+a.length<=sizeLine/\Q .non (upd H l<|.lst (Y++a))
def bz:MtM X "list.extend" (a0w X.K):=by
 intro g s σ H x L v O Q I p t h;obtain⟨l,b,Y,T,rfl,rfl,i,w,U,q⟩:=h;cases p;obtain⟨u,rfl,y⟩:=t.one;cases y;obtain⟨z,a,n,r,hl,e⟩:=I.af3 i;obtain⟨f,j,⟨⟨A,ve,B,C⟩,E,J,k,m,o⟩,z2⟩:=I.list w;simp only at k m o;subst k m o;have mh:=j.length;have N:a.toArray.size+f.toArray.size<=sizeLine:=by rw[aAq,aAq];lia
 have d:¬(!a.toArray.isEmpty&&aDa (a.toArray.size+f.toArray.size))=true:=by rw[OM N,aGe];exact aBc
 refine call_meets F.slot_list_extend ⟨_,e,rfl⟩ F.entry_list_extend (F.args_list_extend_2 _ _) (SR l a.toArray n b f.toArray E C d (by rw[aAq];lia) (by lia)) ⟨e,J,?_⟩;refine⟨.non,_,I.af0 (its':=a++f) i e (by simp) (r.append j) ?_,rfl,q⟩;rw[aAB]
 lia
end
variable [Tabs]
section
def FQ (i:Nat)(z:PD X e f)(A:X.N[i]?=some x:=by rfl)(B:HD X.env.scope x:=by first|exact aDd rfl|exact aCn (aDd rfl)|exact aCn (aCn rfl))(I:(x==ix)=false:=by decide)(Q:(x==i3)=false:=by decide)(T:fg (.Name x p) "extend" X.env (dm (.Name x p) X.env)=dm (.Name x p) X.env:=by rfl)(U:((cy g (ba [e] X.env)).all (λx=>!x.1)&&(backToKw g (keywordEach [] X.env)).all (λx=>x.1.isSome)
   &&decide ([e].length+([]:List Keyword).length+(if([]:List Keyword).isEmpty then 0 else 1)<30))=true:=by rfl) (cg:(b.endLine==g.line)=true:=by rfl) (r:ba [e] X.env=(false,dm e X.env)::ba [] X.env:=by rfl) (jr:(cy g (ba [] X.env)).any (·.1)=false:=by rfl) (vt:ek (.Call (.Attribute (.Name x p) "extend" b) [e] [] g) none l.line X.env=pure false:=by rfl):
  rP X (.Expr (.Call (.Attribute (.Name x p) "extend" b) [e] [] g) l) (λρ=>(f ρ).bind (jw i ρ)):=λH9 O0=>
 DK (oK (ak PySem.F.plainAttrs_list PySem.F.slot_list_extend PySem.F.type_list_extend bz (W2 A B I Q) (j0 z u8 r) T U cg r jr) vt) λD σ H O ρ E fk q=>by
 cases j:f ρ with
 |ok d=>
  rw[j,R.aa0]at q;unfold jw at q;cases h:ρ[i]? with
  |none=>rw[h]at q;exact aAm q
  |some s=>
   rw[h]at q;cases s with
   |x C=>exact aAm q
   |c m φ=>exact aAm q
   |d J=>exact aAm q
   |no=>exact aAm q
   |v d=>exact aAm q
   |o Y=>
    cases d with
    |lst N=>
     dsimp only at q;split at q
     .rename_i hz;obtain⟨a,L,t,h2,h3,u,w⟩:=E.own i Y h;refine⟨_,t,.inl ⟨rfl,L,Q8.of u⟩,H9,O0,O,ρ,E,?_⟩;show JP X H O ((f ρ).bind λd=>(R.ok []).bind λds=>.ok (d::ds)) _;rw[j];intro us H1 k n;cases n with
      |cons n rn=>
       cases rn;have E1:=E.grow k;cases n with
       |lst hb nb y=>refine⟨a,_,L,_,rfl,rfl,k _ _ u,hb,by rw[w.length,y.length];exact hz,?_⟩;obtain⟨E2,k2⟩:=E1.write h t ((w.same k).append y);exact q σ _ O E2 fk ((Kp.of k).trans k2)
     .exact aAm q
    |_=>exact aAm q
 |ex x=>
  rw[j]at q;cases h:ρ[i]? with
  |none=>exact(q H E.same).elim
  |some s=>exact(q H E.same).elim
 |bad=>rw[j]at q;exact aAm q
end
end DL
namespace TS
open PySem PyProof.Rows HT
section
def IR (A:cf)(s:a9)(x y:ao)(b:Bool):Prop:=∀(a:bt) (w:cp) (E:G0) (Q:BL),Q b s->aA (be a w) A (oneLt' false x y) Q E s
def lt_two {Q:BL}(g:IsTup s.heap l #[p,r])(h:IsTup s.heap b #[a,d])(i:f=false)(j:SeqAt.EqAt A s p a e1)(k:e1=false->IR A s p a b1)(m:e1=true->SeqAt.EqAt A s r d e2)(t:e1=true->e2=false->IR A s r d b2)(q:Q (bif e1 then(bif e2 then false else b2)else b1) s):aA (be prog w) A (keyLt' (tupK f) (.ref l) (.ref b)) Q E s:=by
 obtain⟨o,u,y,n,v⟩:=g;obtain⟨z,x,B,C,e⟩:=h;subst i;rw[uP];refine aAa (aEi u v<|aAa<|aEi x e ?_);show aA _ _ (forIn [((p,a),0),((r,d),1)] _ _>>=_) _ _ _;rw[aDb];refine aAa (aAa ?_);refine aAa (j _ _ _ _ ?_);cases e1 with
 |false=>refine aAa (k rfl _ _ _ _ ?_);exact aAb (aAb<|aAb q)
 |true=>
  refine aAb ?_;dsimp only;rw[aDb];refine aAa ?_;refine aAa (m rfl _ _ _ _ ?_);cases e2 with
  |false=>refine aAa (t rfl rfl _ _ _ _ ?_);exact aAb (aAb<|aAb q)
  |true=>refine aAb ?_;dsimp only;rw[aEf];exact aAb (aAb q)
def UF (h:∀(prog:bt) (w:cp) (E:G0) (Q:G0),Q (.bool b) s->aA (be prog w) A (richCompare .Lt x y) Q E s):IR A s x y b:=λprog w E Q q=>by rw[oneLt'_eq];simp only[aAu,if_false];exact aAa (h prog w _ _<|aBO q)
def oneLt_tup (d:IsTup s.heap l items)(e:IsTup s.heap b f)(g:IntsAre items.toList ns)(h:IntsAre f.toList i)(j:A.units<cz):IR A s (.ref l) (.ref b) (HT.lexLt ns i):=
 UF λa w E Q q=>HT.lt_tupInts d e g h j q
end
end TS
namespace DL
open PySem PySem.Spec L2
open PyProof.Rows hiding St
section
def wR (k:D->List Int)(d:D):List D->List D
 |[]=>[d]
 |x::Y=>if HT.lexLt (k d) (k x)=true then d::x::Y else x::wR k d Y
def qX (k:D->List Int)(ds:List D):List D:=ds.foldr (wR k) []
def xW (k:D->List Int)(ds:List D):Prop:=ds.Pairwise λx y=>HT.lexLt (k x) (k y)=true
theorem lR (k:D->List Int)(d:D):∀Y:List D,(wR k d Y).Perm (d::Y)
 |[]=>.refl _
 |x::Y=>by
  unfold wR;split
  .exact .refl _
  .exact((lR k d Y).cons x).trans (.swap d x Y)
theorem V9 (k:D->List Int):∀ds:List D,(qX k ds).Perm ds
 |[]=>.refl _
 |d::ds=>(lR k d (qX k ds)).trans ((V9 k ds).cons d)
theorem zI:∀{Y:List D},xW k Y->(∀x∈Y,k x≠k d)->xW k (wR k d Y)
 |[],_,_=>aDV _ _
 |x::Y,h,n=>by
  have b:=aAy.mp h;unfold wR;split
  .rename_i lt;refine aAy.mpr ⟨λy a=>?_,h⟩;rcases aAd.mp a with rfl|a
   .exact lt
   .exact TS.lex_trans _ _ _ lt (b.1 y a)
  .rename_i e;refine aAy.mpr ⟨λy a=>?_,zI b.2 λz f=>n z (.tail _ f)⟩;rcases aAd.mp ((lR k d Y).mem_iff.mp a)with rfl|a
   .cases q:HT.lexLt (k x) (k y)with
    |true=>rfl
    |false=>exact absurd (TS.lex_total _ _ q (by simpa using e)) (n x<|.head _)
   .exact b.1 y a
theorem mL:∀{ds:List D},(ds.map k).Nodup->xW k (qX k ds)
 |[],_=>.nil
 |d::ds,h=>by rw[aAi,aAF]at h;refine zI (mL h.2) λx a e=>h.1 ?_;rw[<-e];exact aBL ((V9 k ds).mem_iff.mp a)
theorem lK:∀{Y N:List D},xW k Y->xW k N->Y.Perm N->Y=N
 |[],N,_,_,p=>(List.nil_perm.mp p).symm
 |x::Y,[],_,_,p=>by have:=p.length_eq;simp at this
 |x::Y,y::N,f,g,p=>by
  have d:=aAy.mp f;have e:=aAy.mp g;have a:x=y:=by
   rcases aAd.mp (p.mem_iff.mp<|.head _)with q|q
   .exact q
   .rcases aAd.mp (p.mem_iff.mpr<|.head _)with b|b
    .exact b.symm
    .have:=TS.lex_trans _ _ _ (e.1 x q) (d.1 y b);rw[TS.lex_irrefl]at this;cases this
  subst a;rw[lK d.2 e.2 ((List.perm_cons x).mp p)]
def VO [Tabs]{R:ao->D->Prop}{key:ao->List Int}{k:D->List Int}{a:List ao}{ds:List D}(st:Paired R a ds)(f:a.Pairwise λx y=>HT.lexLt (key y) (key x)=false)(p:(ds.map k).Nodup)(g:∀u d,R u d->d∈ds->key u=k d):xW k ds:=by
 induction st with
 |nil=>exact .nil
 |@cons u d a ds r t q=>
  have i:=aAF.mp p;have m:=aAy.mp f;refine aAy.mpr ⟨λe s=>?_,q m.2 i.2 λu d h v=>g u d h (.tail _ v)⟩;obtain⟨j,b,rfl⟩:=aBo s;have n:j<a.length:=by rw[t.length];exact b
  obtain⟨A,o,w⟩:=J4 t (aAh n);rw[aAh b]at o;cases o;have l:=m.1 a[j] (aCj n);rw[g _ _ w (.tail _ (aCj b)),g u d r (.head _)]at l;cases z:HT.lexLt (k d) (k ds[j])with
  |true=>rfl
  |false=>exact absurd (aAk.mpr ⟨ds[j],aCj b,(TS.lex_total _ _ z l).symm⟩) i.1
def fcB:D->Bool
 |.tup [p,.lst _]=>cP p
 |_=>false
def T2:D->List Int
 |.tup (p::_)=>flat p
 |_=>[]
def oz (h:fcB d=true):∃p r,d=.tup [p,.lst r]/\cP p=true/\T2 d=flat p:=by
 unfold fcB at h;split at h
 .exact⟨_,_,rfl,h,rfl⟩
 .cases h
def sfR:D->R (List D)
 |.lst a=>if a.all fcB=true/\(a.map T2).Nodup/\a.length<=63 then .ok (qX T2 a)else .bad
 |_=>.bad
variable [Tabs]
def FV (h:cq)(u:ao)(l:List Int):Prop:=∃b p r d,u=.ref b/\IsTup h b #[p,r]/\cP d=true/\HV h p d/\flat d=l
def FV.inj (x:FV h u l)(y:FV h u k):l=k:=by obtain⟨b,p,r,d,rfl,⟨o,g,_,n,m⟩,_,q,rfl⟩:=x;obtain⟨t,v,w,z,e,⟨A,f,_,B,i⟩,_,a,rfl⟩:=y;cases e;rw[g]at f;cases f;rw[m]at i;injection i with s _;have j:=ip aFR s;simp only[aFT]at j;obtain⟨rfl,_⟩:=j;rw[HV.inj q a]
def KY (h:cq) (u:ao):List Int:=open Classical in if p:∃l,FV h u l then p.choose else[]
def kH (x:FV h u l):KY h u=l:=by unfold KY;rw[dif_pos ⟨l,x⟩];exact FV.inj (Exists.choose_spec (⟨l,x⟩:∃l,FV h u l)) x
section
def NN (I:Inv X e σ H s)(r:Rep X.K H O v d)(h:fcB d=true)(g:RelV v u):FV s.heap u (T2 d):=by
 obtain⟨p,ring,rfl,f,i⟩:=oz h;cases r with
 |tup q a=>
  cases g;obtain⟨j,b,k,_⟩:=I.tuple q;cases a with
  |cons l a=>
   cases a with
   |cons m a=>
    cases a;cases b with
    |cons v1 b=>
     cases b with
     |cons n b=>cases b;exact⟨_,_,_,p,rfl,k,f,eS I l (V1 f) v1,i.symm⟩
end
section
def GF (ha:PB X e f)(hh:X.calm=true)(hu:X.A.units+300<cz)(hg:Gl X "sorted":=by rfl)(hm:X.mg "sorted"=none:=by assumption)(hv:de "sorted"=some (.builtin "sorted"):=by decide+kernel)(he:ba [e] X.env=(false,dm e X.env)::ba [] X.env:=by rfl)(bp:(cy pos (ba [] X.env)).any (·.1)=false:=by rfl):
  PF X (.Call (.Name "sorted" p) [e] [] pos) (λρ=>(f ρ).bind sfR):=by
 refine zR λpins s σ H Q I H9 O0 O ρ E q=>?_;dsimp only at q;refine aBi (X6 I hg hm hv ?_ (by decide) (by decide));have om:PA X [e] _:=R0 ha dR he;refine aCu (J7 (om pos pins s σ H (λL H1=>∃v t,L=[v]/\f ρ=.ok (.lst t)/\Same H H1/\D2 X.K H1 O v (.lst t)) I ⟨H9,O0,O,ρ,E,?_⟩) λus J z9=>?_) he bp
 .cases e1:f ρ with
  |ex z=>rw[e1]at q;exact q
  |bad=>rw[e1]at q;exact q.elim
  |ok d=>
   rw[e1,R.aa0]at q;cases d with
   |lst t=>exactλv H1 J r1=>⟨v,t,rfl,rfl,J,r1⟩
   |_=>exact aAm q
 .obtain⟨L,H1,I1,r1,v,t,ev,ef,sm,rb⟩:=z9;subst ev;rw[ef,R.aa0]at q;obtain⟨a,ws,rfl,hS,rr⟩:=rb.aa6;obtain⟨u,rfl,ru⟩:=vals1 r1;cases ru;obtain⟨m,rv,⟨oL,nL,gL,cL,dL,sL⟩,zL⟩:=I1.list hS;have hl:J.heap.IsList a m.toArray:=⟨oL,gL,cL,nL,sL⟩;simp only[sfR]at q;by_cases hc:t.all fcB=true/\(t.map T2).Nodup/\t.length<=63
  .rw[hV hc]at q;obtain⟨lu,nd,zi⟩:=hc;have fc:∀d∈t,fcB d=true:=aCi.mp lu;have st:B0 X.K H1 O m t:=B0.of rv rr;have hlen:m.length=t.length:=st.length;have B:∀u∈m,∃i d,m[i]?=some u/\t[i]?=some d/\FV J.heap u (T2 d):=λu hu=>by obtain⟨i,hi,rfl⟩:=aBo hu;obtain⟨d,Y,w,ql,rp⟩:=J4 st (aAh hi);exact⟨i,d,aAh hi,Y,NN I1 rp (fc d<|aAw Y) ql⟩
   have keq:∀u∈m,∀u'∈m,KY J.heap u=KY J.heap u'->u=u':=λu hu u' au e=>by
    obtain⟨i,d,hi,Y,fv⟩:=B u hu;obtain⟨j,d',hj,pg,fv'⟩:=B u' au;rw[kH fv,kH fv']at e;have eij:i=j:=by obtain⟨li,ei⟩:=aAC.mp Y;obtain⟨lj,ej⟩:=aAC.mp pg;refine(List.getElem_inj (xs:=t.map T2) (i:=i) (j:=j) (h₀:=by simpa using li) (h₁:=by simpa using lj) nd).mp ?_;rw[aEq,aEq,ei,ej];exact e
    subst eij;rw[hi]at hj;cases hj;rfl
   refine TS.sorted_keys (L:=m) (f:=false) (key:=KY J.heap) (C:=λs'=>∃h',s'={J with heap:=h'}/\∀b o,J.heap.get? b=some o->h'.get? b=some o)
    (λ{Q'} hq=>collect_list hl (hq _ ⟨_,rfl,λb o e=>?_⟩) (by rw[hlen];exact aAl zi (by decide)))
    (λs' ⟨h',U,k⟩ s6 k6 x hx y hy prog w A E hA {Q} qq=>?_) (λh2 s' ⟨h',U,k⟩ s6 k6 A {Q} qq=>?_) (by rw[hlen];lia) λs' ic h' l ⟨h1,U,k⟩ pm srt k2 hl ⟨n,gl⟩=>?_
   .exact(aAI _ _<|aCa<|aAn<|aAg e).trans (aAc _ e)
   .subst U;have kk:∀b o,J.heap.get? b=some o->s6.heap.get? b=some o:=λb o e=>k6 b o (k b o e);obtain⟨i,d,hi,Y,fv⟩:=B x hx;obtain⟨j,d',hj,pg,fv'⟩:=B y hy;have kx:=kH fv;have ky:=kH fv';have eqk:=keq x hx y hy;rw[kx,ky]at qq;rw[kx,ky]at eqk;obtain⟨b,p1,r1,d1,rfl,⟨o,g,c,n,dd⟩,N,hv1,e1⟩:=fv;obtain⟨b',p2,r2,d2,rfl,⟨o',g',c',n',zf⟩,hp2,hv2,e2⟩:=fv';have zv:HV s6.heap p1 d1:=hv1.keeps λb o e _=>kk b o e;have hv2':HV s6.heap p2 d2:=hv2.keeps λb o e _=>kk b o e;have hA':A.units+8<cz:=by lia
    obtain⟨c1,i1,rfl,t1,ia1⟩:=bD N zv;obtain⟨c2,i2,rfl,t2,ia2⟩:=bD hp2 hv2';rw[<-e1,<-e2]at qq eqk;refine TS.lt_two (e1:=y6 d1 d2) (e2:=true) (b1:=HT.lexLt (flat d1) (flat d2)) (b2:=false) ⟨o,kk _ _ g,c,n,dd⟩ ⟨o',kk _ _ g',c',n',zf⟩ rfl (HA zv hv2' (by have:=GJ N;lia)) (λ_=>TS.oneLt_tup t1 t2 ia1 ia2 (by lia)) (λeq=>?_) (λ_ z=>by cases z) ?_
    .have ed:=kL (V1 N) (V1 hp2) eq;have er:=eqk (by rw[ed]);cases er;rw[g]at g';cases g';rw[dd]at zf;injection zf with e3 _;have e4:=ip aFR e3;simp only[aFT]at e4;rw[e4.2.1];exact aDZ _
    .cases z:y6 d1 d2 with
     |false=>exact qq
     |true=>have ed:=kL (V1 N) (V1 hp2) z;rw[ed,TS.lex_irrefl]at qq;exact qq
   .subst U;have kk:∀b o,J.heap.get? b=some o->s6.heap.get? b=some o:=λb o e=>k6 b o (k b o e);have sg:∀x∈m,∃p,∃b r,x=.ref b/\IsTup s6.heap b r/\r[0]?=some p/\s6.TypeIs p "tuple":=λx hx=>by obtain⟨i,d,hi,Y,fv⟩:=B x hx;obtain⟨b,p1,r1,d1,rfl,⟨o,g,c,n,dd⟩,N,hv1,e1⟩:=fv;have zv:HV s6.heap p1 d1:=hv1.keeps λb o e _=>kk b o e;obtain⟨c1,i1,rfl,⟨o1,g1,cc1,_⟩,ia1⟩:=bD N zv;exact⟨_,b,_,rfl,⟨o,kk _ _ g,c,n,dd⟩,rfl,⟨o1,g1,cc1⟩⟩
    obtain⟨gf,hgf⟩:∃gf:ao->ao,∀x∈m,∃b r,x=.ref b/\IsTup s6.heap b r/\r[0]?=some (gf x)/\s6.TypeIs (gf x) "tuple":=by refine⟨λx=>open Classical in if z:x∈m then(sg x z).choose else .none,λx hx=>?_⟩;dsimp only;rw[dif_pos hx];exact(sg x hx).choose_spec
    exact TS.kind_tuples (T:= "tuple") gf hgf (λz=>by rw[z]at h2;simp at h2) (by decide) qq
   .subst U;obtain⟨qm,p2,km⟩:=fE pm st;have hk:∀u d,(∃v,RelV v u/\Rep X.K H1 O v d)->d∈t->KY J.heap u=T2 d:=by rintro u d ⟨v,rv,rp⟩ Y;exact kH (NN I1 rp (fc d Y) rv)
    have rh:(qm.map T2).Nodup:=(p2.map T2).nodup_iff.mpr nd;have srt2:xW T2 qm:=VO (R:=λu d=>∃v,RelV v u/\Rep X.K H1 O v d) km srt rh λu d h Y=>hk u d h (p2.mem_iff.mp Y);have e2:qm=qX T2 t:=lK srt2 (mL nd) (p2.trans (V9 T2 t).symm);subst e2;obtain⟨wv,ql,ou⟩:=B0.ac8 km;have I2':=I1.kept (h':=h1) (t':=J.toks) k;have I3:=I2'.laid (a:=l) (o:=.lst wv) (h':=h') (t':=J.toks) k2 hl ⟨by rw[ou.length,(V9 T2 t).length_eq];exact aAl zi (by decide),ic,n,ql,gl⟩;exact⟨.ref l,_,I3,rfl,q wv _ l sm (I2'.hok.fresh hl) ou⟩
  .rw[h9 hc]at q;exact q.elim
end
end
section
def FA:List Int->Int
 |[]=>0
 |a::l=>l.foldl min a
theorem U9:∀(l:List Int) (a:Int),(l.foldl min a=a\/l.foldl min a∈l)/\l.foldl min a<=a/\∀b∈l,l.foldl min a<=b
 |[],a=>⟨.inl rfl,aBJ _,λb h=>by cases h⟩
 |c::l,a=>by
  obtain⟨d,g,f⟩:=U9 l (min a c);rw[aEz];refine⟨?_,by lia,λb e=>?_⟩
  .rcases d with d|d
   .rw[d];rcases aFI a c with q|q
    .exact .inl (Int.min_eq_left q)
    .exact .inr (by rw[Int.min_eq_right q];exact .head _)
   .exact .inr (.tail _ d)
  .rcases aAd.mp e with rfl|e
   .lia
   .exact f b e
def PY (h:ns≠[]):FA ns∈ns:=by
 cases ns with
 |nil=>exact absurd rfl h
 |cons a l=>
  rcases(U9 l a).1 with q|q
  .show l.foldl min a∈_;rw[q];exact .head _
  .exact .tail _ q
def YU (h:a∈ns):FA ns<=a:=by
 cases ns with
 |nil=>cases h
 |cons b l=>
  rcases aAd.mp h with rfl|h
  .exact(U9 l a).2.1
  .exact(U9 l b).2.2 a h
def IQ:List D->R D
 |[.lst Y]=>match eZ Y with
  |some a=>if a≠[]then .ok (.int (FA a))else .bad
  |none=>.bad
 |_=>.bad
variable [Tabs]
section
def SG (d:IntsAre a ns)(e:a.toArray=intItems N):∀i,numAt N i=ns.getD i 0:=λi=>by have b:=nums_intItems N;rw[<-e]at b;have f:=d.numsOf;rw[show a.toArray.toList=a from rfl,f]at b;rw[b];unfold numAt;rw[aAs,aAK,<-aAE]
def WG (A:X.calm=true):dP X (.builtin "min") IQ:=by
 intro H O L B Q fr r q;match B,q with
 |[.lst Y],q=>
  obtain⟨v,rfl,z⟩:=MB r;obtain⟨p,ws,rfl,h,k⟩:=z.aa6;simp only[IQ]at q;cases e:eZ Y with
  |none=>rw[e]at q;exact q.elim
  |some a=>
   rw[e]at q;dsimp only at q;by_cases d:a≠[]
   .rw[hV d]at q;rw[gA e]at k;rw[fT k]at h;refine⟨λL l m=>L=[.ref p]/\l=H/\m=Q,λn s σ l qi us m I C ⟨E,J,T⟩=>?_,rfl,rfl,rfl⟩;subst E J T;obtain⟨u,rfl,U⟩:=vals1 C;cases U;obtain⟨its,r',pl,hz⟩:=I.list h;have f:=DL.P7 r';obtain⟨N,g⟩:=f.allInts.items;have o:=pl.isList;rw[g]at o;have w:N.size=a.length:=by have:=ip Array.size g;rw[aAq,f.length]at this;simpa[intItems]using this.symm
    have ui:0<a.length:=aEH.mpr d;refine min_intList (I.ok.hd A) o (by lia) λv h' tk hv hk=>?_;obtain⟨t,rfl⟩:=intItems_at hv;obtain⟨g1,x⟩:=argBest_lt (numAt N) (N.size-1);have em:numAt N (eY (λi j=>decide (numAt N i<numAt N j))<|N.size-1)=FA a:=by
     generalize eY (λi j=>decide (numAt N i<numAt N j)) (N.size-1)=b at g1 x;have m1:numAt N b∈a:=by rw[SG f g,aAs,aAh (by lia)];exact aCj _
     have m2:=YU m1;obtain⟨j,hj,ej⟩:=aBo (PY d);have y:=x j (by lia);rw[SG f g j,aAs,aAh hj]at y;have m4:numAt N b<=a[j]:=y
     lia
    rw[em];exact⟨.int (FA a),_,I.kept hk,⟨t,rfl⟩,q _ _ (Same.refl _) .int⟩
   .rw[h9 d]at q;exact q.elim
def QT (K:iu)(mg:dS)(x:Str)(ns:List Int):Prop:=∃a d b n e,mg x=some (.ref a)/\K.lookup a=some ⟨.type "tuple",d,.seq b n,e⟩/\p5 (ns.map V.int) b.toList/\b.size<=sizeLine
omit [Tabs]in
def bj {K:iu}{mg:dS}{x:Str}{a:bb}{b:Option bb}{n:Nat}{sl:Array (Option ao)}{i j k:Int}{t u v:Tok}(d:mg x=some (.ref a))(e:K.lookup a=some ⟨.type "tuple",b,.seq #[.int i t,.int j u,.int k v] n,sl⟩):QT K mg x [i,j,k]:=
 ⟨a,b,_,n,sl,d,e,.cons ⟨t,rfl⟩ (.cons ⟨u,rfl⟩ (.cons ⟨v,rfl⟩ .nil)),show 3<=sizeLine by decide⟩
def wE (c:QT X.K X.mg x ns)(b:Gl X x:=by rfl)(d:(x==ix)=false:=by decide):PD X (.Name x e) (ZY (.tup (ns.map D.int))):=by obtain⟨a,k,f,n,l,g,h,i,j⟩:=c;exact JI g h i j b d
end
end
section
variable [Tabs]
section
variable{K:iu}
structure FunC (K:PySem.W.Frag)(x qual:Str)(st:Stmt)(f:Addr)(fd:FuncData)(cd:Addr):Prop where
 ex:∃(oc:Value) (od:Option Addr) (kV doc pm:Value) (an:Option Addr) (ct:Value) (osl:Array (Option Value)),
  fd=PySem.W.fnOf x qual (I9 st) (u7 st) (c8 st) .none kV doc pm an (.ref cd) ct/\K.lookup f=some ⟨oc,od,.func fd,osl⟩/\PySem.W.codeIn K (.ref cd) qual=true
 kp:PySem.W.keepIn K (.ref f)=true
omit [Tabs]in
def FunC.fn {x qual:Str}{st:cv}{f:bb}{fd:dn}{cd:bb}(F:FunC K x qual st f fd cd):Fun K x qual st f fd:=
 let⟨d,e,kV,a,g,h,i,b,j,k,l⟩:=F.ex
 ⟨⟨d,e,kV,a,g,h,.ref cd,i,b,j,k,l⟩,F.kp⟩
omit [Tabs]in
def YL {x qual:Str}{st:cv}{f cd:bb}{h:ao}{i d:Option bb}{b:Array (Option ao)}{kV a g T ct:ao}(l:K.lookup f=some ⟨h,i,.func (PySem.W.fnOf x qual (I9 st) (u7 st) (c8 st) .none kV a g d T ct),b⟩)
  (e:T=.ref cd) (c:PySem.W.codeIn K T qual=true) (k:PySem.W.keepIn K (.ref f)=true):FunC K x qual st f (PySem.W.fnOf x qual (I9 st) (u7 st) (c8 st) .none kV a g d T ct) cd:=by
 subst e;exact⟨⟨h,i,kV,a,g,d,ct,b,rfl,l,c⟩,k⟩
def a4c {x qual:Str}{st:cv}{f cd:bb}{fd:dn}{N ps:List Str}{k:Nat}{m:List D->R D}{F:Ev->R Out}(j:FunC K x qual st f fd cd)(S:FnScope N ps (c8 st))
  (l:∀(A:cf) (a:List Env) (s:a9) (H:Hp) (E:XK),Room k (A.deeper (envOfC qual (c8 st) s.heap.objs.size f (.ref cd)))->bV (UX P w K mg base N qual (c8 st) f (.ref cd) A a s H E) (u7 st) F)
  (n:∀ds d,ds.length=ps.length->m ds=.ok d->O6 (F (l6 N ds))=.ok d):FnOk P w K mg base vU (k+1) f fd ps (spD K ps.length m):=by
 obtain⟨U,Y,kV,p,pm,an,ct,t,rfl,lk,u⟩:=j.ex;refine ZM lk u S (by rintro L H Q E ⟨O,ds,d,r,g,_⟩;rw[r.length];exact g) λA a s H L Q E v y=>?_;obtain⟨O,ds,d,r,g,z,B,C,e,q⟩:=y;refine⟨_,xG.nox (l A a s H E v H O),O,_,tV r z B,C,?_⟩;have h:=n ds d g e;cases i:F (l6 N ds)with
 |ok o=>
  rw[i]at h;cases o with
  |rt I=>have b:R.ok I=R.ok d:=h;injection b with b;subst b;exact q
  |nx ρ=>have b:R.ok D.non=R.ok d:=h;injection b with b;subst b;exactλaf J O' T _ _=>q .non J T.same .non
  |bk ρ=>cases h
  |ct ρ=>cases h
 |ex x=>rw[i]at h;cases h
 |bad=>rw[i]at h;cases h
def XH {x qual:Str}{st:cv}{f cd:bb}{fd:dn}{N ps:List Str}{k:Nat}{m:List D->R D}{F:Ev->R Out}(e:FunC K x qual st f fd cd)(S:FnScope N ps (c8 st))(b:Binds K fd ps [])(g:mg x=some (.ref f))
  (h:∀(A:cf) (a:List Env) (s:a9) (H:Hp) (E:XK),Room k (A.deeper (envOfC qual (c8 st) s.heap.objs.size f (.ref cd)))->bV (UX P w K mg base N qual (c8 st) f (.ref cd) A a s H E) (u7 st) F)
  (i:∀ds d,ds.length=ps.length->m ds=.ok d->O6 (F (l6 N ds))=.ok d):y9 P w K mg base (k+1) x ps.length m:=
 ⟨f,fd,ps,a4c e S h i,b,e.kp,g⟩
def YK (P:bt)(w:cp)(K:iu)(mg:dS)(base:cq)(k d:Nat)(x:Str)(M:D->(List D->R D)->(List D->R D)->R D):Prop:=
 ∃g b a,FnOk P w K mg base vU k g b a (spF K (MK P w K mg base d 1) M)/\Binds K b a []/\PySem.W.keepIn K (.ref g)=true/\mg x=some (.ref g)/\a.length=3
def VB {x qual:Str}{st:cv}{f:bb}{fd:dn}{N ps:List Str}{k e:Nat}{M:D->(List D->R D)->(List D->R D)->R D}{F:Ev->R Out}(g:Fun K x qual st f fd)(S:FnScope N ps (c8 st))(h:ps.length=3)(b:Binds K fd ps [])(m:mg x=some (.ref f))
  (n:∀(T:ao) (A:cf) (a:List Env) (s:a9) (H:Hp) (E:XK),Room k (A.deeper (envOfC qual (c8 st) s.heap.objs.size f T))->bV (UX P w K mg base N qual (c8 st) f T A a s H E) (u7 st) F)
  (o:∀i j l d,M i j l=.ok d->O6 (F (mD N (MK P w K mg base e 1) i j l))=.ok d):YK P w K mg base (k+1) e x M:=
 ⟨f,fd,ps,fnF g S h n o,b,g.kp,m,h⟩
end
section
def zW (i:Nat){Φ:(List D->R D)->Hp->(bb->Prop)->bb->Prop}(a:MK X.prog X.w X.K X.mg X.base k n=Φ)(d:NP X (e::es) f)(g:LB f n)(h:Room k X.A)(j:X.N[i]?=some x:=by rfl)(l:HD X.env.scope x:=by first|exact aDd rfl|exact aCn (aDd rfl)|exact aCn (aCn rfl))(m:(x==ix)=false:=by decide)(o:(x==i3)=false:=by decide)(q:ba (e::es) X.env=(false,dm e X.env)::ba es X.env:=by rfl)(r:(cy b (ba es X.env)).any (·.1)=false:=by rfl):
  PD X (.Call (.Name x p) (e::es) [] b) (callC Φ i f):=by
 subst a;exact NL i d g h j l m o q r
def DC (r:NstOk X k n1)(s:NstOk X k n2)(t:ClosOk X n1 clos1)(u:ClosOk X n2 clos2)(v:∀x b,(x,b)∈clos1++clos2->X.env.cells.lookup x=some b)(z:jU X.mg X.base)(B:X.env.code=.ref c)(C:PySem.W.codeHdIn X.K c E=true)(j:(E,tb)∈Tabs.tbs)(l:(n1.pos,n1.qual)∈tb)(H:(n2.pos,n2.qual)∈tb)(I:∀p∈tb,p.1.line=n1.pos.line->p.1.col=n1.pos.col->p.2=n1.qual)(m:∀p∈tb,p.1.line=n2.pos.line->p.1.col=n2.pos.col->p.2=n2.qual)(J:n1.i≠n2.i)(L:X.N.Nodup)(O:YK X.prog X.w X.K X.mg X.base Q (k+1) x M)(T:Room Q X.A)(U:PD X e f)(Y:∀y,X.fn y=true)(hg:Gl X x:=by rfl)(il:(x==ix)=false:=by decide)(yo:ba [e,.Name n1.name h,.Name n2.name a] X.env=(false,dm e X.env)::ba [.Name n1.name h,.Name n2.name a] X.env:=by rfl)(zd:ba [.Name n1.name h,.Name n2.name a] X.env=(false,dm (.Name n1.name h) X.env)::ba [.Name n2.name a] X.env:=by rfl)(n:ba [.Name n2.name a] X.env=(false,dm (.Name n2.name a) X.env)::ba [] X.env:=by rfl)(bp:(cy o (ba [.Name n1.name h,.Name n2.name a] X.env)).any (·.1)=false:=by rfl):
  bV X [n1.stmt,n2.stmt,.Return (some (.Call (.Name x p) [e,.Name n1.name h,.Name n2.name a] [] o)) q] (λρ=>((f ((ρ.set n1.i .no).set n2.i .no)).bind λd1=>(dE n1.js ((ρ.set n1.i .no).set n2.i .no)).bind λw1=>(dE n2.js ((ρ.set n1.i .no).set n2.i .no)).bind λw2=>M d1 (n1.mm w1) (n2.mm w2)).bind λd=>.ok (.rt d)):=by
 obtain⟨g,gd,ps,FF,hb,hk,hm,h3⟩:=O;exact MA r s t u v z B C j l H I m J L FF T hm hk hb h3 U Y hg il yo zd n bp
end
end
end DL
namespace DL
open PySem L2
def _root_.L2.Room.ae6 (r:Room k A):A.units+130<cz:=by have:=r.un;lia
def _root_.L2.Room.ae2 (r:Room k A)(h:7<=k):A.units+300<cz:=by have:=r.un;lia
def LJ {y:Str}{d:bb}{a:List (Str×bb)}(h:a.lookup y=some d:=by rfl):∀(x:Str) (b:bb),(x,b)∈[(y,d)]++[(y,d)]->a.lookup x=some b:=λx b e=>by
 have:(x,b)=(y,d):=by simpa using e
 injection this with f g;subst f g;exact h
def HZ {sc:gW}{fn:List Str}{x:Str}(h:sc.names.lookup x=some .free)(a:(sc.names.all λp=>p.2 !=.free||fn.contains p.1)=true:=by decide+kernel):x∈fn:=by have b:=aCi.mp a _ (PySem.mem_of_lookup h);simpa using b
def GS:cv->Pos
 |.FunctionDef _ _ _ _ _ _ _ _ _ p=>p
 |_=>⟨0,0,0,0⟩
end DL
namespace M
open PySem L2 DL
def AO:D->Option G.V
 |.tup [.int a,.int b,.int c]=>some ⟨a,b,c⟩
 |_=>none
@[simp]def GW (v:G.V):AO (vd v)=some v:=rfl
def JY (h:AO d=some v):d=vd v:=by
 unfold AO at h;split at h
 .cases h;rfl
 .cases h
def I0:List D->Option (List G.V)
 |[]=>some []
 |d::a=>match AO d,I0 a with
  |some v,some L=>some (v::L)
  |_,_=>none
@[simp]theorem w9:∀L:List G.V,I0 (L.map vd)=some L
 |[]=>rfl
 |v::L=>by rw[aAi,I0,GW,w9 L]
theorem u3:∀{ds:List D} {L:List G.V},I0 ds=some L->ds=L.map vd
 |[],L,h=>by cases h;rfl
 |d::ds,L,h=>by
  unfold I0 at h;split at h
  .rename_i v e a b;cases h;rw[JY a,u3 b];rfl
  .cases h
def DB (h:vd u=vd v):u=v:=by
 have:AO (vd u)=AO (vd v):=by rw[h]
 simpa using this
def WZ {u v:List G.V}(h:u.map vd=v.map vd):u=v:=by
 have:I0 (u.map vd)=I0 (v.map vd):=by rw[h]
 simpa using this
def aZ (n:Nat)(j:List G.V):Prop:=(∀P∈j,Sz n P)/\j.length<=1000
def CV:Option G.V->D
 |some v=>vd v
 |none=>.non
def B7:List D->R D
 |[.lst Y]=>match I0 Y with
  |some a=>.ok (CV (G.C0 a))
  |none=>.bad
 |_=>.bad
open Classical in
def E8:List D->R D
 |[.lst Y]=>match I0 Y with
  |some j=>if j≠[]/\aZ 1000 j then .ok (.int (G.V3 j))else .bad
  |none=>.bad
 |_=>.bad
open Classical in
def G1:List D->R D
 |[.lst Y]=>match I0 Y with
  |some j=>if aZ 1000 j/\G.V3 j=3 then .ok .non else .bad
  |none=>.bad
 |_=>.bad
open Classical in
def A8:List D->R D:=v4 λa b c d=>EZ λY=>iQ (match I0 Y with
 |some j=>if Sz 10000 ⟨a,b,c⟩/\aZ 1000 j then .ok (.lst ((G.n8 ⟨a,b,c⟩ d j).map vd))else .bad
 |none=>.bad)
open Classical in
def G3:List D->R D:=UQ λN=>EZ λY=>iQ ((v1 λa b c=>v1 λd e f=>iQ (match I0 Y with
 |some j=>if Sz 1000 ⟨a,b,c⟩/\Sz 1000 ⟨d,e,f⟩/\aZ 1000 j/\G.T8 (G.b7 ⟨a,b,c⟩ ⟨d,e,f⟩ j).1 then .ok (rW (G.b7 ⟨a,b,c⟩ ⟨d,e,f⟩ j).1 (G.b7 ⟨a,b,c⟩ ⟨d,e,f⟩ j).2)else .bad
 |none=>.bad)) N)
abbrev J8 (p:G.V×G.V):D:=.tup [vd p.1,vd p.2]
structure Land (j:List G.V)(m:G.V):Prop where
 good:G.Good j m
 sz:aZ 900 j
 few:j.length<=63
 head:j.head?=some m
open Classical in
def K1:List D->R D
 |[.lst Y]=>match I0 Y with
  |some (m::j)=>if Land (m::j) m then .ok (J8 (G.i6 m (m::j)))else .bad
  |_=>.bad
 |_=>.bad
open Classical in
def gB:List D->R D:=v1 λa b c=>v1 λd e f=>v1 λg h i=>v1 λj k l=>iQ (
 if Sz 10000 ⟨a,b,c⟩/\Sz 1000 ⟨d,e,f⟩/\Sz 1000 ⟨g,h,i⟩/\Sz 1000 ⟨j,k,l⟩then .ok (.int (G.turn ⟨a,b,c⟩ ⟨d,e,f⟩ ⟨g,h,i⟩ ⟨j,k,l⟩))else .bad)
open Classical in
def U4:List D->R D:=v1 λa b c=>EZ λY=>iQ (match I0 Y with
 |some j=>if Sz 10000 ⟨a,b,c⟩/\aZ 1000 j then .ok (.lst ((G.y8 ⟨a,b,c⟩ j).reverse.map vd))else .bad
 |none=>.bad)
open Classical in
def Q5:List D->R D:=v1 λa b c=>EZ λY=>iQ (match I0 Y with
 |some j=>if Sz 10000 ⟨a,b,c⟩/\aZ 1000 j then .ok (.lst ((G.j6 ⟨a,b,c⟩ j).map vd))else .bad
 |none=>.bad)
def A9:List D->R D
 |[.lst Y]=>match I0 Y with
  |some j=>if j.length<=3000 then .ok (.lst ((G.z6 j).map J8))else .bad
  |none=>.bad
 |_=>.bad
abbrev n4 (j:List G.V)(f:G.V×Int):D:=.tup [rW f.1 f.2,.lst ((G.c7 j f).map vd)]
def dI (j:List G.V)(fs:List (G.V×Int)):Prop:=(∀f,f∈fs↔G.IsFace j f.1 f.2)/\xW T2 (fs.map<|n4 j)
open Classical in
def i5 (j:List G.V):List (G.V×Int):=if h:∃fs,dI j fs then h.choose else[]
def L6:List D->List D->R D
 |[w],[_]=>.ok w
 |_,_=>.bad
def F5:List D->List D->R D
 |[w],[p]=>A8 [p,w]
 |_,_=>.bad
open Classical in
def K3 (d:D) (a b:List D->R D):R D:=match a [.non]with
 |.ok (.lst Y)=>match I0 Y with
  |some (m::j)=>if Land (m::j) m/\(m::j).length<=23/\d=J8 (G.i6 m (m::j))/\a=L6 [.lst Y]/\b=F5 [.lst Y]then .ok (.lst ((i5 (m::j)).map (n4 (m::j))))else .bad
  |_=>.bad
 |_=>.bad
def d8 (j:List G.V):List G.V:=(cN<|j.map vd).filterMap AO
open Classical in
def M1:List D->R D
 |[.lst Y]=>match I0 Y with
  |some j=>if aZ 900 j/\G.j8 j/\(d8 j).length<=23 then .ok (.lst ((i5 (d8 j)).map (n4 (d8 j))))else .bad
  |none=>.bad
 |_=>.bad
def wj:D->Option (List G.V)
 |.tup [_,.lst Y]=>I0 Y
 |_=>none
def tE:List D->Option (List (List G.V))
 |[]=>some []
 |d::a=>match wj d,tE a with
  |some v,some L=>some (v::L)
  |_,_=>none
open Classical in
def K6:List D->R D
 |[.lst Y]=>match tE Y with
  |some a=>if a.flatten.length<=3000/\(d8 a.flatten).length<=63 then .ok (.lst ((d8 a.flatten).map vd))else .bad
  |none=>.bad
 |_=>.bad
def A1 (j:List G.V):List G.V:=d8 ((i5<|d8 j).flatMap (G.c7<|d8 j))
open Classical in
def J9:List D->R D
 |[.lst Y]=>match I0 Y with
  |some j=>if aZ 900 j/\G.j8 j/\(d8 j).length<=23 then .ok (.lst ((A1 j).map vd))else .bad
  |none=>.bad
 |_=>.bad
def ne0 (v:G.V):NA (vd v) (.tup [.int 0,.int 0,.int 0])=.ok (.bl (!decide (v=0))):=by rw[FN];congr 3;rw[aDY];simp only[aAQ,beq_iff_eq,decide_eq_true_eq,G.qM];exact⟨λh=>h,λh=>h⟩
def eq0 (v:G.V):UR (vd v) (.tup [.int 0,.int 0,.int 0])=.ok (.bl (decide (v=0))):=by rw[tx];congr 2;rw[aDY];simp only[aAQ,beq_iff_eq,decide_eq_true_eq,G.qM];exact⟨λh=>h,λh=>h⟩
def U7 (a:G d ρ=.ok ρ1)(b:F ρ1=.ok (.nx ρ2)):X9 G F (d::ds) ρ=X9 G F ds ρ2:=by rw[X9,a];dsimp only;rw[b]
def xD (a:G d ρ=.ok ρ1)(b:F ρ1=.ok (.rt x)):X9 G F (d::ds) ρ=.ok (.rt x):=by rw[X9,a];dsimp only;rw[b]
theorem fU {α:Type}(rep:α->D)(p:α->Bool)(g:α->D):∀(l:List α),(∀a∈l,∃ρ1,G (rep a) ρ=.ok ρ1/\ft ρ1=.ok (p a)/\(p a=true->fe ρ1=.ok (g a)))->z8 G ft fe ρ (l.map rep)=.ok ((l.filter p).map g)
 |[],_=>rfl
 |a::l,h=>by
  obtain⟨ρ1,e,f,i⟩:=h a (.head _);have j:=fU rep p g l λb k=>h b (.tail _ k);rw[aAi,z8,e];dsimp only;rw[f,R.aa0,j];cases d:p a with
  |false=>rw[h9 (by decide),aDf (by simp[d])]
  |true=>rw[hV rfl,i d,R.aa0,R.aa0,aDe d];rfl
def Q1 {α:Type}(rep:α->D)(g:α->D)(l:List α)(h:∀a∈l,∃ρ1,G (rep a) ρ=.ok ρ1/\fe ρ1=.ok (g a)):z8 G (λ_=>.ok true) fe ρ (l.map rep)=.ok (l.map g):=by
 have:=fU rep (G:=G) (ft:=λ_=>.ok true) (fe:=fe) (ρ:=ρ) (λ_=>true) g l λa b=>let⟨ρ1,d,e⟩:=h a b;⟨ρ1,d,rfl,λ_=>e⟩
 rw[this,List.filter_eq_self.mpr λ_ _=>rfl]
def small (h:n<=1000):n<=sizeLine:=aAl h (by decide)
def RU (h:n<=3000):n<=sizeLine:=aAl h (by decide)
def aZ.sub (h:aZ n j)(b:∀P∈a,P∈j)(d:a.length<=j.length):aZ n a:=⟨λP e=>h.1 P (b P e),aAl d h.2⟩
def aZ.mono (h:aZ m j)(a:m<=n:=by decide):aZ n j:=⟨λP b=>(h.1 P b).mono a,h.2⟩
def a4j (t:Int):(sgn t==0)=decide (t=0):=by
 unfold sgn;by_cases h:0<t
 .rw[hV h];simp;lia
 .rw[h9 h];by_cases a:t<0
  .rw[hV a];simp;lia
  .rw[h9 a];simp;lia
def iZ (a:Sz 10000 n)(b:aZ 1000 j):A8 [rW n d,.lst (j.map vd)]=.ok (.lst ((G.n8 n d j).map vd)):=by simp only[A8,v4,UQ,vM,EZ,iQ,w9];exact hV ⟨a,b⟩
def TM (a:j≠[])(b:aZ 1000 j):E8 [.lst (j.map vd)]=.ok (.int (G.V3 j)):=by simp only[E8,w9];exact hV ⟨a,b⟩
def DE (ws:List G.V):B7 [.lst (ws.map vd)]=.ok (CV (G.C0 ws)):=by simp only[B7,w9]
def FX (bs:List Bool):dG (bs.map D.bl)=some bs:=by
 induction bs with
 |nil=>rfl
 |cons b bs a=>rw[aAi,dG,a];rfl
def uw (bs:List Bool):anyR [.lst (bs.map D.bl)]=.ok (.bl (bs.any id)):=by simp only[anyR,FX]
def ZB (Y:List D):KF (.lst Y) none (some (-1))=.ok (.lst Y.dropLast):=by
 show R.ok (D.lst<|cutD Y none<|some (-1))=_;unfold cutD HT.sIx;rw[aEk];simp;congr 1
 lia
def UU (Y:List D):KF (.lst Y) (some 1) none=.ok (.lst Y.tail):=by
 show R.ok (D.lst<|cutD Y (some 1) none)=_;unfold cutD HT.sIx;cases Y with
 |nil=>rfl
 |cons a l=>simp
def uz (Y:List D):KF (.lst Y) none (some 1)=.ok (.lst (Y.take 1)):=by
 show R.ok (D.lst<|cutD Y none<|some 1)=_;unfold cutD HT.sIx;cases Y with
 |nil=>rfl
 |cons a l=>simp
def ax (Y:List D)(a b:D):rO (Y++[a,b]) (-1)=some b:=by
 have d:(Y++[a,b]).length=Y.length+2:=by simp
 unfold rO ZK;rw[d,h9 (by decide),hV (by lia)];show(Y++[a,b])[((-1:Int)+((Y.length+2:Nat):Int)).toNat]?=_;have:((-1:Int)+((Y.length+2:Nat):Int)).toNat=Y.length+1:=by lia
 rw[this,aAz (by lia),show Y.length+1-Y.length=1 by lia];rfl
def ZL (Y:List D)(a b:D):rO (Y++[a,b]) (-2)=some a:=by
 have d:(Y++[a,b]).length=Y.length+2:=by simp
 unfold rO ZK;rw[d,h9 (by decide),hV (by lia)];show(Y++[a,b])[((-2:Int)+((Y.length+2:Nat):Int)).toNat]?=_;have:((-2:Int)+((Y.length+2:Nat):Int)).toNat=Y.length:=by lia
 rw[this,aAz (by lia),Nat.sub_self];rfl
def a0n (a:D)(Y:List D):rO (a::Y) 0=some a:=by rw[bP (by decide)];rfl
def a1w (a b:D)(Y:List D):rO (a::b::Y) 1=some b:=by rw[bP (by decide)];rfl
def XB {P Q R:G.V}(h:G.T8 (G.j7 P Q R).1):G.cr (Q-P) (R-P)≠0:=λe=>by
 have:(G.j7 P Q R).1=0:=by show G.iK (G.cr (Q-P)<|R-P) _=0;rw[e];rfl
 rw[this]at h;unfold G.T8 at h;exact absurd h (by decide)
theorem zF:∀{c:List G.V},(G.X8 n P c).length<=c.length
 |[]=>aAj _
 |[a]=>aAj _
 |b::a::r=>by
  unfold G.X8;split
  .exact aAl (zF (c:=a::r)) (by simp)
  .exact aAj _
theorem pK:∀(a c:List G.V),(a.foldl (λc P=>P::G.X8 n P c) c).length<=a.length+c.length
 |[],c=>by simp
 |P::a,c=>by refine aAl (pK a _) ?_;have:=zF (n:=n) (P:=P) (c:=c);simp;lia
def uS (n:G.V)(ps:List G.V):(G.y8 n ps).length<=ps.length:=by simpa[G.y8]using pK (n:=n) ps []
theorem uC {α β:Type}(f:α->D):∀(Y N:List α),lZ (Y.map f) (N.map f)=(Y.zip N).map λp=>D.tup [f p.1,f p.2]
 |[],_=>by simp[lZ]
 |_::_,[]=>by simp[lZ]
 |x::Y,y::N=>by have:=uC (β:=β) f Y N;simp only[lZ]at this⊢;simp[this]
def ZH (a:Sz 10000 n)(b:aZ 1000 j):U4 [vd n,.lst (j.map vd)]=.ok (.lst ((G.y8 n j).reverse.map vd)):=by simp only[U4,v1,UQ,vM,EZ,iQ,w9];exact hV ⟨a,b⟩
def IV {n P Q R:G.V}(h:Sz 10000 n)(a:Sz 1000 P)(b:Sz 1000 Q)(d:Sz 1000 R):gB [vd n,vd P,vd Q,vd R]=.ok (.int (G.turn n P Q R)):=hV ⟨h,a,b,d⟩
def W9 (a:Sz 1000 A)(b:Sz 1000 B)(d:aZ 1000 j)(e:G.T8 (G.b7 A B j).1):G3 [.tup [vd A,vd B],.lst (j.map vd)]=.ok (rW (G.b7 A B j).1 (G.b7 A B j).2):=by simp only[G3,v1,UQ,vM,EZ,iQ,w9];exact hV ⟨a,b,d,e⟩
def ZA (a:Sz 10000 n)(b:aZ 1000 j):Q5 [vd n,.lst (j.map vd)]=.ok (.lst ((G.j6 n j).map vd)):=by simp only[Q5,v1,UQ,vM,EZ,iQ,w9];exact hV ⟨a,b⟩
def SQ (h:j.length<=3000):A9 [.lst (j.map vd)]=.ok (.lst ((G.z6 j).map J8)):=by simp only[A9,w9];exact hV h
def jP (h:a.length+b.length<=sizeLine):qQ (.lst a) (.lst b)=.ok (.lst (a++b)):=hV h
def UE (a b:G.V):HT.lexLt (flat (vd a)) (flat (vd b))=true↔G.f9 (b-a):=by
 show HT.lexLt [a.x,a.y,a.z] [b.x,b.y,b.z]=true↔_;unfold G.f9;simp only[HT.lexLt,G.ID,G.IW,G.HN];by_cases d:a.x=b.x
 .by_cases e:a.y=b.y
  .by_cases f:a.z=b.z
   .simp[d,e,f]
   .simp[d,e,f];try lia
  .simp[d,e];try lia
 .simp[d];try lia
def EF {j:List G.V}(h:j.Pairwise λa b=>G.f9 (b-a)):UN (j.map vd):=aBb.mpr (h.imp λ{a b} q=>(UE a b).mpr q)
def ck {j:List G.V}(h:UN (j.map vd)):j.Pairwise λa b=>G.f9 (b-a):=(aBb.mp h).imp λ{a b} q=>(UE a b).mp q
def MP (j:List G.V):(j.map vd).all cP=true:=aCi.mpr λd a=>by obtain⟨v,_,rfl⟩:=aAk.mp a;rfl
def vk [Tabs]{m:G.V}{j:List G.V}(h:(m::j).Pairwise λa b=>G.f9 (b-a)):RA [.lst ((m::j).map vd)]=.ok (vd m):=by show(if(m::j).map vd≠[]/\((m::j).map vd).all cP=true then _ else _)=_;rw[hV ⟨by simp,MP _⟩,VD (EF h) _ (by simp)];rfl
def KU {k:Nat}{P Q R:G.V}(p:Sz k P)(q:Sz k Q)(r:Sz k R):Sz (k+1+(k+1)+1) (G.j7 P Q R).1:=by
 have a:=(q.sub p).cr (r.sub p);by_cases d:G.cr (Q-P) (R-P)=0
 .have:(G.j7 P Q R).1=0:=by show G.iK (G.cr (Q-P)<|R-P) _=0;rw[d];rfl
  rw[this];exact⟨aAX _,aAX _,aAX _⟩
 .obtain⟨h,i,j⟩:=G.fS d;have e:=bits_fdiv (b:=(G.x4 (G.cr (Q-P)<|R-P):Int)) a.1;have f:=bits_fdiv (b:=(G.x4 (G.cr (Q-P)<|R-P):Int)) a.2.1;have g:=bits_fdiv (b:=(G.x4 (G.cr (Q-P)<|R-P):Int)) a.2.2;rw[pN h]at e f g;exact⟨e,f,g⟩
def pE {P Q R:G.V}(p:Sz 1000 P)(q:Sz 1000 Q)(r:Sz 1000 R):Sz 2003 (G.j7 P Q R).1:=KU p q r
def BI {A B:G.V}{j:List G.V}(p:Sz 1000 A)(q:Sz 1000 B)(r:aZ 1000 j):Sz 2003 (G.b7 A B j).1:=by
 unfold G.b7;rcases G.lJ (a:=B-A) (A:=A) j 0 A with h|h
 .exact pE p q (r.1 _ h)
 .rw[h];exact pE p q p
def a1a (m:G.V):vd (m+G.kk)=.tup [.int m.x,.int m.y,.int (m.z+1)]:=by simp[G.kk]
def NX (h:Sz 900 m):Sz 1000 (m+G.kk):=(h.add (v:=G.kk) ⟨by decide,by decide,by decide⟩).mono
def UI (h:aZ k j):aZ k (G.n8 n d j):=h.sub (λP a=>(G.c6.mp a).1) (aFL _ _)
def QI {α:Type}{l:List α}{a b:α}(d:a∈l)(e:b∈l)(h:a≠b):∃x y r,l=x::y::r:=by
 match l,d,e with
 |[x],d,e=>exact absurd ((aAN.mp d).trans (aAN.mp e).symm) h
 |x::y::r,_,_=>exact⟨x,y,r,rfl⟩
open Classical in
def SX {J:List (D×D)}{k v a:D}:a∈(gG J k v).map (·.1)↔a∈J.map (·.1)\/a=k:=by
 unfold gG;split
 .rename_i h;rw[aAV];have:((λx=>x.1)∘λp:D×D=>if p.1=k then(p.1,v)else p)=λp=>p.1:=by funext p;simp only[aGs];split<;>rfl
  rw[this];exact⟨.inl,λq=>q.elim id λe=>by rw[e];exact h⟩
 .rw[aBA,aAP];simp
def NF {J:List (D×D)}{k v:D}:(gG J k v).length<=J.length+1:=by
 unfold gG;split
 .simp
 .simp
def WI {p q:G.V×G.V}(h:J8 p=J8 q):p=q:=by injection h with h;injection h with b a;injection a with a _;exact aDB (DB b) (DB a)
def FI (p:G.V×G.V):T0 7 (J8 p)=true/\KA (J8 p)=true:=⟨rfl,rfl⟩
def ffC:Ev->R Bool:=λρ=>((((zN 5 ρ).bind λd=>R.ok [d]).bind vX).bind λx=>gtR x (D.int 0)).bind CT
def ffS:Ev->R Out:=λρ=>
 F8 ((dZ 9 ρ).bind λa=>AU 4 ρ a (D.bl true)) λρ=>((((zN 9 ρ).bind λx=>P6 x (D.int 1)).bind λd=>(((zN 9 ρ).bind λx=>P6 x (D.int 0)).bind λd=>R.ok [d]).bind λb=>R.ok (d::b)).bind sF).bind (CG 5 ρ)
theorem GK {a0 a1 a2 a3 a6 a7 a8:Sl}:∀(a:List (G.V×G.V)) (J:List (D×D)) (W:List (G.V×G.V)) (g:Sl),J.length+a.length<=10000->W.length+a.length<=10000->
  ∃f b,X9 (λd ρ=>R.ok (aEc ρ 9 (Sl.v d))) ffS (a.map J8) [a0,a1,a2,a3,.d J,.o (W.map J8),a6,a7,a8,g]=.ok (.nx [a0,a1,a2,a3,.d f,.o ((W++a.map λq=>(q.2,q.1)).map J8),a6,a7,a8,b])/\
   (∀e:G.V×G.V,J8 e∈f.map (·.1)↔J8 e∈J.map (·.1)\/e∈a)/\f.length<=J.length+a.length
 |[],J,W,g,_,_=>⟨J,g,by simp,λe=>by simp,by simp⟩
 |q::a,J,W,g,i,j=>by
  simp only[aAp]at i j;have u:=NF (J:=J) (k:=J8 q) (v:=.bl true);obtain⟨f,b,e,m,l⟩:=GK a (gG J (J8 q)<|.bl true) (W++[(q.2,q.1)]) (.v (J8 q)) (by lia) (by simp;lia);refine⟨f,b,?_,λx=>?_,by simp;lia⟩
  .rw[aAi];refine(U7 (ρ2:=[a0,a1,a2,a3,.d (gG J (J8 q)<|.bl true),.o ((W++[(q.2,q.1)]).map J8),a6,a7,a8,.v (J8 q)]) rfl ?_).trans ?_
   .have n:J.length<=sizeLine:=aAl (show J.length<=10000 by lia) (by decide);have p:(W.map J8).length<sizeLine:=by rw[aAf];exact aCR (show W.length<=10000 by lia) (by decide)
    have r:AU 4 [a0,a1,a2,a3,.d J,.o (W.map J8),a6,a7,a8,.v (J8 q)] (J8 q) (.bl true)=.ok (.nx [a0,a1,a2,a3,.d (gG J (J8 q)<|.bl true),.o (W.map J8),a6,a7,a8,.v (J8 q)]):=by show(if _ then _ else _)=_;rw[hV ⟨(FI q).1,(FI q).2,n⟩];rfl
    have s:CG 5 [a0,a1,a2,a3,.d (gG J (J8 q)<|.bl true),.o (W.map J8),a6,a7,a8,.v (J8 q)] (J8 (q.2,q.1))=.ok (.nx [a0,a1,a2,a3,.d (gG J (J8 q)<|.bl true),.o ((W++[(q.2,q.1)]).map J8),a6,a7,a8,.v (J8 q)]):=by show(if _ then _ else _)=_;rw[hV p,aBA];rfl
    show F8 ((R.ok<|J8 q).bind λt=>AU 4 [a0,a1,a2,a3,.d J,.o (W.map J8),a6,a7,a8,.v (J8 q)] t (D.bl true)) _=_;rw[R.aa0,r];exact s
   .rw[e];simp
  .rw[m x,SX,aAd];constructor
   .rintro((h|h)|h)
    .exact .inl h
    .exact .inr (.inl (WI h))
    .exact .inr (.inr h)
   .rintro(h|h|h)
    .exact .inl (.inl h)
    .exact .inl (.inr (by rw[h]))
    .exact .inr h
section
variable(Φ:(List D->R D)->Hp->(bb->Prop)->bb->Prop)
def ffB:Ev->R Out:=λρ=>
 F8 ((FT 5 ρ).bind λz=>R.ok (Out.nx<|aEc z.snd 6<|Sl.v z.fst)) λρ=>
  ((dZ 6 ρ).bind (qL 4 ρ)).bind λt=>
   if t=true then
    F8
     ((((dZ 6 ρ).bind λd=>((callC Φ 1 (t4 (λρ=>(zN 6 ρ).bind λx=>P6 x (D.int 0)) V2) ρ).bind λd=>R.ok [d]).bind λa=>R.ok (d::a)).bind G3).bind λd=>R.ok (Out.nx<|aEc ρ 7<|Sl.v d))
     λρ=>
     F8
      (((((zN 7 ρ).bind λx=>KF x none (some 3)).bind λd=>((callC Φ 2 (t4 (dZ 7) V2) ρ).bind λd=>R.ok [d]).bind λa=>R.ok (d::a)).bind Q5).bind λd=>R.ok (Out.nx<|aEc ρ 8<|Sl.v d))
      λρ=>
      F8 ((((dZ 7 ρ).bind λd=>((dZ 8 ρ).bind λd=>R.ok [d]).bind λa=>R.ok (d::a)).bind sF).bind (CG 3 ρ))
       λρ=>((((dZ 8 ρ).bind λd=>R.ok [d]).bind A9).bind jX).bind λa=>X9 (λd ρ=>R.ok (aEc ρ 9<|Sl.v d)) ffS a ρ
   else R.ok (Out.nx ρ)
def BQ (L:D) (e:G.V×G.V) (fs:List D) (J:List (D×D)) (W:List (G.V×G.V)) (a b c d:Sl):Ev:=
 [Sl.v (J8 e),Sl.c (L6 [L]) (Φ<|L6 [L]),Sl.c (F5 [L]) (Φ<|F5 [L]),.o fs,.d J,.o (W.map J8),a,b,c,d]
end
def BR {Φ:(List D->R D)->Hp->(bb->Prop)->bb->Prop}{i:Nat}{f:Ev->R (List D)}{ρ:Ev}{m:List D->R D}{ds:List D}(h:ρ[i]?=some (.c m (Φ m)))(a:f ρ=.ok ds):callC Φ i f ρ=m ds:=by unfold callC;rw[h];dsimp only;rw[hV rfl,a];rfl
def iD (j:List G.V)(fs:List (G.V×Int)):Nat:=(fs.map λf=>(G.c7 j f).length).sum
def fJ (j:List G.V)(fs:List (G.V×Int))(f:G.V×Int):iD j (fs++[f])=iD j fs+(G.c7 j f).length:=by simp[iD]
def NW {j:List G.V}{m:G.V}(h:Land j m):Sz 1000 (G.i6 m j).1/\Sz 1000 (G.i6 m j).2:=by
 have a:Sz 900 m:=h.sz.1 m h.good.mem;obtain⟨k,e,f,g,i⟩:=G.zH h.good.solid h.good.mem h.good.least;unfold G.i6;dsimp only;split
 .exact⟨a.mono,NX a⟩
 .obtain⟨x,y,r,b⟩:=QI e g i;rw[b];have q:∀z∈x::y::r,Sz 1000 z:=λz d=>by rw[<-b]at d;exact(h.sz.1 z (G.c6.mp d).1).mono
  exact⟨q x (.head _),q y (.tail _ (.head _))⟩
def WQ {j:List G.V}{m:G.V}(h:Land j m){fs:List (G.V×Int)}{b:G.V×G.V->Prop}{W:List (G.V×G.V)}(L:G.LInv j (G.i6 m j) fs b W){p:G.V×G.V}(d:p∈W):Sz 1000 p.1/\Sz 1000 p.2:=by
 rcases L.wt p d with⟨f,g,i⟩|⟨_,e⟩
 .have S:=(L.face f g).aa2 h.good.ord;have a:=S.aa1.mp i;exact⟨(h.sz.1 _ (G.c6.mp a.q).1).mono,(h.sz.1 _ (G.c6.mp a.p).1).mono⟩
 .rw[e];exact NW h
def MS {j:List G.V}{m:G.V}(h:Land j m){f:G.V×Int}(a:G.IsFace j f.1 f.2):(G.c7 j f).length<=j.length:=by have S:=a.aa2 h.good.ord;exact G.u6 S.aa3 λx b=>(G.c6.mp<|S.aa4 b).1
def zE {j:List G.V}{f g:G.V×Int}(h:T2 (n4 j f)=T2 (n4 j g)):f=g:=by have h:[f.1.x,f.1.y,f.1.z,f.2]=[g.1.x,g.1.y,g.1.z,g.2]:=h;simp only[aFT,and_true]at h;exact aDB (G.ext h.1 h.2.1 h.2.2.1) h.2.2.2
def rX {α β:Type}{f:α->β}(d:∀a b,f a=f b->a=b){l:List α}(h:l.Nodup):(l.map f).Nodup:=aBb.mpr (h.imp λ{a b} n e=>n (d a b e))
def YS {Φ:(List D->R D)->Hp->(bb->Prop)->bb->Prop}{j:List G.V}{m:G.V}(hz:Land j m){fs:List (G.V×Int)}{J:List (D×D)}{W:List (G.V×G.V)}{a b c d:Sl}(L:G.LInv j (G.i6 m j) fs (λe=>J8 e∈J.map (·.1)) W)
  (hk:J.length<=iD j fs) (hW:W.length<=1+iD j fs) {n:Nat} (hn:W.length+(j.length*j.length-iD j fs)<n+1) (U:W≠[]):
  ∃l r W' Y b' c' d',ffB Φ (BQ Φ (.lst (j.map vd)) (G.i6 m j) (fs.map (n4 j)) J W a b c d)=.ok (.nx (BQ Φ (.lst (j.map vd)) (G.i6 m j) (l.map (n4 j)) r W' Y b' c' d'))/\
   G.LInv j (G.i6 m j) l (λe=>J8 e∈r.map (·.1)) W'/\r.length<=iD j l/\W'.length<=1+iD j l/\W'.length+(j.length*j.length-iD j l)<n:=by
 obtain⟨rest,p,rfl⟩:∃rest p,W=rest++[p]:=⟨W.dropLast,W.getLast U,(List.dropLast_concat_getLast U).symm⟩;have s:=G.uB hz.good.solid hz.good.ord L.nd L.face;have few:=hz.few;have nn:j.length*j.length<=63*63:=aFe few few;have hsum:iD j fs+j.length<=j.length*j.length:=s;have E:(rest++[p]).length=rest.length+1:=by simp
 rw[E]at hW hn;have H:FT 5 (BQ Φ (.lst (j.map vd)) (G.i6 m j) (fs.map<|n4 j) J (rest++[p]) a b c d)=.ok (J8 p,BQ Φ (.lst (j.map vd)) (G.i6 m j) (fs.map<|n4 j) J rest a b c d):=by show(match((rest++[p]).map J8)[((rest++[p]).map J8).length-1]? with|some d=>_|none=>_:R (D×Ev))=_;rw[aBA];simp;rfl
 have I:qL 4 (BQ Φ (.lst (j.map vd)) (G.i6 m j) (fs.map<|n4 j) J rest (.v (J8 p)) b c d) (J8 p)=.ok (!(open Classical in decide (J8 p∈J.map (·.1)))):=by unfold qL;rw[show(BQ Φ (.lst (j.map vd)) (G.i6 m j) (fs.map<|n4 j) J rest (.v (J8 p)) b c d)[4]?=some (.d J)from rfl];dsimp only;rw[hV (FI p)]
 have B:aZ 1000 j:=hz.sz.mono;unfold ffB;rw[H];show∃l r W' Y b' c' d',F8 (R.ok<|Out.nx<|BQ Φ (.lst (j.map vd)) (G.i6 m j) (fs.map<|n4 j) J rest (.v (J8 p)) b c d) _=_/\_;rw[E9];rw[show dZ 6 (BQ Φ (.lst (j.map vd)) (G.i6 m j) (fs.map<|n4 j) J rest (.v (J8 p)) b c d)=.ok (J8 p)from rfl,R.aa0,I,R.aa0];by_cases t:J8 p∈J.map (·.1)
 .refine⟨fs,J,rest,.v (J8 p),b,c,d,?_,G.PN hz.good L rfl t,hk,by lia,by lia⟩;rw[decide_eq_true t];rfl
 .have u:p∈rest++[p]:=by simp
  obtain⟨C,n2,n3⟩:=G.zT hz.good L u t;obtain⟨w,y⟩:=WQ hz L u;have ab:=W9 w y B C.prim;have i:=BI w y B;obtain⟨f,ef⟩:∃f,G.b7 p.1 p.2 j=f:=⟨_,rfl⟩;rw[ef]at C n2 n3 ab i;have po:=iZ (d:=f.2) i.mono B;have N:=ZA (n:=f.1) (j:=G.n8 f.1 f.2 j) i.mono (UI B);have rl:=MS hz C;have N:Q5 [vd f.1,.lst ((G.n8 f.1 f.2 j).map vd)]=.ok (.lst ((G.c7 j f).map vd)):=N;have pr:=SQ (j:=G.c7 j f) (by lia);have O:=λ{wk'} {W'} h1 h2=>G.QB hz.good L (rest:=rest) (p:=p) rfl t (walked':=wk') (waiting':=W') h1 h2;rw[ef]at O;have mr:(fs++[f]).Nodup:=by
   have:=(O (wk':=λe=>J8 e∈J.map (·.1)\/e∈G.z6 (G.c7 j f)) (W':=rest++(G.z6<|G.c7 j f).map λq=>(q.2,q.1)) (λe=>Iff.rfl) (λq=>by
    rw[aAP,aAk];constructor
    .rintro(h|⟨x,Q,rfl⟩)
     .exact .inl h
     .exact .inr Q
    .rintro(h|h)
     .exact .inl h
     .exact .inr ⟨_,h,rfl⟩))
   exact this.nd
  have k:iD j (fs++[f])+j.length<=j.length*j.length:=G.uB hz.good.solid hz.good.ord mr λg hg=>by
   rcases aAP.mp hg with z|z
   .exact L.face g z
   .rw[aAN.mp z];exact C
  rw[fJ]at k;have clen:(G.z6<|G.c7 j f).length=(G.c7 j f).length:=by unfold G.z6;simp;lia
  obtain⟨r,T,run,A,len'⟩:=GK (a0:=Sl.v (J8<|G.i6 m j)) (a1:=Sl.c (L6 [.lst (j.map vd)]) (Φ<|L6 [.lst (j.map vd)])) (a2:=Sl.c (F5 [.lst (j.map vd)]) (Φ<|F5 [.lst (j.map vd)])) (a3:=.o ((fs++[f]).map (n4 j))) (a6:=.v (J8 p)) (a7:=.v (rW f.1 f.2)) (a8:=.v (.lst ((G.c7 j f).map vd))) (G.z6<|G.c7 j f) J rest d (by lia) (by lia);refine⟨fs++[f],r,rest++(G.z6<|G.c7 j f).map (λq=>(q.2,q.1)),.v (J8 p),.v (rW f.1 f.2),.v (.lst ((G.c7 j f).map vd)),T,?_,O A (λq=>?_),?_,?_,?_⟩
  .have ap:CG 3 (BQ Φ (.lst (j.map vd)) (G.i6 m j) (fs.map<|n4 j) J rest (.v (J8 p)) (.v (rW f.1 f.2)) (.v (.lst ((G.c7 j f).map vd))) d) (n4 j f)=.ok (.nx (BQ Φ (.lst (j.map vd)) (G.i6 m j) ((fs++[f]).map (n4 j)) J rest (.v (J8 p)) (.v (rW f.1 f.2)) (.v (.lst ((G.c7 j f).map vd))) d)):=by show(if(fs.map<|n4 j).length<sizeLine then _ else _)=_;have h3:=G.nG hz.good.solid hz.good.ord L.face;have h3:3*fs.length<=iD j fs:=h3;rw[hV (by rw[aAf];exact aCR (show fs.length<=4000 by lia) (by decide)),aBA];rfl
   have ca:callC Φ 1 (t4 (λρ=>(zN 6 ρ).bind λx=>P6 x (D.int 0)) V2) (BQ Φ (.lst (j.map vd)) (G.i6 m j) (fs.map<|n4 j) J rest (.v (J8 p)) b c d)=.ok (.lst (j.map vd)):=by exact(BR (m:=L6 [.lst (j.map vd)]) (ds:=[vd p.1]) rfl rfl).trans rfl
   have ct:callC Φ 2 (t4 (dZ 7) V2) (BQ Φ (.lst (j.map vd)) (G.i6 m j) (fs.map<|n4 j) J rest (.v (J8 p)) (.v (rW f.1 f.2)) c d)=.ok (.lst ((G.n8 f.1 f.2 j).map vd)):=by exact(BR (m:=F5 [.lst (j.map vd)]) (ds:=[rW f.1 f.2]) rfl rfl).trans po
   have sl:KF (rW f.1 f.2) none (some 3)=.ok (vd f.1):=rfl;rw[decide_eq_false t];simp only[Bool.not_false,if_true];rw[ca,R.aa0,R.aa0,R.aa0,R.aa0,ab,R.aa0];show F8 (R.ok<|Out.nx<|BQ Φ (.lst (j.map vd)) (G.i6 m j) (fs.map<|n4 j) J rest (.v (J8 p)) (.v (rW f.1 f.2)) c d) _=_;rw[E9];rw[ct];show F8 ((((R.ok<|rW f.1 f.2).bind λx=>KF x none (some 3)).bind λd=>(R.ok [D.lst ((G.n8 f.1 f.2 j).map vd)]).bind λds=>R.ok (d::ds)).bind Q5|>.bind λd=>R.ok (Out.nx<|aEc _ 8<|Sl.v d)) _=_;rw[R.aa0,sl,R.aa0,R.aa0,R.aa0,N,R.aa0];show F8 (R.ok<|Out.nx<|BQ Φ (.lst (j.map vd)) (G.i6 m j) (fs.map<|n4 j) J rest (.v (J8 p)) (.v (rW f.1 f.2)) (.v (.lst ((G.c7 j f).map vd))) d) _=_;rw[E9];show F8 (CG 3 (BQ Φ (.lst (j.map vd)) (G.i6 m j) (fs.map<|n4 j) J rest (.v (J8 p)) (.v (rW f.1 f.2)) (.v (.lst ((G.c7 j f).map vd))) d)<|n4 j f) _=_;rw[ap,E9];show((A9 [.lst ((G.c7 j f).map vd)]).bind jX).bind _=_;rw[pr,R.aa0];exact run
  .rw[aAP,aAk];constructor
   .rintro(h|⟨x,Q,rfl⟩)
    .exact .inl h
    .exact .inr Q
   .rintro(h|h)
    .exact .inl h
    .exact .inr ⟨_,h,rfl⟩
  .rw[fJ];lia
  .rw[fJ,aAB,aAf];lia
  .rw[fJ,aAB,aAf];lia
def UW (j:List G.V)(f:G.V×Int):List (G.V×Int)->List (G.V×Int)
 |[]=>[f]
 |x::Y=>if HT.lexLt (T2 (n4 j f)) (T2 (n4 j x))=true then f::x::Y else x::UW j f Y
def HM (j:List G.V)(fs:List (G.V×Int)):List (G.V×Int):=fs.foldr (UW j) []
theorem AF (j:List G.V)(f:G.V×Int):∀Y:List (G.V×Int),wR T2 (n4 j f) (Y.map (n4 j))=(UW j f Y).map (n4 j)
 |[]=>rfl
 |x::Y=>by
  unfold UW;rw[aAi,wR];split
  .rfl
  .rw[aAi,AF j f Y]
theorem fN (j:List G.V):∀fs:List (G.V×Int),qX T2 (fs.map (n4 j))=(HM j fs).map (n4 j)
 |[]=>rfl
 |f::fs=>by show wR T2 (n4 j f) (qX T2 (fs.map (n4 j)))=_;rw[fN j fs,AF];rfl
def kW (h:n4 j f=n4 j g):f=g:=zE (by rw[h])
theorem gK:∀{a b:List (G.V×Int)},a.map (n4 j)=b.map (n4 j)->a=b
 |[],[],_=>rfl
 |[],_::_,h=>by cases h
 |_::_,[],h=>by cases h
 |x::a,y::b,h=>by rw[aAi,aAi]at h;injection h with d e;rw[kW d,gK e]
def LY:f∈HM j fs↔f∈fs:=by
 have h:=(V9 T2<|fs.map<|n4 j).mem_iff (a:=n4 j f);rw[fN]at h;constructor
 .intro q;obtain⟨g,b,e⟩:=aAk.mp (h.mp<|aBL q);rw[<-kW e];exact b
 .intro q;obtain⟨g,b,e⟩:=aAk.mp (h.mpr<|aBL q);rw[<-kW e];exact b
def vF [Tabs]{j:List G.V}{fs:List (G.V×Int)}(h:fs.Nodup):((fs.map (n4 j)).map T2).Nodup:=by rw[aAV];exact rX (λa b e=>zE (j:=j) e) h
def X4 (h:xW k l):l.Nodup:=h.imp λ{a b} q e=>by subst e;rw[TS.lex_irrefl]at q;cases q
def N4 {j:List G.V}{fs:List (G.V×Int)}(h:(fs.map (n4 j)).Nodup):fs.Nodup:=(aBb.mp h).imp λ{a b} n e=>n (by rw[e])
def zK {j:List G.V}{fs a:List (G.V×Int)}(b:dI j fs)(d:dI j a):fs=a:=by
 have e:=N4 (X4 b.2);have g:=N4 (X4 d.2);have p:fs.Perm a:=(aBf e g).mpr λf=>by rw[b.1,d.1]
 exact gK (lK b.2 d.2 (p.map _))
def qO (h:dI j fs):i5 j=fs:=by unfold i5;have q:∃fs,dI j fs:=⟨fs,h⟩;rw[dif_pos q];exact zK q.choose_spec h
def uI [Tabs]{j:List G.V}{fs:List (G.V×Int)}(a:fs.Nodup)(h:∀n d,(n,d)∈fs↔G.IsFace j n d):dI j (HM j fs):=by refine⟨λf=>by rw[LY];exact h f.1 f.2,?_⟩;rw[<-fN];exact mL (vF a)
def a1p [Tabs]{Φ:(List D->R D)->Hp->(bb->Prop)->bb->Prop}{j:List G.V}{m:G.V}(hz:Land j m)(s:j.length<=23):
  O6 (F8 (S9 ffC (ffB Φ) 5000 (BQ Φ (.lst (j.map vd)) (G.i6 m j) [] [] [G.i6 m j] .no .no .no .no)) λρ=>(((zN 3 ρ).bind sfR).bind λds=>R.ok (D.lst ds)).bind λd=>R.ok (Out.rt d))=.ok (.lst ((i5 j).map (n4 j))):=by
 refine LO (Iv:=λn ρ=>∃fs J W a b c d,ρ=BQ Φ (.lst (j.map vd)) (G.i6 m j) (fs.map<|n4 j) J W a b c d/\G.LInv j (G.i6 m j) fs (λe=>J8 e∈J.map (·.1)) W/\J.length<=iD j fs/\W.length<=1+iD j fs/\W.length+(j.length*j.length-iD j fs)<n) ?_ ?_ ?_ (by rintro ρ ⟨_,_,_,_,_,_,_,_,_,_,_,h⟩;lia)
 .rintro n ρ ⟨fs,J,W,a,b,c,d,rfl,L,t,u,v⟩;by_cases i:W=[]
  .subst i;exact .inl rfl
  .refine .inr ⟨?_,?_⟩
   .have w:(0:Int)<((W.map J8).length:Int):=by have:=aEH.mpr i;rw[aAf];lia
    show(R.ok<|D.bl<|decide ((0:Int)<((W.map J8).length:Int))).bind CT=_;rw[decide_eq_true w];rfl
   .obtain⟨x,y,A,B,C,E,H,e,I,N,l,o⟩:=YS (Φ:=Φ) (a:=a) (b:=b) (c:=c) (d:=d) hz L t u v i;exact⟨_,e,x,y,A,B,C,E,H,rfl,I,N,l,o⟩
 .refine⟨[],[],[G.i6 m j],.no,.no,.no,.no,rfl,?_,aAj _,aAj _,?_⟩
  .have:=G.DX hz.good;refine⟨this.face,this.nd,λe=>?_,this.cl,this.wt,this.ne⟩;rw[<-this.wk e];simp
  .have nn:j.length*j.length<=23*23:=aFe s s;show 1+(j.length*j.length-0)<5000
   lia
 .rintro n ρ ⟨fs,J,W,a,b,c,d,rfl,L,t,u,v⟩ k;have q:W=[]:=by
   cases W with
   |nil=>rfl
   |cons p W=>have k:(R.ok<|D.bl<|decide ((0:Int)<(((p::W).map J8).length:Int))).bind CT=.ok false:=k;rw[decide_eq_true (by simp;try lia)]at k;cases k
  subst q;obtain⟨i,r⟩:=G.MZ hz.good L;have O:=uI L.nd r;rw[qO O];have g:fs≠[]:=λz=>by have Q:=G.W5 hz.good.solid hz.good.ord hz.good.mem hz.good.least;have:=(r _ _).mpr Q;rw[z]at this;cases this
  have few:=(G.iY hz.good.solid hz.good.ord (λf=>r f.1 f.2) L.nd g).1;have T:(fs.map<|n4 j).length<=63:=by rw[aAf];lia
  have U:sfR (.lst (fs.map<|n4 j))=.ok ((HM j fs).map (n4 j)):=by show(if _ then _ else _)=_;rw[hV ⟨aCi.mpr λd Y=>by obtain⟨f,_,rfl⟩:=aAk.mp Y;rfl,vF L.nd,T⟩,fN]
  show O6 ((((R.ok<|D.lst<|fs.map<|n4 j).bind sfR).bind λds=>R.ok (D.lst ds)).bind λd=>R.ok (Out.rt d))=_;rw[R.aa0,U];rfl
theorem HR:∀{ds:List D},(∀d∈ds,∃v,d=vd v)->(ds.filterMap AO).map vd=ds
 |[],_=>rfl
 |d::ds,h=>by obtain⟨v,rfl⟩:=h d (.head _);rw[List.filterMap_cons_some (GW v),aAi,HR λd a=>h d (.tail _ a)]
section
variable [Tabs]
def OR (j:List G.V):∀d∈j.map vd,cP d=true:=λd a=>by obtain⟨v,_,rfl⟩:=aAk.mp a;rfl
def bE (j:List G.V):cN (j.map vd)=(d8 j).map vd:=by unfold d8;refine(HR λd a=>?_).symm;obtain⟨v,_,rfl⟩:=aAk.mp ((Q9 (OR j) d).mp a);exact⟨v,rfl⟩
def m6 (j:List G.V):(d8 j).Pairwise λa b=>G.f9 (b-a):=ck (by rw[<-bE];exact fI _)
def UD {v:G.V}{j:List G.V}:vd v∈j.map vd↔v∈j:=by rw[aAk];exact⟨by rintro⟨u,a,e⟩;rw[<-DB e];exact a,λh=>⟨v,h,rfl⟩⟩
def q9 {j:List G.V}{v:G.V}:v∈d8 j↔v∈j:=by rw[<-UD,<-bE,Q9 (OR j),UD]
def cM (j:List G.V):(d8 j).Nodup:=(m6 j).imp λ{a b} h e=>by subst e;exact G.K0 h
def dH {a b:List G.V}(g:a.Pairwise λa b=>G.f9 (b-a))(i:b.Pairwise λa b=>G.f9 (b-a))(h:∀v,v∈a↔v∈b):a=b:=by refine WZ (qY (EF g) (EF i) λd=>?_);rw[aAk,aAk];exact⟨λ⟨v,f,e⟩=>⟨v,(h v).mp f,e⟩,λ⟨v,f,e⟩=>⟨v,(h v).mpr f,e⟩⟩
def ZQ (h:(d8 j).length<=63):ssR (.lst (j.map vd))=.ok ((d8 j).map vd):=by show(if _ then _ else _)=_;rw[hV ⟨MP j,by rw[bE,aAf];exact h⟩,bE]
def aP (h:G.j8 a)(d:∀v,v∈a->v∈b):G.j8 b:=by obtain⟨A,f,B,g,C,i,D,j,e⟩:=h;exact⟨A,d A f,B,d B g,C,d C i,D,d D j,e⟩
def xy (h:G.j8 j):G.V3 j=3:=by
 by_cases e:G.V3 j=3
 .exact e
 .exact absurd h (G.TW e)
def gT (j:List G.V):(d8 j).length<=j.length:=G.u6 (cM j) λv a=>q9.mp a
def cD (f:aZ 900 j)(g:G.j8 j)(d:(d8 j).length<=63):∃m r,d8 j=m::r/\Land (m::r) m:=by
 have a:G.j8 (d8 j):=aP g λv i=>q9.mpr i;cases e:d8 j with
 |nil=>rw[e]at a;obtain⟨A,k,_⟩:=a;cases k
 |cons m r=>
  refine⟨m,r,rfl,?_⟩;have b:=m6 j;rw[e]at a d b;refine⟨⟨a,b,.head _,λX l=>?_⟩,⟨λP n=>f.1 P (q9.mp (by rw[e];exact n)),by lia⟩,d,rfl⟩;rcases aAd.mp l with h|h
  .exact .inl h
  .exact .inr ((aAy.mp b).1 X h)
def VC (a:aZ 1000 j)(b:G.j8 j):G1 [.lst (j.map vd)]=.ok .non:=by simp only[G1,w9];exact hV ⟨a,xy b⟩
def a2y (h:Land (m::j) m):K1 [.lst ((m::j).map vd)]=.ok (J8 (G.i6 m (m::j))):=by simp only[K1,w9];exact hV h
def xx (h:Land (m::j) m)(a:(m::j).length<=23):K3 (J8 (G.i6 m (m::j))) (L6 [.lst ((m::j).map vd)]) (F5 [.lst ((m::j).map vd)])=.ok (.lst ((i5 (m::j)).map (n4 (m::j)))):=by simp only[K3,show L6 [.lst ((m::j).map vd)] [.non]=.ok (.lst ((m::j).map vd))from rfl,w9];exact hV ⟨h,a,rfl,rfl,rfl⟩
def pL (a:aZ 900 j)(b:G.j8 j)(d:(d8 j).length<=23):M1 [.lst (j.map vd)]=.ok (.lst ((i5 (d8 j)).map (n4 (d8 j)))):=by simp only[M1,w9];exact hV ⟨a,b,d⟩
def oM (a:aZ 900 j)(b:G.j8 j)(d:(d8 j).length<=23):J9 [.lst (j.map vd)]=.ok (.lst ((A1 j).map vd)):=by simp only[J9,w9];exact hV ⟨a,b,d⟩
omit [Tabs]in
theorem a2w {α:Type}:∀l:List α,∃b:List α,b.Nodup/\∀x,x∈b↔x∈l
 |[]=>⟨[],aDk,λ_=>Iff.rfl⟩
 |a::l=>by
  obtain⟨b,d,h⟩:=a2w l;by_cases f:a∈l
  .exact⟨b,d,λx=>by rw[h,aAd];exact⟨.inr,λq=>q.elim (λe=>by rw[e];exact f) id⟩⟩
  .exact⟨a::b,aAF.mpr ⟨λz=>f ((h a).mp z),d⟩,λx=>by rw[aAd,aAd,h]⟩
def M6 (h:Land j m)(p:j.length<=23):dI j (i5 j):=by
 classical
 obtain⟨fs,g,a⟩:=a2w ((G.cands j).filter λf=>decide (G.IsFace j f.1 f.2));have i:∀n d,(n,d)∈fs↔G.IsFace j n d:=λn d=>by
  rw[a,aAU];constructor
  .intro q;exact of_decide_eq_true q.2
  .intro q;refine⟨?_,decide_eq_true q⟩;obtain⟨A,k,B,l,C,o,_,e⟩:=G.lB q;unfold G.cands;rw[<-e];exact aBl.mpr ⟨A,k,aBl.mpr ⟨B,l,aAk.mpr ⟨C,o,rfl⟩⟩⟩
 have b:=uI g i;rw[qO b];exact b
theorem nI:∀(Y:List D) (b:List (List G.V)) (B:List G.V) (x y:Sl),tE Y=some b->B.length+b.flatten.length<=3000->
  ∃g i,X9 (cU 2 (J1 (λd ρ=>R.ok (aEc ρ 2 (Sl.v d))) (J1 (λd ρ=>R.ok (aEc ρ 3 (Sl.v d))) jL))) (λρ=>(dZ 3 ρ).bind (jw 1 ρ)) Y [a,.o (B.map vd),x,y]=.ok (.nx [a,.o ((B++b.flatten).map vd),g,i])
 |[],b,B,x,y,h,_=>by cases h;exact⟨x,y,by simp⟩
 |d::Y,b,B,x,y,h,j=>by
  unfold tE at h;split at h
  .rename_i v L f k;cases h;obtain⟨p,N,rfl,l⟩:∃p N,d=.tup [p,.lst N]/\I0 N=some v:=by
    unfold wj at f;split at f
    .exact⟨_,_,rfl,f⟩
    .cases f
   have m:=u3 l;subst m;rw[List.flatten_cons,aAB]at j;obtain⟨g,i,e⟩:=nI Y L (B++v) (.v p) (.v (.lst (v.map vd))) k (by rw[aAB];lia);refine⟨g,i,?_⟩;have n:(B.map vd).length+(v.map vd).length<=sizeLine:=by rw[aAf,aAf];exact RU (by lia)
   refine(U7 (ρ1:=[a,.o (B.map vd),.v p,.v (.lst (v.map vd))]) (ρ2:=[a,.o ((B++v).map vd),.v p,.v (.lst (v.map vd))]) rfl ?_).trans ?_
   .show(if(B.map vd).length+(v.map vd).length<=sizeLine then _ else _)=_;rw[hV n,aBA];rfl
   .rw[e,List.flatten_cons,aFp]
  .cases h
theorem nD (j:List G.V):∀fs:List (G.V×Int),tE (fs.map (n4 j))=some (fs.map (G.c7 j))
 |[]=>rfl
 |f::fs=>by rw[aAi,tE,nD j fs];rw[show wj (n4 j f)=some (G.c7 j f)from w9 _];rfl
def DV {j:List G.V}{fs:List (G.V×Int)}(a:(fs.flatMap (G.c7 j)).length<=3000)(b:(d8 (fs.flatMap (G.c7 j))).length<=63):K6 [.lst (fs.map (n4 j))]=.ok (.lst ((d8 (fs.flatMap (G.c7 j))).map vd)):=by have e:(fs.map<|G.c7 j).flatten=fs.flatMap (G.c7 j):=rfl;simp only[K6,nD,e];exact hV ⟨a,b⟩
def pR (d:j.Pairwise λa b=>G.f9 (b-a))(e:G.IsFace j f.1 f.2)(h:X∈G.c7 j f):X∈j:=(G.c6.mp<|(e.aa2 d).aa4 h).1
def CJ (g:aZ 900 j)(i:G.j8 j)(a:(d8 j).length<=23)(h:X∈A1 j):X∈j:=by obtain⟨m,r,e,L⟩:=cD g i (by lia);unfold A1 at h;rw[q9,aBl]at h;obtain⟨f,b,d⟩:=h;rw[e]at b d a;have k:=M6 L a;have:=pR L.good.ord ((k.1 f).mp b) d;rw[<-e,q9]at this;exact this
def uU (L:Land j m)(b:j.length<=23):((i5 j).flatMap (G.c7 j)).length<=200/\(d8 ((i5 j).flatMap (G.c7 j))).length<=23:=by
 have a:=M6 L b;have e:=N4 (X4 a.2);have g:i5 j≠[]:=λz=>by have h:=G.W5 L.good.solid L.good.ord L.good.mem L.good.least;have:=(a.1 _).mpr h;rw[z]at this;cases this
 have few:=(G.iY L.good.solid L.good.ord a.1 e g).2;constructor
 .rw[List.length_flatMap]
  lia
 .refine aAl (G.u6 (cM _) λv d=>?_) b;rw[q9,aBl]at d;obtain⟨f,i,k⟩:=d;exact pR L.good.ord ((a.1 f).mp i) k
end
instance Bd.k6:Bd 1000000 20:=⟨by decide⟩
instance Bd.k7:Bd 10000000 24:=⟨by decide⟩
instance Bd.k8:Bd 100000000 27:=⟨by decide⟩
instance Bd.k63:Bd 1000003 20:=⟨by decide⟩
instance Bd.k79:Bd 7919 13:=⟨by decide⟩
instance Bd.k48:Bd 48611 16:=⟨by decide⟩
instance Bd.k12:Bd 1000000000000 40:=⟨by decide⟩
instance Bd.k20:Bd 100000000000000000000 67:=⟨by decide⟩
def S4 (h:0<b):lI (.int a) (.int b)=.ok (.int (a.fmod b)):=CC (by omega)
def B6 (h:0<b)(d:b<1000000000000000):N5 (.int a) (.int b)=.ok (.int (a.fdiv b)):=uF ⟨by omega,f6 (l7 (n:=60) (by omega) (by omega))⟩
def B8 {a b:Int}(h:0<b):0<=a.fmod b/\a.fmod b<b:=by have f:=PyProof.Rows.fdiv_fmod_facts a b;have g:=f.2.2.1 h;omega
def u5 {a b:Int}{n:Nat}(h:0<b)(d:bits b<=n):bits (a.fmod b)<=n:=bits_fmod (by omega) d
def i9 (a:r=.ok (.nx ρ))(b:O6 (F ρ)=x):O6 (F8 r F)=x:=by rw[a];exact b
def X1 (a:r=.ok (.rt d)):O6 (F8 r F)=.ok d:=by rw[a];rfl
def pS (b:L.length<=sizeLine)(h:z8 G ft fe ρ L=.ok a):(if L.length<=sizeLine then(z8 G ft fe ρ L).bind λa=>R.ok (D.lst a)else R.bad)=.ok (.lst a):=by rw[hV b,h];rfl
def YV {n:Nat}(h:n<=1000000):gE [.int (n:Int)]=.ok ((aBa n).map λ(k:Nat)=>D.int (k:Int)):=by
 show(if rD 0 (n:Int) 1 then R.ok (xJ 0 1<|iJ 0 n 1)else R.bad)=_;rw[hV ⟨by decide,by decide,by decide,by decide,by omega,by omega⟩];have e:iJ 0 (n:Int) 1=n:=by
  unfold iJ;split
  .simp
  .omega
 rw[e];unfold xJ;congr 1;refine aBw λk _=>?_;simp
def cI (Y:List D)(k:Nat):Int:=match Y[k]? with
 |some (.int i)=>i
 |_=>0
def C3:List D->R D
 |[.lst Y,.int k]=>if 0<=k/\k<=1000 then .ok (BZ (λ_=>0) Y k)else .bad
 |_=>.bad
def IJ (a:fF 1048576 Y)(k:Nat)(h:k<=1000):C3 [.lst Y,.int (k:Int)]=.ok (.int (cI Y k))/\bits (cI Y k)<=1048576:=by
 have e:C3 [.lst Y,.int (k:Int)]=.ok (BZ (λ_=>0) Y k):=hV ⟨by omega,by omega⟩;rw[e];unfold BZ cI;rw[aBP];cases q:Y[k]? with
 |none=>exact⟨rfl,by decide⟩
 |some d=>obtain⟨i,rfl,b⟩:=a d (aAw q);exact⟨rfl,b⟩
def VZ:Int:=1000000000000
def zw:Int:=2000000000001
def cT (c:Int):G.V:=⟨(c*1000003+VZ).fmod zw-VZ,(c*c*7919+VZ).fmod zw-VZ,(c*c*c+VZ).fmod zw-VZ⟩
def BW (c:Int):Sz 50 (cT c):=by have k:∀z:Int,bits (z.fmod zw-VZ)<=50:=λz=>f6 (bits_sub (bits_fmod (by decide) (show bits zw<=45 by decide)) (show bits VZ<=45 by decide));exact⟨k _,k _,k _⟩
def bF:List D->R D
 |[.int c]=>if bits c<=2000000 then .ok (vd (cT c))else .bad
 |_=>.bad
def T6 (c:Int):Int×Int×Int:=
 if(c.fdiv 7).fmod 2=1 then((1+(c.fdiv 14).fmod 3)*1000000+1,(1+(c.fdiv 42).fmod 3)*10000000+3,(1+(c.fdiv 126).fmod 3)*100000000+9)
 else(1+(c.fdiv 14).fmod 3,1+(c.fdiv 42).fmod 3,1+(c.fdiv 126).fmod 3)
def oG (c:Int):(0<(T6 c).1/\(T6 c).1<1000000000)/\(0<(T6 c).2.1/\(T6 c).2.1<1000000000)/\(0<(T6 c).2.2/\(T6 c).2.2<1000000000):=by have d:=B8 (a:=c.fdiv 14) (b:=3) (by decide);have e:=B8 (a:=c.fdiv 42) (b:=3) (by decide);have f:=B8 (a:=c.fdiv 126) (b:=3) (by decide);unfold T6;split<;>(dsimp only;omega)
def LD (a b c:Int):List G.V:=(aBa 8).map λ(k:Nat)=>⟨(k:Int).fmod 2*a,((k:Int).fdiv 2).fmod 2*b,(k:Int).fdiv 4*c⟩
def yH (a b c:Int):List G.V:=[⟨a,0,0⟩,⟨0-b,0,0⟩,⟨0,b,0⟩,⟨0,0-c,0⟩,⟨0,0,c⟩,⟨0,0,0-a⟩]
def yK (a b c:Int):List G.V:=[⟨0,0,0⟩,⟨a,0,0⟩,⟨0,b,0⟩]++[⟨0+c,0,a+b⟩,⟨a+c,0,a+b⟩,⟨0+c,b,a+b⟩]
def xK (n:Nat)(a b c:Int):List G.V:=(aBa n).map (λ(k:Nat)=>⟨(k:Int),(k:Int)*(k:Int),0⟩)++[⟨a,b,c⟩]
def AJ (c e:Int):G.V:=if c.fmod 7=5\/(c.fmod 7=6/\e.fmod 2=1)then cT (e.fdiv 2)else⟨e.fmod 7-3,(e.fdiv 7).fmod 7-3,(e.fdiv 49).fmod 7-3⟩
def jO (a b c:Int):List G.V:=[⟨0,0,0⟩,⟨a,0,0⟩,⟨0,b,0⟩,⟨0,0,c⟩]
def qJ (c:Int)(t:List Int):List G.V:=
 if c.fmod 7=0 then LD (T6 c).1 (T6 c).2.1 (T6 c).2.2
 else if c.fmod 7=1 then yH (T6 c).1 (T6 c).2.1 (T6 c).2.2
 else if c.fmod 7=2 then yK (T6 c).1 (T6 c).2.1 (T6 c).2.2
 else if c.fmod 7=3 then xK (3+(c.fdiv 378).fmod 8).toNat (T6 c).1 (T6 c).2.1 (T6 c).2.2
 else jO (T6 c).1 (T6 c).2.1 (T6 c).2.2++t.map (AJ c)
def gJ (Y:List D):List Int:=((Y.drop 4).take 5).map intD
def GX:Int:=100000000000000000000
def UO:Int:=200000000000000000001
def HH (c:Int):Int:=if c.fmod 2=0 then 3 else 1000000
def gF (c f:Int)(P:G.V):G.V:=
 let x:=P.x+(c.fdiv 4).fmod (HH c)*P.y
 let y:=P.y-((c*c).fdiv 16).fmod (HH c)*P.z
 let z:=P.z+((c*48611).fdiv 4).fmod (HH c)*x
 let a:=if(c.fdiv 2).fmod 2=1 then z else x
 let b:=if(c.fdiv 2).fmod 2=1 then x else z
 ⟨a+(f*48611+GX).fmod UO-GX,y+(f*f*7919+GX).fmod UO-GX,b+(f*f*f+GX).fmod UO-GX⟩
open Classical in
def oI:List D->R D
 |[.tup [.int a,.int b,.int c],.lst Y]=>if fF 1048576 Y/\Sz 100 ⟨a,b,c⟩then .ok (vd (gF (cI Y 1) (cI Y 2) ⟨a,b,c⟩))else .bad
 |_=>.bad
def XE (x y z:D):qQ (.tup [x,y]) (.tup [z])=.ok (.tup [x,y,z]):=rfl
def QE (Y:List D)(i j:Nat)(h:i<=j):KF (.lst Y) (some (i:Int)) (some (j:Int))=.ok (.lst ((Y.drop i).take (j-i))):=by
 show R.ok (D.lst<|cutD Y (some (i:Int))<|some (j:Int))=_;unfold cutD;rw[HT.sIx_nat,HT.sIx_nat];congr 2;by_cases a:i<=Y.length
 .rw[aFQ a];by_cases b:j<=Y.length
  .rw[aFQ b]
  .rw[aFF (by omega),aDn (by simp),aDn (by simp;omega)]
 .rw[aFF (by omega),aFF (by omega),List.drop_eq_nil_of_le (by omega:Y.length<=i)];simp
def tN (b:fF 1048576 Y):(Y.drop 4).take 5=(gJ Y).map D.int/\(gJ Y).length<=5/\∀e∈gJ Y,bits e<=1048576:=by
 have sub:∀d∈(Y.drop 4).take 5,d∈Y:=λd a=>aDH (aEs a);refine⟨?_,by unfold gJ;rw[aAf];exact List.length_take_le _ _,λe f=>?_⟩
 .unfold gJ;have:∀l:List D,(∀d∈l,∃i,d=.int i)->l=(l.map intD).map D.int:=λl h=>by
   induction l with
   |nil=>rfl
   |cons d l g=>obtain⟨i,rfl⟩:=h d (.head _);rw[aAi,aAi,<-g λd a=>h d (.tail _ a)];rfl
  exact this _ λd a=>let⟨i,e,_⟩:=b d (sub d a);⟨i,e⟩
 .obtain⟨d,a,rfl⟩:=aAk.mp f;obtain⟨i,rfl,j⟩:=b d (sub d a);exact j
def ZP (c:Int):∃n:Nat,3+(c.fdiv 378).fmod 8=(n:Int)/\n<=10/\(3+(c.fdiv 378).fmod 8).toNat=n:=by
 have d:=B8 (a:=c.fdiv 378) (b:=8) (by decide);generalize(c.fdiv 378).fmod 8=z at*
 exact⟨(3+z).toNat,by omega,by omega,rfl⟩
def HB (n:Nat)(h:n<=1000):((aBa n).map λ(k:Nat)=>D.int (k:Int)).length<=sizeLine:=by rw[aAf,aCJ];exact small h
def VJ (n:Nat)(a b e:Int):(xK n a b e).map vd=((aBa n).map λ(k:Nat)=>vd ⟨(k:Int),(k:Int)*(k:Int),0⟩)++[vd ⟨a,b,e⟩]:=by unfold xK;rw[aBA,aAV];rfl
def QH (c:Int):P6 (.lst [.int 3,.int 1000000]) (.int (c.fmod 2))=.ok (.int (HH c))/\0<HH c/\bits (HH c)<=20:=by
 have h:=B8 (a:=c) (b:=2) (by decide);unfold HH;by_cases d:c.fmod 2=0
 .rw[hV d,d];exact⟨rfl,by decide,by decide⟩
 .rw[h9 d,show c.fmod 2=1 by omega];exact⟨rfl,by decide,by decide⟩
def iX {j:List G.V}{A B C D:G.V}(a:A∈j)(b:B∈j)(d:C∈j)(e:D∈j)(h:G.i7 (B-A) (C-A) (D-A)≠0):G.j8 j:=⟨A,a,B,b,C,d,D,e,h⟩
def JS {a b c:Int}(d:0<a)(f:0<b)(g:0<c):G.j8 (LD a b c):=by
 have m:∀k<8,(⟨((k:Nat):Int).fmod 2*a,((k:Int).fdiv 2).fmod 2*b,(k:Int).fdiv 4*c⟩:G.V)∈LD a b c:=λk h=>aAk.mpr ⟨k,aBd.mpr h,rfl⟩;refine iX (m 0 (by decide)) (m 1 (by decide)) (m 2 (by decide)) (m 4 (by decide)) ?_;have:∀x:Int,x=a*(b*c)->x≠0:=λx e=>by rw[e];exact Int.ne_of_gt (aAD d<|aAD f g)
 apply this;have i:((0:Nat):Int).fmod 2=0:=rfl;have j:((1:Nat):Int).fmod 2=1:=rfl;have l:((2:Nat):Int).fmod 2=0:=rfl;have n:((4:Nat):Int).fmod 2=0:=rfl;have o:(((0:Nat):Int).fdiv 2).fmod 2=0:=rfl;have p:(((1:Nat):Int).fdiv 2).fmod 2=0:=rfl;have q:(((2:Nat):Int).fdiv 2).fmod 2=1:=rfl;have r:(((4:Nat):Int).fdiv 2).fmod 2=0:=rfl;have s:((0:Nat):Int).fdiv 4=0:=rfl;have t:((1:Nat):Int).fdiv 4=0:=rfl;have u:((2:Nat):Int).fdiv 4=0:=rfl;have v:((4:Nat):Int).fdiv 4=1:=rfl;rw[i,j,l,n,o,p,q,r,s,t,u,v];simp[G.i7,G.dot]
def KW {a b c:Int}(g:0<a)(d:0<b)(f:0<c):G.j8 (yH a b c):=by
 refine iX (A:=⟨a,0,0⟩) (B:=⟨0-b,0,0⟩) (C:=⟨0,b,0⟩) (D:=⟨0,0,c⟩) (by simp[yH]) (by simp[yH]) (by simp[yH]) (by simp[yH]) ?_;have:∀x:Int,x=-((a+b)*(b*c))->x≠0:=λx e=>by
  have:=aAD (show 0<a+b by lia) (aAD d f)
  lia
 apply this;simp[G.i7,G.dot];grind
def LP {a b c:Int}(d:0<a)(f:0<b)(g:0<c):G.j8 (yK a b c):=by
 refine iX (A:=⟨0,0,0⟩) (B:=⟨a,0,0⟩) (C:=⟨0,b,0⟩) (D:=⟨0+c,0,a+b⟩) (by simp[yK]) (by simp[yK]) (by simp[yK]) (by simp[yK]) ?_;have:∀x:Int,x=a*(b*(a+b))->x≠0:=λx e=>by
  have:=aAD d (aAD f (show 0<a+b by lia))
  lia
 apply this;simp[G.i7,G.dot]
def vK {n:Nat}(f:3<=n){a b c:Int}(g:0<c):G.j8 (xK n a b c):=by
 have m:∀k<n,(⟨((k:Nat):Int),(k:Int)*(k:Int),0⟩:G.V)∈xK n a b c:=λk d=>aBr _ (aAk.mpr ⟨k,aBd.mpr d,rfl⟩);refine iX (m 0 (by lia)) (m 1 (by lia)) (m 2 (by lia)) (D:=⟨a,b,c⟩) (by simp[xK]) ?_;have:∀x:Int,x=2*c->x≠0:=λx e=>by lia
 apply this;simp[G.i7,G.dot]
 lia
def MG {a b c:Int}(d:0<a)(f:0<b)(g:0<c){l:List G.V}:G.j8 (jO a b c++l):=by
 refine iX (A:=⟨0,0,0⟩) (B:=⟨a,0,0⟩) (C:=⟨0,b,0⟩) (D:=⟨0,0,c⟩) (by simp[jO]) (by simp[jO]) (by simp[jO]) (by simp[jO]) ?_;have:∀x:Int,x=a*(b*c)->x≠0:=λx e=>by
  have:=aAD d (aAD f g)
  lia
 apply this;simp[G.i7,G.dot]
def FU (c:Int)(t:List Int):G.j8 (qJ c t):=by
 obtain⟨⟨d,g⟩,⟨e,h⟩,⟨c0,i⟩⟩:=oG c;unfold qJ;split
 .exact JS d e c0
 .split
  .exact KW d e c0
  .split
   .exact LP d e c0
   .split
    .obtain⟨n,j,k,f⟩:=ZP c;rw[f];have:=B8 (a:=c.fdiv 378) (b:=8) (by decide);exact vK (by lia) c0
    .exact MG d e c0
def WY (c:Int)(A:t.length<=5):(∀P∈qJ c t,Sz 100 P)/\(qJ c t).length<=11:=by
 obtain⟨⟨B,C⟩,⟨E,H⟩,⟨c0,I⟩⟩:=oG c;have g:bits (T6 c).1<=40:=l7 (by lia) (by lia);have j:bits (T6 c).2.1<=40:=l7 (by lia) (by lia);have l:bits (T6 c).2.2<=40:=l7 (by lia) (by lia);generalize u:(T6 c).1=a at*
 generalize v:(T6 c).2.1=b at*
 generalize w:(T6 c).2.2=e at*
 have d:bits 0<=100:=by decide
 have p:∀{x:Int},bits x<=40->bits (0-x)<=100:=λh=>f6 (bits_sub (n:=40) (by decide) h);unfold qJ;rw[u,v,w];split
 .refine⟨λP f=>?_,by unfold LD;rw[aAf,aCJ];decide⟩;obtain⟨k,q,rfl⟩:=aAk.mp f;have r:=aBd.mp q;exact⟨f6 (bits_mul (u5 (n:=3) (by decide) (by decide)) g),f6 (bits_mul (u5 (n:=3) (by decide) (by decide)) j),f6 (bits_mul (bits_fdiv (n:=10) (l7 (by lia) (by lia))) l)⟩
 .split
  .refine⟨λP f=>?_,by show 6<=11;decide⟩;simp only[yH,aAd,aAW,or_false]at f;rcases f with rfl|rfl|rfl|rfl|rfl|rfl
   .exact⟨f6 g,d,d⟩
   .exact⟨p j,d,d⟩
   .exact⟨d,f6 j,d⟩
   .exact⟨d,p l,d⟩
   .exact⟨d,d,f6 l⟩
   .exact⟨d,d,p g⟩
  .split
   .refine⟨λP f=>?_,by show 6<=11;decide⟩;simp only[yK,aAG,aBD,aAd,aAW,or_false]at f;have m:bits (a+b)<=100:=f6 (bits_add g j);have s:bits (a+e)<=100:=f6 (bits_add g l);have o:bits (0+e)<=100:=by rw[Int.zero_add];exact f6 l
    rcases f with rfl|rfl|rfl|rfl|rfl|rfl
    .exact⟨d,d,d⟩
    .exact⟨f6 g,d,d⟩
    .exact⟨d,f6 j,d⟩
    .exact⟨o,d,m⟩
    .exact⟨s,d,m⟩
    .exact⟨o,f6 j,m⟩
   .split
    .obtain⟨n,J,L,y⟩:=ZP c;rw[y];refine⟨λP f=>?_,by unfold xK;rw[aAB,aAf,aCJ];simp;lia⟩;rcases aAP.mp f with f|f
     .obtain⟨k,q,rfl⟩:=aAk.mp f;have r:=aBd.mp q;have bk:bits (k:Int)<=10:=l7 (by lia) (by lia);exact⟨f6 bk,f6 (bits_mul bk bk),d⟩
     .rw[aAN.mp f];exact⟨f6 g,f6 j,f6 l⟩
    .refine⟨λP f=>?_,by rw[aAB,aAf];simp[jO];lia⟩;rcases aAP.mp f with f|f
     .simp only[jO,aAd,aAW,or_false]at f;rcases f with rfl|rfl|rfl|rfl
      .exact⟨d,d,d⟩
      .exact⟨f6 g,d,d⟩
      .exact⟨d,f6 j,d⟩
      .exact⟨d,d,f6 l⟩
     .obtain⟨i,N,rfl⟩:=aAk.mp f;unfold AJ;split
      .exact(BW _).mono
      .have k7:∀z:Int,bits (z.fmod 7-3)<=100:=λz=>f6 (bits_sub (n:=10) (u5 (by decide) (by decide)) (by decide));exact⟨k7 _,k7 _,k7 _⟩
def kQ (s t u:Int)(a:Bool)(P:G.V):G.V:=
 let x:=P.x+s*P.y
 let y:=P.y-t*P.z
 let z:=P.z+u*x
 if a then⟨z,y,x⟩else⟨x,y,z⟩
def yU (k f:Int):∃(s t u:Int) (g:Bool) (o:G.V),(∀P,gF k f P=kQ s t u g P+o)/\bits s<=20/\bits t<=20/\bits u<=20/\Sz 80 o:=by
 obtain⟨_,a,b⟩:=QH k;have d:∀z:Int,bits (z.fmod UO-GX)<=80:=λz=>f6 (bits_sub (n:=70) (u5 (by decide) (by decide)) (by decide));refine⟨(k.fdiv 4).fmod (HH k),((k*k).fdiv 16).fmod (HH k),((k*48611).fdiv 4).fmod (HH k),decide ((k.fdiv 2).fmod 2=1),⟨(f*48611+GX).fmod UO-GX,(f*f*7919+GX).fmod UO-GX,(f*f*f+GX).fmod UO-GX⟩,λP=>?_,u5 a b,u5 a b,u5 a b,⟨d _,d _,d _⟩⟩;unfold gF kQ;by_cases e:(k.fdiv 2).fmod 2=1
 .simp only[e,if_true,decide_true];exact G.ext (by simp;lia) (by simp;lia) (by simp;lia)
 .simp only[e,if_false,decide_false];exact G.ext (by simp;lia) (by simp;lia) (by simp;lia)
def wM (s t u:Int)(a:Bool)(P Q:G.V):kQ s t u a P-kQ s t u a Q=kQ s t u a (P-Q):=by
 unfold kQ;cases a
 .exact G.ext (by simp;grind) (by simp;grind) (by simp;grind)
 .exact G.ext (by simp;grind) (by simp;grind) (by simp;grind)
def XM (s t u:Int)(a:Bool)(A B C:G.V):G.i7 (kQ s t u a A) (kQ s t u a B) (kQ s t u a C)=(if a then-1 else 1)*G.i7 A B C:=by
 unfold kQ;cases a
 .simp[G.i7,G.dot];grind
 .simp[G.i7,G.dot];grind
def mG (P Q o:G.V):P+o-(Q+o)=P-Q:=G.ext (by simp;lia) (by simp;lia) (by simp;lia)
def KE (k f:Int){j:List G.V}(h:G.j8 j):G.j8 (j.map (gF k f)):=by
 obtain⟨s,t,u,b,o,e,_⟩:=yU k f;obtain⟨A,d,B,g,C,i,D,l,a⟩:=h;have m:∀X∈j,gF k f X∈j.map (gF k f):=λX n=>aBL n;refine iX (m A d) (m B g) (m C i) (m D l) ?_;rw[e,e,e,e,mG,mG,mG,wM,wM,wM,XM];cases b
 .simpa using a
 .simpa using a
def TF (k f:Int)(h:Sz 100 P):Sz 900 (gF k f P):=by
 obtain⟨s,t,u,b,o,e,i,j,l,m⟩:=yU k f;rw[e];have p:Sz 400 (kQ s t u b P):=by
  unfold kQ;have a:bits (P.x+s*P.y)<=200:=f6 (bits_add (n:=120) (f6 h.1)<|f6<|bits_mul i h.2.1);have d:bits (P.y-t*P.z)<=200:=f6 (bits_sub (n:=120) (f6 h.2.1)<|f6<|bits_mul j h.2.2);have g:bits (P.z+u*(P.x+s*P.y))<=300:=f6 (bits_add (n:=220) (f6 h.2.2)<|f6<|bits_mul l a);dsimp only;cases b
  .exact⟨f6 a,f6 d,f6 g⟩
  .exact⟨f6 g,f6 d,f6 a⟩
 exact(p.add m.mono).mono
section
variable [Tabs]
def cW {j:List G.V}(h:aZ 900 j)(i:G.j8 j)(d:(d8 j).length<=23):∀X,X∈A1 j↔∃f:G.V×Int,G.IsFace (d8 j) f.1 f.2/\X∈G.c7 (d8 j) f:=λX=>by obtain⟨m,r,e,L⟩:=cD h i (by lia);unfold A1;rw[q9,aBl];rw[e]at d⊢;have g:=M6 L d;exact⟨by rintro⟨f,a,b⟩;exact⟨f,(g.1 f).mp a,b⟩,by rintro⟨f,a,b⟩;exact⟨f,(g.1 f).mpr a,b⟩⟩
def mX {l:List G.V}(h:l.Pairwise λa b=>G.f9 (b-a)):d8 l=l:=dH (m6 _) h λv=>q9
def tH {j:List G.V}(l:aZ 900 j)(o:G.j8 j)(p:(d8 j).length<=23):G.j8 (A1 j)/\aZ 900 (A1 j)/\d8 (A1 j)=A1 j/\(A1 j).length<=23/\A1 (A1 j)=A1 j/\∀n d,G.IsFace (A1 j) n d↔G.IsFace (d8 j) n d:=by
 have s:=cW l o p;have h:(A1 j).Pairwise λa b=>G.f9 (b-a):=m6 _;have q:G.j8 (d8 j):=aP o λv i=>q9.mpr i;have t:=m6 j;obtain⟨m,r,e,L⟩:=cD l o (by lia);have u:dI (d8 j) (i5<|d8 j):=by have g:=p;rw[e]at g⊢;exact M6 L g
 have B:(A1 j).length<=23:=by have g:=p;unfold A1;rw[e]at g⊢;exact(uU L g).2
 have C:i5 (d8 j)≠[]:=λz=>by
  obtain⟨A,N,_⟩:=q;have:∃f:G.V×Int,G.IsFace (d8 j) f.1 f.2:=by have k:=L;rw[<-e]at k;have:=G.W5 k.good.solid k.good.ord k.good.mem k.good.least;exact⟨_,this⟩
  obtain⟨f,w⟩:=this;have:=(u.1 f).mpr w;rw[z]at this;cases this
 obtain⟨H,x⟩:=aFb _ C;have E:=G.JD q t h s ((u.1 H).mp x);have sz:aZ 900 (A1 j):=⟨λP I=>l.1 P (CJ l o p I),by lia⟩;have y:=mX h;refine⟨E,sz,y,B,?_,λn d=>G.WT q t h s _ C u.1⟩;refine dH (m6 _) h λv=>?_;have J:=cW sz E (by rw[y];exact B) v;show v∈A1 (A1 j)↔_;rw[J,y];constructor
 .rintro⟨f,w,i⟩;exact pR h w i
 .exactλi=>G.QL q t h s i
end
end M
namespace DL
open PySem PySem.Spec L2
def WX {K:Params->iu}{P c:bb}{tb:List (Pos×Str)}{a:List bb}(b:P∈a)(d:∀w:cp,PySem.W.codeHdIn (K w.params) c P=true):∀p∈[(P,tb)],p.1∈a/\∃c,∀w:cp,PySem.W.codeHdIn (K w.params) c p.1=true:=λp e=>by rw[aAN.mp e];exact⟨b,c,d⟩
def Got (K:iu)(x:Str)(st:cv):Prop:=∃f a,PySem.W.nsIn K bM x=some (some<|.ref f)/\Fun K x x st f a
def UZ (K:iu)(x:Str)(st:cv)(b:bb):Prop:=∃f d a,PySem.W.nsIn K bM x=some (some<|.ref f)/\PySem.W.codeHdIn K a b=true/\FunC K x x st f d a
def gC (K:iu)(mg:dS)(x:Str)(st:cv):Prop:=∃f a,mg x=some (.ref f)/\Fun K x x st f a
def a2i (K:iu)(mg:dS)(x:Str)(st:cv)(b:bb):Prop:=∃f d a,mg x=some (.ref f)/\PySem.W.codeHdIn K a b=true/\FunC K x x st f d a
section
variable{kV doc pm T ct:ao}
def vq (a:PySem.W.nsIn K bM x=some (some (.ref f)))(l:K.lookup f=some ⟨d,e,.func (PySem.W.fnOf x x (I9 st) (u7 st) (c8 st) .none kV doc pm g T ct),b⟩)
 (c:PySem.W.codeIn K T x=true) (k:PySem.W.keepIn K (.ref f)=true):Got K x st:=⟨f,_,a,RL l c k⟩
def WC (a:PySem.W.nsIn K bM x=some (some (.ref f)))(l:K.lookup f=some ⟨g,h,.func (PySem.W.fnOf x x (I9 st) (u7 st) (c8 st) .none kV doc pm i T ct),b⟩)
 (c:PySem.W.codeIn K T x=true) (k:PySem.W.keepIn K (.ref f)=true) (e:T=.ref cd) (n:PySem.W.codeHdIn K cd d=true):UZ K x st d:=⟨f,_,cd,a,n,YL l e c k⟩
def Got.def (g:Got K x st)(X:K.In h)(G:h.Ns bM mg):gC K mg x st:=let⟨f,d,a,b⟩:=g;⟨f,d,PySem.W.mg_of X G a,b⟩
def UZ.def (g:UZ K x st d)(X:K.In h)(G:h.Ns bM mg):a2i K mg x st d:=let⟨f,e,i,a,b⟩:=g;⟨f,e,i,PySem.W.mg_of X G a,b⟩
def K9 (a:sc.kind=.function:=by rfl)(b:sc.isCoroutine=false:=by rfl)(d:sc.isGenerator=false:=by rfl)(e:N.Nodup:=by decide+kernel)(f:N.take ps.length=ps:=by rfl)(g:∀x∈ps,sc.names.lookup x=some .local\/sc.names.lookup x=some .cell:=by decide+kernel)(h:∀y∈sc.names,y.2≠.free:=by decide+kernel):FnScope N ps sc:=⟨a,b,d,e,f,g,h⟩
variable [Tabs]
def o8 (g:gC K mg x st)(S:FnScope N ps (c8 st))(j:∀{f:bb} {T:ao} {A:cf} {a:List Env} {s:a9} {H:Hp} {E:XK},Room k (A.deeper (aEI x (c8 st) s.heap.objs.size f T))->(A.deeper (aEI x (c8 st) s.heap.objs.size f T)).units+64<cz->(A.deeper (aEI x (c8 st) s.heap.objs.size f T)).units+130<cz->N.Nodup->
  bV (UX P w K mg base N x (c8 st) f T A a s H E) (u7 st) F) (l:∀ds d,ds.length=ps.length->m ds=.ok d->O6 (F (l6 N ds))=.ok d) (e:∀(kV doc pm:ao) (n:Option bb) (T ct:ao) (b:List ao),b.length=ps.length->bindArgs (PySem.W.fnOf x x (I9 st) (u7 st) (c8 st) .none kV doc pm n T ct) ⟨b,[]⟩=pure (ps.zip b):=by
  intro _ _ _ _ _ _ b o;rcases b with _|⟨_,_|⟨_,_|⟨_,_|⟨_,_|⟨_,_|⟨_,_|⟨_,_⟩⟩⟩⟩⟩⟩⟩<;>first|rfl|exact absurd o (by simp)):y9 P w K mg base (k+1) x ps.length m:=by
 obtain⟨f,q,p,i⟩:=g;exact rq i S (i.binds e) p (λT A a s H E h=>j h h.units h.ae6 S.nd) l
end
end DL
namespace DL
open PySem PySem.Spec L2
open PyProof.Rows hiding St st
variable [Tabs]
section
end
section
mutual
theorem QW {K:iu}{H:Hp}{O a:bb->Prop}:∀{v:V} {d:D},qF d=true->Rep K H O v d->Rep K H a v d
 |_,_,_,.int=>.int
 |_,_,h,.tup t r=>.tup t (tZ h r)
 |_,_,h,.non=>(by cases h)
 |_,_,h,.bl=>(by cases h)
 |_,_,h,.str=>(by cases h)
 |_,_,h,.lst _ _ _=>(by cases h)
 |_,_,h,.dct _ _ _=>(by cases h)
theorem tZ {K:iu}{H:Hp}{O a:bb->Prop}:∀{L:List V} {ds:List D},gD ds=true->Reps K H O L ds->Reps K H a L ds
 |_,_,_,.nil=>.nil
 |_,_,h,.cons r t=>.cons (QW (aGb.mp h).1 r) (tZ (aGb.mp h).2 t)
end
end
def yR (ns:List Int):List Int:=ns.mergeSort λa b=>decide (a<=b)
def AQ (ns:List Int):(yR ns).Pairwise (· <=·):=by have:=List.pairwise_mergeSort (le:=λa b:Int=>decide (a<=b)) (λa b c d e=>decide_eq_true (Int.le_trans (of_decide_eq_true d)<|of_decide_eq_true e)) (λa b=>by simp[aFI]) ns;exact this.imp λh=>of_decide_eq_true h
def uD (ns:List Int):(yR ns).Perm ns:=List.mergeSort_perm ns _
def uQ {ns a:List Int}(p:a.Perm ns)(s:a.Pairwise (· <=·)):a=yR ns:=(p.trans (uD ns).symm).eq_of_pairwise (λ_ _ _ _=>Int.le_antisymm) s (AQ ns)
def tT {ns a:List Int}(p:ns.Perm a):yR ns=yR a:=uQ ((uD ns).trans p) (AQ ns)
def siL (ds:List D):R (List D):=(eZ ds).elim .bad λa=>if a.length<=63 then .ok ((yR a).map D.int)else .bad
def siR:D->R (List D)
 |.lst a=>siL a
 |_=>.bad
def IE {ns:List Int}(h:ns.length<=63):siR (.lst (ns.map D.int))=.ok ((yR ns).map D.int):=by show siL _=_;unfold siL;rw[jF];exact hV h
theorem vI:∀{a:List ao} {ns:List Int},IntsAre a ns->p5 (ns.map V.int) a
 |_,_,.nil=>.nil
 |_,_,.cons n t h=>.cons ⟨t,rfl⟩ (vI h)
theorem BE {K:iu}{H:Hp}{O:bb->Prop}:∀ns:List Int,Reps K H O (ns.map V.int) (ns.map D.int)
 |[]=>.nil
 |n::ns=>.cons .int (BE ns)
def bT {p i:Pos}{f:Ev->R D}(Y:PB X e f)(hh:X.calm=true)(hu:X.A.units+300<cz)(hg:Gl X "sorted":=by rfl)(hm:X.mg "sorted"=none:=by assumption)(hv:de "sorted"=some (.builtin "sorted"):=by decide+kernel)(J:ba [e] X.env=(false,dm e X.env)::ba [] X.env:=by rfl)(bp:(cy i (ba [] X.env)).any (·.1)=false:=by rfl):
  PF X (.Call (.Name "sorted" p) [e] [] i) (λρ=>(f ρ).bind siR):=by
 refine zR λl s σ H Q I H9 O0 O ρ E q=>?_;dsimp only at q;refine aBi (X6 I hg hm hv ?_ (by decide) (by decide));have om:PA X [e] _:=R0 Y dR J;refine aCu (J7 (om i l s σ H (λL r=>∃v k,L=[v]/\f ρ=.ok (.lst k)/\Same H r/\D2 X.K r O v (.lst k)) I ⟨H9,O0,O,ρ,E,?_⟩) λus h z9=>?_) J bp
 .cases t:f ρ with
  |ex z=>rw[t]at q;exact q
  |bad=>rw[t]at q;exact q.elim
  |ok d=>
   rw[t,R.aa0]at q;cases d with
   |lst k=>exactλv r h w=>⟨v,k,rfl,rfl,h,w⟩
   |_=>exact aAm q
 .obtain⟨L,r,x,w,v,k,ev,ef,sm,rb⟩:=z9;subst ev;rw[ef,R.aa0]at q;obtain⟨a,ws,rfl,hS,N⟩:=rb.aa6;obtain⟨u,rfl,ru⟩:=vals1 w;cases ru;obtain⟨g,rv,⟨oL,nL,gL,cL,dL,sL⟩,zL⟩:=x.list hS;have hl:h.heap.IsList a g.toArray:=⟨oL,gL,cL,nL,sL⟩;simp only[siR,siL]at q;cases y:eZ k with
  |none=>rw[y]at q;exact q.elim
  |some m=>
   rw[y]at q;dsimp only[Option.elim]at q;by_cases B:m.length<=63
   .rw[hV B]at q;rw[gA y]at N;have T:IntsAre g m:=P7 (by rw[<-fT N];exact rv);have ll:g.length=m.length:=T.length;refine sorted_ints hl T (by lia) λj sr dc U C=>?_;have e2:=uQ U C;subst e2;obtain⟨n,gl⟩:=sortedAll_at h.heap g j;have ln:(yR m).length<=63:=by rw[U.length_eq];exact B
    have I3:=x.laid (a:=h.heap.objs.size+1) (o:=.lst ((yR m).map V.int)) (h':=sortedAll h.heap g j) (t':=h.toks) (λb o e=>sortedAll_old e) (aFv _) ⟨by rw[aAf];exact aAl ln (by decide),j.toList,n,vI dc,gl⟩;exact⟨.ref (h.heap.objs.size+1),_,I3,rfl,q _ _ _ sm (x.hok.fresh<|aFv _) (BE _)⟩
   .rw[h9 B]at q;exact q.elim
end DL
namespace DL
open PySem PySem.Spec PySem.Calls PySem.W Builtin Builtin.ObjectAttr Builtin.Getset_descriptor
open PyProof.Rows hiding St
section
variable{prog:bt} {w:cp} {A:cf} {E:G0} {K:Frag} {h:cq} {g:Array GenState} {d:Drawn} {t:Nat} {os:OsState} {a C:bb} {o:Obj}
end
end DL
namespace DL
open PySem PySem.Spec L2
open PyProof.Rows hiding St
variable [Tabs]
section
variable{X:Cx} {pos:Pos}
end
section
variable{X:Cx} {pins:R4} {σ:St} {H H':Hp} {s s':a9}
end
section
variable{K:iu} {H9 H:Hp} {O0 O:bb->Prop} {σ:St} {ρ:Ev}
end
section
variable{X:Cx} {pos ui np:Pos}
end
section
variable{X:Cx} {pos:Pos}
end
section
variable{X:Cx} {pos:Pos}
end
section
end
section
end
section
abbrev CS (X:Cx)(e:cu)(es:List cu):Prop:=ba (e::es) X.env=(false,dm e X.env)::ba es X.env
def o7 {i:Int}{j}:PB X (.Constant (.int i) j a) (ZY (.int i)):=d5.pb
def nZ {e1:cu}{b:Ev->R D}(c:y9 X.prog X.w X.K X.mg X.base k x 1 m)(e:Room f X.A)(a1:PD X e1 b)(g:k<=f:=by decide)(d:CS X e1 []:=by rfl)(h:Gl X x:=by rfl)(i:(x==ix)=false:=by decide)(j:(cy a (ba [] X.env)).any (·.1)=false:=by rfl):
 PD X (.Call (.Name x p) [e1] [] a) (λρ=>((t4 b V2) ρ).bind m):=yE c (e.mono g) (j0 a1 u8 d) (C1 aM) h i d j
def aJ {e1 e2:cu}{b d:Ev->R D}(c:y9 X.prog X.w X.K X.mg X.base k x 2 m)(f:Room g X.A)(a1:PD X e1 b)(a2:PD X e2 d)(h:k<=g:=by decide)(e:CS X e1 [e2]:=by rfl)(i:CS X e2 []:=by rfl)(j:Gl X x:=by rfl)(l:(x==ix)=false:=by decide)(n:(cy a (ba [e2] X.env)).any (·.1)=false:=by rfl):
 PD X (.Call (.Name x p) [e1,e2] [] a) (λρ=>((t4 b (t4 d V2)) ρ).bind m):=yE c (f.mono h) (j0 a1 (j0 a2 u8 i) e) (C1<|C1 aM) j l e n
def pc3 {e1 e2 a:cu}{d e f:Ev->R D}(c:y9 X.prog X.w X.K X.mg X.base k x 3 m)(h:Room i X.A)(a1:PD X e1 d)(a2:PD X e2 e)(a3:PD X a f)(j:k<=i:=by decide)(g:CS X e1 [e2,a]:=by rfl)(l:CS X e2 [a]:=by rfl)(n:CS X a []:=by rfl)(o:Gl X x:=by rfl)(q:(x==ix)=false:=by decide)(r:(cy b (ba [e2,a] X.env)).any (·.1)=false:=by rfl):
 PD X (.Call (.Name x p) [e1,e2,a] [] b) (λρ=>((t4 d (t4 e (t4 f V2))) ρ).bind m):=yE c (h.mono j) (j0 a1 (j0 a2 (j0 a3 u8 n) l) g) (C1<|C1<|C1 aM) o q g r
def pc4 {e1 e2 b a:cu}{e f g h:Ev->R D}(c:y9 X.prog X.w X.K X.mg X.base k x 4 m)(j:Room l X.A)(a1:PD X e1 e)(a2:PD X e2 f)(a3:PD X b g)(n:PD X a h)(o:k<=l:=by decide)(i:CS X e1 [e2,b,a]:=by rfl)(q:CS X e2 [b,a]:=by rfl)(r:CS X b [a]:=by rfl)(s:CS X a []:=by rfl)(t:Gl X x:=by rfl)(u:(x==ix)=false:=by decide)(v:(cy d (ba [e2,b,a] X.env)).any (·.1)=false:=by rfl):
 PD X (.Call (.Name x p) [e1,e2,b,a] [] d) (λρ=>((t4 e (t4 f (t4 g (t4 h V2)))) ρ).bind m):=yE c (j.mono o) (j0 a1 (j0 a2 (j0 a3 (j0 n u8 s) r) q) i) (C1<|C1<|C1<|C1 aM) t u i v
def FP {e1 e2:cu}{a b:Ev->R D}{j}(a1:PD X e1 a)(a2:PD X e2 b)(d:CS X e1 [e2]:=by rfl)(e:CS X e2 []:=by rfl):PD X (.Tuple [e1,e2] j f) (λρ=>((t4 a (t4 b V2)) ρ).bind sF):=yL (j0 a1 (j0 a2 u8 e) d)
def nE {e1 e2 a:cu}{b d e:Ev->R D}{j}(a1:PD X e1 b)(a2:PD X e2 d)(a3:PD X a e)(f:CS X e1 [e2,a]:=by rfl)(g:CS X e2 [a]:=by rfl)(h:CS X a []:=by rfl):PD X (.Tuple [e1,e2,a] j i) (λρ=>((t4 b (t4 d (t4 e V2))) ρ).bind sF):=yL (j0 a1 (j0 a2 (j0 a3 u8 h) g) f)
def yV {id:String}{g:List D->R D}{e:cu}{f:Ev->R D}(h:dP X (.builtin id) g)(a:PB X e f)(i:Gl X x:=by rfl)(j:X.mg x=none:=by assumption)(k:de x=some (.builtin id):=by decide+kernel)(l:x≠ "__name__":=by decide)(m:(x==ix)=false:=by decide)(d:CS X e []:=by rfl)(n:(cy b (ba [] X.env)).any (·.1)=false:=by rfl):
 PD X (.Call (.Name x p) [e] [] b) (λρ=>(t4 f V2 ρ).bind g):=oV h (A4 a G8 d) i j k l m d n
def MI {i:List Str}{a:gW}{l:Pos}{e:cu}{fe:Ev->R D}(h:∀b f j k C,PD (IN X b j k ([x]++i) a (cO X a C) C f) e fe)(m:([x]++i).Nodup:=by decide+kernel)(n:Loc (relabel a X.env) x:=by first|exact aDd rfl|exact aCn rfl)(o:(a.names.lookup x==some .cell)=true\/(relabel a X.env).names.lookup x=some .local:=by first|exact .inl rfl|exact .inr rfl):
  ∀(b:R4) (f:List bb) (g:Cx),(∃p q C,g=IN X b p q ([x]++i) a (cO X a C) C f)->ML g (.Name x l) (λd ρ=>.ok (ρ.set 0 (.v d)))/\XZ g [] (λ_=>.ok true)/\PD g e fe:=by
 rintro b f r ⟨j,k,C,rfl⟩;exact⟨t6 0 m rfl n o,yN,h b f j k C⟩
def hxt {j:List Str}{a:gW}{l:Pos}{f c:cu}{fe:Ev->R D}{ft:Ev->R Bool}(h:∀b e g i C,MN (IN X b g i ([x]++j) a (cO X a C) C e) c ft/\PD (IN X b g i ([x]++j) a (cO X a C) C e) f fe)(m:([x]++j).Nodup:=by decide+kernel)(n:Loc (relabel a X.env) x:=by first|exact aDd rfl|exact aCn rfl)(o:(a.names.lookup x==some .cell)=true\/(relabel a X.env).names.lookup x=some .local:=by first|exact .inl rfl|exact .inr rfl):
  ∀(b:R4) (e:List bb) (k:Cx),(∃p q C,k=IN X b p q ([x]++j) a (cO X a C) C e)->ML k (.Name x l) (λd ρ=>.ok (ρ.set 0 (.v d)))/\XZ k [c] ft/\PD k f fe:=by
 rintro b e r ⟨g,i,C,rfl⟩;exact⟨t6 0 m rfl n o,WA (h b e g i C).1,(h b e g i C).2⟩
end
end DL
namespace DL
open PySem L2
variable [Tabs]
end DL
namespace M
open PySem L2 DL
variable [Tabs]
def wT (h:J0 d<=40):NA d d=.ok (.bl false):=by unfold NA;rw[hV ⟨h,h⟩,X5];rfl
def dw (c w:Int):G.V:=⟨c.fmod w-w.fdiv 2,(c.fdiv w).fmod w-w.fdiv 2,(c.fdiv<|w*w).fmod w-w.fdiv 2⟩
def tmA (c:Int)(at_ j:Nat):Int:=(c.fdiv<|5+7*(at_:Int)+(j:Int)).fmod 5-2
def qj (P:G.V)(t:Int)(w:G.V):G.V:=⟨P.x+t*w.x,P.y+t*w.y,P.z+t*w.z⟩
def ptA (c:Int)(b:G.V)(ws:List G.V)(at_:Nat):G.V:=match ws with
 |[]=>b
 |[u]=>qj b (tmA c at_ 0) u
 |u::v::_=>qj (qj b (tmA c at_ 0) u) (tmA c at_ 1) v
def a2f (c:Int)(b:G.V)(ws:List G.V)(n:Nat):List G.V:=(aBa n).map (ptA c b ws)
structure Drawn (j:List G.V):Prop where
 ne:j≠[]
 len:j.length<=40
 sz:∀P∈j,Sz 100 P
 flat:¬G.j8 j
open Classical in
def OF (p:Prop) (d:D):R D:=if p then .ok d else .bad
def fB {p:Prop}{d r:D}(h:OF p d=.ok r):p/\d=r:=by
 unfold OF at h;split at h
 .rename_i z;cases h;exact⟨z,rfl⟩
 .cases h
def bX {p:Prop}{d:D}(h:p):OF p d=.ok d:=hV h
def zx (k:List G.V->List D->R D):List D->R D:=EZ λY e=>match I0 Y with
 |some l=>k l e
 |none=>.bad
def wJ {k:List G.V->List D->R D}{ds:List D}{r:D}(h:zx k ds=.ok r):∃l e,ds=.lst (l.map vd)::e/\k l e=.ok r:=by
 replace h:=eG h;obtain⟨Y,e,rfl,h⟩:=h;cases q:I0 Y with
 |none=>rw[q]at h;cases h
 |some l=>rw[q]at h;exact⟨l,e,by rw[u3 q],h⟩
def oE (k:List G.V->List D->R D)(l:List G.V)(e:List D):zx k (.lst (l.map vd)::e)=k l e:=by show(match I0 (l.map vd)with|some l=>k l e|none=>.bad)=_;rw[w9]
def l3 (k:Int->Int->Int->List D->R D):List D->R D:=EZ λY e=>vM (λa=>vM λb=>vM λc=>iQ (k a b c e)) Y
def aw (s k:Int):Int:=(s*s+5003*k+11).fmod 2147483647
def iM (l:List Int):Prop:=l.length=7/\∀i∈l,bits i<=100
def s7 (c k:Int):Int:=(c.fdiv k).fmod 7-3
def YT {j:List G.V}{n:G.V}{d:Int}(h:aZ 900 j)(a:G.IsFace (d8 j) n d):Sz 2003 n:=by obtain⟨A,b,B,f,C,g,_,e⟩:=G.lB a;have z:∀X∈d8 j,Sz 1000 X:=λX i=>(h.1 X (q9.mp i)).mono;have:=pE (z A b) (z B f) (z C g);rw[e]at this;exact this
def uW {j:List G.V}(g:aZ 900 j)(h:G.j8 j)(d:(d8 j).length<=23):(∀f,f∈i5 (d8 j)↔G.IsFace (d8 j) f.1 f.2)/\i5 (d8 j)≠[]/\(i5 (d8 j)).length<=12167:=by obtain⟨m,r,e,L⟩:=cD g h (by lia);have a:=d;rw[e]at a;have b:=M6 L a;rw[<-e]at b L;have i:=N4 (X4 b.2);have few:=G.JR i λf k=>(b.1 f).mp k;have l:(d8 j).length*((d8 j).length*(d8 j).length)<=23*(23*23):=aFe d (aFe d d);refine⟨b.1,λz=>?_,aAl few l⟩;have q:=G.W5 L.good.solid L.good.ord L.good.mem L.good.least;have:=(b.1 (_,_)).mpr q;rw[z]at this;cases this
def intD:D->Int
 |.int i=>i
 |_=>0
def SK {α β:Type}{G:D->Ev->R Ev}{fe:Ev->R D}{ρ:Ev}(rep:α->D)(b:β->D)(g:α->β)(l:List α)(h:∀a∈l,∃ρ1,G (rep a) ρ=.ok ρ1/\fe ρ1=.ok (b (g a))):z8 G (λ_=>.ok true) fe ρ (l.map rep)=.ok ((l.map g).map b):=by rw[aAV];exact Q1 rep _ l h
end M
namespace SD
open PySem
section
variable{prog:bt} {w:cp} {A:cf} {E:G0} {s:a9} {d it:bb} {es:Array DictEntry} {ep i:Nat}
end
section
variable{prog:bt} {w:cp} {A:cf} {E:G0} {s:a9} {d:bb} {es:Array DictEntry} {ep:Nat}
end
end SD
namespace DL
open PySem L2
section
variable [Tabs]
end
end DL
namespace M
open PySem L2 DL
variable [Tabs]
def UP (f:G.V×Int):D:=rW f.1 f.2
def nJ (a n:Nat):List D:=(aEJ a n).map λ(k:Nat)=>D.int (k:Int)
def a4s {a b:Nat}(d:a<=1000000)(h:b<=1000000):gE [.int (a:Int),.int (b:Int)]=.ok (nJ a (b-a)):=by
 show(if rD (a:Int) (b:Int) 1 then R.ok (xJ a 1<|iJ a b 1)else R.bad)=_;rw[hV ⟨by decide,by decide,by lia,by lia,by lia,by lia⟩];have e:iJ (a:Int) (b:Int) 1=b-a:=by
  unfold iJ;split
  .simp
  .lia
 rw[e];unfold xJ nJ;rw[aFr,aAV];congr 1;refine aBw λk _=>?_;simp
def a0l {n:Nat}(h:n<=1000000):gE [.int (n:Int)]=.ok (nJ 0 n):=by rw[YV h];unfold nJ;rw[List.range_eq_range']
theorem AB {G:D->Ev->R Ev}{F:Ev->R Out}(Iv:Nat->Ev->Prop):∀{n a:Nat} {ρ:Ev},(∀i,a<=i->i<a+n->∀ρ,Iv i ρ->∃ρ2,mR G F (.int (i:Int)) ρ=.ok (.nx ρ2)/\Iv (i+1) ρ2)->Iv a ρ->∃ρ',X9 G F (nJ a n) ρ=.ok (.nx ρ')/\Iv (a+n) ρ'
 |0,a,ρ,_,h=>⟨ρ,rfl,h⟩
 |n+1,a,ρ,d,h=>by
  obtain⟨ρ2,e,f⟩:=d a (aAj _) (by lia) ρ h;obtain⟨ρ',g,j⟩:=AB Iv (n:=n) (λi l f=>d i (by lia) (by lia)) f;refine⟨ρ',?_,by rw[show a+(n+1)=a+1+n by lia];exact j⟩;show X9 G F (.int (a:Int)::nJ (a+1) n) ρ=_;unfold mR at e;cases b:G (.int (a:Int)) ρ with
  |ok k=>rw[b]at e;exact(U7 b e).trans g
  |ex z=>rw[b]at e;cases e
  |bad=>rw[b]at e;cases e
def ZU (J:List (D×D)):List D:=J.map (·.1)
def Cov (S:List G.V)(J:List (D×D))(i j k:Nat):Prop:=∀A B C,S[i]?=some A->S[j]?=some B->S[k]?=some C->(G.Up S A B C->UP (G.j7 A B C)∈ZU J)/\(G.Dn S A B C->UP (G.j7 A C B)∈ZU J)
def ZG (S:List G.V)(J:List (D×D))(i j k:Nat):Prop:=∀b a d,b<a->a<d->(b<i\/(b=i/\(a<j\/(a=j/\d<k))))->Cov S J b a d
def VQ {G:D->Ev->R Ev}{F b:Ev->R Out}{d:D}{n a:Nat}{ρ:Ev}(Iv:Nat->Ev->Prop)(f:∀i,a<=i->i<a+n->∀ρ,Iv i ρ->∃ρ2,mR G F (.int (i:Int)) ρ=.ok (.nx ρ2)/\Iv (i+1) ρ2)(h0:Iv a ρ)(g:∀ρ',Iv (a+n) ρ'->O6 (b ρ')=.ok d):O6 (F8 (X9 G F (nJ a n) ρ) b)=.ok d:=by obtain⟨ρ',e,h⟩:=AB Iv f h0;rw[e];exact g ρ' h
def rC {S:List G.V}{i:Nat}{A:G.V}(h:S[i]?=some A):P6 (.lst (S.map vd)) (.int (i:Int))=.ok (vd A):=gM (by rw[bP (by lia),aBP,aAK,h];rfl)
end M
namespace DL
open PySem PySem.Spec L2
open PyProof.Rows hiding St
variable [Tabs]
end DL
namespace M
open PySem L2 DL
variable [Tabs]
def fQ {α β γ:Type}{d:D->Ev->R Ev}{fe:Ev->R D}{ρ:Ev}{K:List D->R γ}(rep:α->D)(b:β->D)(g:α->β)(l:List α)(e:l.length<=30000)(h:∀a∈l,∃ρ1,d (rep a) ρ=.ok ρ1/\fe ρ1=.ok (b (g a))):(if(l.map rep).length<=sizeLine then(z8 d (λ_=>.ok true) fe ρ (l.map rep)).bind K else .bad)=K ((l.map g).map b):=by rw[hV (aAl (by rw[aAf];exact e) (by decide)),SK rep b g l h];rfl
def WS {α γ:Type}{b:D->Ev->R Ev}{ft:Ev->R Bool}{fe:Ev->R D}{ρ:Ev}{K:List D->R γ}(rep:α->D)(p:α->Bool)(g:α->D)(l:List α)(d:l.length<=30000)(h:∀a∈l,∃ρ1,b (rep a) ρ=.ok ρ1/\ft ρ1=.ok (p a)/\fe ρ1=.ok (g a)):(if(l.map rep).length<=sizeLine then(z8 b ft fe ρ (l.map rep)).bind K else .bad)=K ((l.filter p).map g):=by rw[hV (aAl (by rw[aAf];exact d) (by decide)),fU rep p g l λa e=>let⟨ρ1,f,i,j⟩:=h a e;⟨ρ1,f,i,λ_=>j⟩];rfl
def D1 {α β:Type}{r:R α}{x:α}{F:α->R β}{y:R β}(a:r=.ok x)(b:F x=y):r.bind F=y:=by rw[a];exact b
def nM {α:Type}{r:R Bool}{A B:R α}(h:r=.ok false):(r.bind λt=>if t=true then A else B)=B:=by rw[h];rfl
def GH {α:Type}{r:R Bool}{A B:R α}(h:r=.ok true):(r.bind λt=>if t=true then A else B)=A:=by rw[h];rfl
def II {f g:Ev->R Bool}{ρ:Ev}(a:f ρ=.ok false)(b:g ρ=.ok false):orB f g ρ=.ok false:=by unfold orB;rw[a];exact b
def iR (l:List Int):YJ [.lst (l.map D.int)]=.ok (.int l.sum):=by simp only[YJ,jF]
def CM (ns:List Int):J0 (.lst (ns.map D.int))<=40:=by
 have g:∀ns:List Int,N1 (ns.map D.int)<=0:=λns=>by
  induction ns with
  |nil=>simp[N1]
  |cons a ns b=>rw[aAi,N1];simp only[J0];lia
 have:=g ns;rw[J0];lia
def a5a {i:Nat}{F:Ev->R Out}{d:D}{ρ ρ':Ev}{J:Ev->Prop}(e:ρ.set i (.v d)=ρ')(h:∃ρ2,F ρ'=.ok (.nx ρ2)/\J ρ2):∃ρ2,mR (λd ρ=>.ok (ρ.set i (Sl.v d))) F d ρ=.ok (.nx ρ2)/\J ρ2:=by subst e;exact h
def gx {f g:Ev->R Bool}{ρ:Ev}(h:f ρ=.ok false):FE f g ρ=.ok false:=by unfold FE;rw[h];rfl
def HW {f g:Ev->R Bool}{ρ:Ev}{b:R Bool}(h:f ρ=.ok true)(a:g ρ=b):FE f g ρ=b:=by unfold FE;rw[h];exact a
def dz {ns:List Int}(h:ns≠[]):IQ [.lst (ns.map D.int)]=.ok (.int (FA ns)):=by simp only[IQ,jF];exact hV (by simpa using h)
def MX {α:Type}{r:R α}{x:α}{F:α->R Out}{a:Ev->R Out}{d:D}(b:r=.ok x)(e:O6 (F8 (F x) a)=.ok d):O6 (F8 (r.bind F) a)=.ok d:=by rw[b];exact e
def W3 {f:Ev->R D}{ρ:Ev}{a:D}(b:f ρ=.ok a):t4 f V2 ρ=.ok [a]:=by unfold t4;rw[b];rfl
def vJ {f g:Ev->R D}{ρ:Ev}{a b:D}(d:f ρ=.ok a)(e:g ρ=.ok b):t4 f (t4 g V2) ρ=.ok [a,b]:=by unfold t4;rw[d,e];rfl
def getD_at {l:List G.V}{j:Nat}(h:j<l.length):l[j]?=some (l.getD j 0):=by rw[aAs,aAh h];rfl
def fV {l:List G.V}{j:Nat}(h:j<l.length):l.getD j 0∈l:=aAw (getD_at h)
def JJ (r:List G.V)(P:G.V):List Int:=(aEJ 1<|r.length-1-1).map λk=>mZ (r.getD 0 0) (r.getD k 0) (r.getD (k+1) 0) P
def F1 (r:List G.V)(P:G.V):Int:=-(JJ r P).sum
def a2h (r:List G.V)(P:G.V):Prop:=1<=r.length/\r.length<=1000/\(∀X∈r,Sz 1000 X)/\Sz 5000 P
def xH:List D->R D:=zx λr=>v1 λx y z=>iQ (OF (a2h r ⟨x,y,z⟩)<|.int (F1 r ⟨x,y,z⟩))
def XX {r:List G.V}{P:G.V}(h:a2h r P):xH [.lst (r.map vd),vd P]=.ok (.int (F1 r P)):=(oE _ r _).trans (bX h)
def f7 (l:List G.V) (P:G.V):List Int:=(i5<|d8 l).map λf=>F1 (G.c7 (d8 l) f) P
def yS (l:List G.V):Prop:=aZ 900 l/\G.j8 l/\(d8 l).length<=23
def bY:List D->R D:=zx λl=>v1 λx y z=>iQ (OF (yS l/\Sz 5000 ⟨x,y,z⟩)<|.lst ((f7 l ⟨x,y,z⟩).map D.int))
def kG {l:List G.V}{P:G.V}(h:yS l)(a:Sz 5000 P):bY [.lst (l.map vd),vd P]=.ok (.lst ((f7 l P).map D.int)):=(oE _ l _).trans (bX ⟨h,a⟩)
def qA:List D->R D:=zx λl=>iQ (OF (yS l/\l≠[])<|.int (f7 l<|l.getD 0 0).sum)
def OD {l:List G.V}(h:yS l)(a:l≠[]):qA [.lst (l.map vd)]=.ok (.int (f7 l (l.getD 0 0)).sum):=(oE _ l _).trans (bX ⟨h,a⟩)
theorem jH:∀l:List G.V,G.j4 l=(aBa (l.length-1)).map λj=>(l.getD j 0,l.getD (j+1) 0)
 |[]=>rfl
 |[_]=>rfl
 |a::b::r=>by have d:=jH (b::r);rw[G.j4,d];simp only[aAp,Nat.add_sub_cancel];rw[aEd,aAi,aAV];rfl
def IC (a:G.V)(r:List G.V)(P:G.V):F1 (a::r) P=-G.dot (G.ar 0 (G.z6 (a::r))) (P-a):=by unfold F1 JJ;rw[<-G.xE a,G.QF,jH];unfold G.ar;rw[G.IX,aAV,aAV,aFr,aAV];congr 2;simp only[aAp,Nat.add_sub_cancel];refine aBw λj _=>?_;simp only[aGs,mZ,Nat.add_comm 1 j];rfl
def sum_map_add {α:Type}(f g:α->Int)(l:List α):(l.map λx=>f x+g x).sum=(l.map f).sum+(l.map g).sum:=by
 induction l with
 |nil=>rfl
 |cons a l b=>simp only[aAi,aAJ,b];lia
def WH {α:Type}(f:α->Int)(l:List α)(d:l≠[])(h:∀x∈l,0<f x):0<(l.map f).sum:=by
 have g:∀l:List α,(∀x∈l,0<f x)->0<=(l.map f).sum:=λl=>by
  induction l with
  |nil=>intro _;exact aBJ 0
  |cons a l e=>intro h;have:=h a (.head _);have:=e λx b=>h x (.tail _ b);simp only[aAi,aAJ];lia
 match l,d,h with
 |a::l,_,h=>have:=h a (.head _);have:=g l λx b=>h x (.tail _ b);simp only[aAi,aAJ];lia
section
variable{l:List G.V} (h:yS l)
include h
theorem yS.solid:G.j8 (d8 l):=aP h.2.1 λv a=>q9.mpr a
theorem yS.aa5:(∀f,f∈i5 (d8 l)↔G.IsFace (d8 l) f.1 f.2)/\i5 (d8 l)≠[]/\(i5 (d8 l)).Nodup:=by obtain⟨a,b,d⟩:=h;obtain⟨i,j,_⟩:=uW a b d;obtain⟨m,r,e,L⟩:=cD a b (by lia);have g:=M6 L (by rw[<-e];exact d);rw[<-e]at g;exact⟨i,j,N4 (X4 g.2)⟩
theorem G4 {f:G.V×Int}(d:G.IsFace (d8 l) f.1 f.2){s:G.V}(g:G.dot f.1 s=f.2)(P:G.V):F1 (G.c7 (d8 l) f) P=-G.dot (G.ar 0 (G.z6 (G.c7 (d8 l) f))) (P-s):=by
 obtain⟨a,b,c,r,e⟩:=G.C7 (m6 l) d;have e:G.c7 (d8 l) f=a::b::c::r:=e;have on:G.dot f.1 a=f.2:=(G.c6.mp ((d.aa2<|m6 l).aa4 (show a∈G.c7 (d8 l) f by rw[e];exact .head _))).2;have z:=(G.V5 h.solid (m6 l) d g a).2.2 on;rw[e,IC,<-e];generalize G.ar 0 (G.z6<|G.c7 (d8 l) f)=A at*
 rw[G.d9]at z⊢;rw[G.d9]
 lia
theorem bI (P Q:G.V):(f7 l P).sum=(f7 l Q).sum:=by
 obtain⟨i,m,j⟩:=h.aa5;have none:=G.DU h.solid (m6 l) i j;have g:∀P,(f7 l P).sum=((i5<|d8 l).map λf=>G.dot (G.ar 0<|G.z6<|G.c7 (d8 l) f) ((G.c7 (d8 l) f).getD 0 0)).sum:=λP=>by
  have e:f7 l P=(i5<|d8 l).map λf=>G.dot (G.ar 0<|G.z6<|G.c7 (d8 l) f) ((G.c7 (d8 l) f).getD 0 0)+G.dot (G.ar 0<|G.z6<|G.c7 (d8 l) f) (-P):=by unfold f7;refine aBw λf d=>?_;have d:=(i f).mp d;obtain⟨a,b,c,r,e⟩:=G.C7 (m6 l) d;have e:G.c7 (d8 l) f=a::b::c::r:=e;rw[e,IC];show-G.dot _ (P-a)=G.dot _ a+G.dot _ (-P);generalize G.ar 0 (G.z6 (a::b::c::r))=A;simp[G.dot];grind
  rw[e,sum_map_add];have z:=G.IX (-P) ((i5<|d8 l).map λf=>G.ar 0 (G.z6<|G.c7 (d8 l) f));rw[none,aAV]at z;have k:G.dot 0 (-P)=0:=by simp[G.dot]
  have:((i5<|d8 l).map λf=>G.dot (G.ar 0<|G.z6<|G.c7 (d8 l) f) (-P)).sum=0:=by rw[<-k,z];rfl
  lia
 rw[g P,g Q]
theorem LL (P:G.V):0<(f7 l P).sum:=by
 obtain⟨n,o,J⟩:=h.aa5;obtain⟨A,p,B,q,C,r,E,s,i7⟩:=h.solid;have i:0<((i5<|d8 l).map λf=>(F1 (G.c7 (d8 l) f) A+F1 (G.c7 (d8 l) f) B)+(F1 (G.c7 (d8 l) f) C+F1 (G.c7 (d8 l) f) E)).sum:=by
  refine WH _ _ o λf g=>?_;have g:=(n f).mp g;obtain⟨X,t,_,_,_,_,on,_⟩:=g.three;rw[G4 h g on A,G4 h g on B,G4 h g on C,G4 h g on E];have j:=G.V5 h.solid (m6 l) g on A;have pb:=G.V5 h.solid (m6 l) g on B;have k:=G.V5 h.solid (m6 l) g on C;have m:=G.V5 h.solid (m6 l) g on E;have u:=g.sup A p;have v:=g.sup B q;have w:=g.sup C r;have x:=g.sup E s;have some:¬(G.dot f.1 A=f.2/\G.dot f.1 B=f.2/\G.dot f.1 C=f.2/\G.dot f.1 E=f.2):=by
   rintro⟨a,b,c,e⟩;have d:∀{X:G.V},G.dot f.1 X=f.2->G.dot (X-A) f.1=0:=λ{X} t=>by
    have:G.dot (X-A) f.1=G.dot f.1 X-G.dot f.1 A:=by simp[G.dot];grind
    lia
   exact g.prim.ne (G.R3 i7 (d b) (d c)<|d e)
  have L:=j.1 u;have N:=pb.1 v;have O:=k.1 w;have Q:=m.1 x;by_cases y:G.dot f.1 A<f.2
  .have:=j.2.1 y;lia
  by_cases z:G.dot f.1 B<f.2
  .have:=pb.2.1 z;lia
  by_cases H:G.dot f.1 C<f.2
  .have:=k.2.1 H;lia
  have:=m.2.1 (by
   by_cases I:G.dot f.1 E<f.2
   .exact I
   .exact absurd ⟨by lia,by lia,by lia,by lia⟩ some)
  lia
 rw[sum_map_add,sum_map_add,sum_map_add]at i;have e:∀X,((i5<|d8 l).map λf=>F1 (G.c7 (d8 l) f) X).sum=(f7 l P).sum:=λX=>bI h X P;rw[e,e,e,e]at i
 lia
end
def lp {α:Type}:Nat->(Nat->α->α)->α->α
 |0,_,a=>a
 |n+1,f,a=>f n (lp n f a)
structure Bd4 (L:List G.V):Prop where
 sz:aZ 900 L
 sol:G.j8 L
 ord:L.Pairwise λa b=>G.f9 (b-a)
 len:L.length<=23
 cor:∀X∈L,∃f:G.V×Int,G.IsFace L f.1 f.2/\X∈G.c7 L f
section
variable{L:List G.V} (h:Bd4 L)
include h
theorem Bd4.self:d8 L=L:=mX h.ord
theorem Bd4.lok:yS L:=⟨h.sz,h.sol,by rw[h.self];exact h.len⟩
theorem Bd4.aa5:(∀f,f∈i5 L↔G.IsFace L f.1 f.2)/\i5 L≠[]/\(i5 L).Nodup:=by have:=h.lok.aa5;rw[h.self]at this;exact this
theorem Bd4.on {f:G.V×Int}(d:G.IsFace L f.1 f.2){X:G.V}(m:X∈G.n8 f.1 f.2 L):X∈G.c7 L f:=by
 obtain⟨a,e⟩:=G.c6.mp m;obtain⟨g,b,i⟩:=h.cor X a;obtain⟨n,u,o,p,j,q,r,k,s,t⟩:=G.K5 h.sol h.ord b i;by_cases z:f=g
 .rw[z];exact i
 by_cases l:f=n
 .subst l;exact G.iL h.sol h.ord a d b p e k t j.symm r q
 .exact G.iL h.sol h.ord a d b o e k s z l j
theorem Bd4.few:(i5 L).length<=42:=by
 obtain⟨a,b,c⟩:=h.aa5;have:=(G.iY h.sol h.ord a c b).1;have:=h.len
 lia
end
def Go4 (n:G.V)(s:List G.V)(P Q:G.V):Prop:=P≠Q/\∀R∈s,R≠P->R≠Q->0<G.dot n (G.cr (Q-P)<|R-P)
section
variable{L:List G.V} (h:Bd4 L)
include h
theorem Bd4.goes {f:G.V×Int}(d:G.IsFace L f.1 f.2){P Q:G.V}:(P∈G.n8 f.1 f.2 L/\Q∈G.n8 f.1 f.2 L)/\Go4 f.1 (G.n8 f.1 f.2 L) P Q↔(P,Q)∈G.z6 (G.c7 L f):=by
 have S:=d.aa2 h.ord;show _↔(P,Q)∈G.z6 (G.j6 f.1 (G.n8 f.1 f.2 L));rw[S.aa1];have ends:∀P Q:G.V,G.zy P Q P/\G.zy P Q Q:=λP Q=>⟨⟨λq=>⟨.inl rfl,.inr q⟩,λq=>⟨.inl rfl,.inr q⟩⟩,⟨λq=>⟨.inr q,.inl rfl⟩,λq=>⟨.inr q,.inl rfl⟩⟩⟩;constructor
 .rintro⟨⟨g,i⟩,ne,st⟩;have j:G.i7 f.1 (Q-P) (P-P)=0:=by simp[G.i7,G.dot]
  have k:G.i7 f.1 (Q-P) (Q-P)=0:=by simp[G.i7,G.dot];grind
  refine⟨g,i,ne,λX b=>?_,λX b z=>?_⟩
  .by_cases e:X=P
   .subst e;rw[j];exact aBJ 0
   by_cases a:X=Q
   .subst a;rw[k];exact aBJ 0
   .exact aAH (st X b e a)
  .by_cases e:X=P
   .subst e;exact(ends X Q).1
   by_cases a:X=Q
   .subst a;exact(ends P X).2
   .have:=st X b e a;have z:G.dot f.1 (G.cr (Q-P)<|X-P)=0:=z
    lia
 .intro E;exact⟨⟨E.p,E.q⟩,E.ne,λR l m n=>S.strict E (h.on d l) m n⟩
end
def BD {j:List G.V}(f:aZ 900 j)(g:G.j8 j)(h:(d8 j).length<=23):Bd4 (A1 j):=by
 obtain⟨a,b,d,e,i,m⟩:=tH f g h;refine⟨b,a,m6 _,e,λX k=>?_⟩;have l:X∈A1 (A1 j):=by rw[i];exact k
 have:=(cW b a (by rw[d];exact e) X).mp l;rw[d]at this;exact this
def jK (u v w:G.V):G.dot (u+v) w=G.dot u w+G.dot v w:=by simp[G.dot];grind
structure Mp (φ β:G.V->G.V)(k:Int):Prop where
 sub:∀X Y,φ X-φ Y=β (X-Y)
 vol:∀u v w,G.dot (G.cr (β u) (β v)) (β w)=k*G.dot (G.cr u v) w
 k0:k≠0
 inj:∀X Y,φ X=φ Y->X=Y
structure MpF (φ β:G.V->G.V)(L L':List G.V)(f f':G.V×Int)(c:Int):Prop where
 face:G.IsFace L f.1 f.2
 face':G.IsFace L' f'.1 f'.2
 c0:0<c
 dot:∀u,G.dot f'.1 (β u)=c*G.dot f.1 u
 on:∀X,G.dot f'.1 (φ X)=f'.2↔G.dot f.1 X=f.2
section
variable{φ β:G.V->G.V} {k:Int} {L L':List G.V} {f f':G.V×Int} {c:Int} (m:Mp φ β k) (h:Bd4 L) (h':Bd4 L') (hq:∀Y,Y∈L'↔∃X∈L,Y=φ X) (F:MpF φ β L L' f f' c)
include m h h' hq F
theorem a2s {Y:G.V}:Y∈G.n8 f'.1 f'.2 L'↔∃X∈G.n8 f.1 f.2 L,Y=φ X:=by
 rw[G.c6,hq];constructor
 .rintro⟨⟨X,d,rfl⟩,e⟩;exact⟨X,G.c6.mpr ⟨d,(F.on X).mp e⟩,rfl⟩
 .rintro⟨X,d,rfl⟩;obtain⟨a,b⟩:=G.c6.mp d;exact⟨⟨X,a,rfl⟩,(F.on X).mpr b⟩
theorem HF {u v:G.V}(a:G.dot f.1 u=0)(b:G.dot f.1 v=0):G.dot f'.1 (G.cr (β u) (β v))*(c*G.dot f.1 f.1)=G.dot f'.1 f'.1*(k*G.dot f.1 (G.cr u v)):=by
 have z:=G.BA (n:=f'.1) (u:=β u) (v:=β v) (by rw[F.dot,a];simp) (by rw[F.dot,b];simp) (β f.1);rw[m.vol,F.dot]at z;have e:G.dot (G.cr u v) f.1=G.dot f.1 (G.cr u v):=by simp[G.dot];grind
 rw[e]at z;exact z.symm
theorem a2t {P Q R:G.V}(d:P∈G.n8 f.1 f.2 L)(g:Q∈G.n8 f.1 f.2 L)(j:R∈G.n8 f.1 f.2 L):(0<k->(0<G.dot f'.1 (G.cr (φ Q-φ P) (φ R-φ P))↔0<G.dot f.1 (G.cr (Q-P) (R-P))))/\(k<0->(0<G.dot f'.1 (G.cr (φ P-φ Q) (φ R-φ Q))↔0<G.dot f.1 (G.cr (Q-P) (R-P)))):=by
 have on:∀{X Y:G.V},X∈G.n8 f.1 f.2 L->Y∈G.n8 f.1 f.2 L->G.dot f.1 (X-Y)=0:=λA B=>by have a:=(G.c6.mp A).2;have b:=(G.c6.mp B).2;rw[G.d9];lia
 have C:=G.n9 F.face.prim.ne;have l:=G.n9 F.face'.prim.ne;have n:=aAD F.c0 C;rw[m.sub,m.sub,m.sub,m.sub];have E:=HF m h h' hq F (on g d) (on j d);have o:=HF m h h' hq F (on d g) (on j g);rw[show G.dot f.1 (G.cr (P-Q)<|R-Q)=-G.dot f.1 (G.cr (Q-P)<|R-P)by simp[G.dot];grind]at o;generalize G.dot f'.1 (G.cr (β<|Q-P)<|β<|R-P)=x at*
 generalize G.dot f'.1 (G.cr (β<|P-Q)<|β<|R-Q)=y at*
 generalize G.dot f.1 (G.cr (Q-P)<|R-P)=z at*
 generalize c*G.dot f.1 f.1=p at*
 generalize G.dot f'.1 f'.1=q at*
 have t:∀{a b s r:Int},0<s->0<r->a*s=r*b->(0<a↔0<b):=λ{a b s r} u v e=>by
  constructor
  .intro H;have:=aAD H u;rw[e]at this;exact aDT this v
  .intro I;have:=aAD v I;rw[<-e]at this;exact Int.pos_of_mul_pos_left this u
 constructor
 .intro i;rw[t n l E];exact⟨λw=>aDT w i,λw=>aAD i w⟩
 .intro i;rw[t n l o,show k*-z=(-k)*z by grind];exact⟨λw=>aDT w (by lia),λw=>aAD (by lia) w⟩
theorem WW:(0<k->(G.z6 (G.c7 L' f')).Perm ((G.z6 (G.c7 L f)).map λe=>(φ e.1,φ e.2)))/\(k<0->(G.z6 (G.c7 L' f')).Perm ((G.z6 (G.c7 L f)).map λe=>(φ e.2,φ e.1))):=by
 have I:∀{l:List G.V} {g:G.V×Int},G.IsFace l g.1 g.2->l.Pairwise (λa b=>G.f9 (b-a))->(G.z6<|G.c7 l g).Nodup:=λ{l g} A O=>by
  have:((G.z6<|G.c7 l g).map (·.1)).Nodup:=by rw[G.xM];exact(A.aa2 O).aa3
  exact(aBb.mp this).imp λ{a b} n q=>n (by rw[q])
 have J:=I F.face' h'.ord;have N:=I F.face h.ord;have j:=λ{Y}=>a2s m h h' hq F (Y:=Y);have y:=λ{P Q R}=>a2t m h h' hq F (P:=P) (Q:=Q) (R:=R);have d:∀{P Q:G.V} (g:G.V->G.V->Prop),P∈G.n8 f.1 f.2 L->Q∈G.n8 f.1 f.2 L->((0<k/\((φ P,φ Q)∈G.z6 (G.c7 L' f')↔(P,Q)∈G.z6 (G.c7 L f)))\/(k<0/\((φ Q,φ P)∈G.z6 (G.c7 L' f')↔(P,Q)∈G.z6 (G.c7 L f)))):=λ{P Q} _ o r=>by
  have ne:P≠Q↔φ P≠φ Q:=⟨λn e=>n (m.inj _ _ e),λn e=>n (by rw[e])⟩;rcases aCw m.k0 with t|t
  .right;refine⟨t,?_⟩;rw[<-h.goes F.face,<-h'.goes F.face'];constructor
   .rintro⟨_,n,z⟩;exact⟨⟨o,r⟩,ne.mpr n.symm,λR s v w=>((y o r s).2 t).mp (z (φ R) (j.mpr ⟨R,s,rfl⟩) (λe=>w (m.inj _ _ e)) λe=>v (m.inj _ _ e))⟩
   .rintro⟨_,n,z⟩;refine⟨⟨j.mpr ⟨Q,r,rfl⟩,j.mpr ⟨P,o,rfl⟩⟩,(ne.mp n).symm,λT x v w=>?_⟩;obtain⟨R,s,rfl⟩:=j.mp x;exact((y o r s).2 t).mpr (z R s (λe=>w (by rw[e])) λe=>v (by rw[e]))
  .left;refine⟨t,?_⟩;rw[<-h.goes F.face,<-h'.goes F.face'];constructor
   .rintro⟨_,n,z⟩;exact⟨⟨o,r⟩,ne.mpr n,λR s v w=>((y o r s).1 t).mp (z (φ R) (j.mpr ⟨R,s,rfl⟩) (λe=>v (m.inj _ _ e)) λe=>w (m.inj _ _ e))⟩
   .rintro⟨_,n,z⟩;refine⟨⟨j.mpr ⟨P,o,rfl⟩,j.mpr ⟨Q,r,rfl⟩⟩,ne.mp n,λT x v w=>?_⟩;obtain⟨R,s,rfl⟩:=j.mp x;exact((y o r s).1 t).mpr (z R s (λe=>v (by rw[e])) λe=>w (by rw[e]))
 have u:∀{l:List G.V} {g:G.V×Int} {p:G.V×G.V},Bd4 l->G.IsFace l g.1 g.2->p∈G.z6 (G.c7 l g)->p.1∈G.n8 g.1 g.2 l/\p.2∈G.n8 g.1 g.2 l:=λ{l g p} b A i=>((b.goes A).mpr i).1;constructor
 .intro t;refine(aBf J (aBb.mpr (N.imp λ{a b} n q=>n (by injection q with B C;exact aDB (m.inj _ _ B) (m.inj _ _ C))))).mpr λ⟨U,Q'⟩=>?_;rw[aAk];constructor
  .intro i;obtain⟨a,b⟩:=u h' F.face' i;obtain⟨P,o,rfl⟩:=j.mp a;obtain⟨Q,r,rfl⟩:=j.mp b;rcases d (λ_ _=>True) o r with⟨_,z⟩|⟨z,_⟩
   .exact⟨(P,Q),z.mp i,rfl⟩
   .lia
  .rintro⟨⟨P,Q⟩,i,e⟩;injection e with E H;subst E H;obtain⟨a,b⟩:=u h F.face i;rcases d (λ_ _=>True) a b with⟨_,z⟩|⟨z,_⟩
   .exact z.mpr i
   .lia
 .intro t;refine(aBf J (aBb.mpr (N.imp λ{a b} n q=>n (by injection q with B C;exact aDB (m.inj _ _ C) (m.inj _ _ B))))).mpr λ⟨U,Q'⟩=>?_;rw[aAk];constructor
  .intro i;obtain⟨a,b⟩:=u h' F.face' i;obtain⟨Q,r,rfl⟩:=j.mp a;obtain⟨P,o,rfl⟩:=j.mp b;rcases d (λ_ _=>True) o r with⟨z,_⟩|⟨_,z⟩
   .lia
   .exact⟨(P,Q),z.mp i,rfl⟩
  .rintro⟨⟨P,Q⟩,i,e⟩;injection e with E H;subst E H;obtain⟨a,b⟩:=u h F.face i;rcases d (λ_ _=>True) a b with⟨z,_⟩|⟨_,z⟩
   .lia
   .exact z.mpr i
theorem YY (V:G.V):F1 (G.c7 L' f') (φ V)=(k.natAbs:Int)*F1 (G.c7 L f) V:=by
 obtain⟨a,_,_,_,_,_,g,_⟩:=F.face.three;have i:=G4 h'.lok (f:=f') (by rw[h'.self];exact F.face') ((F.on a).mpr g) (φ V);have j:=G4 h.lok (f:=f) (by rw[h.self];exact F.face) g V;rw[h'.self,<-G.xE (φ a)]at i;rw[h.self,<-G.xE a]at j;rw[i,j];have n:∀l:List (G.V×G.V),G.dot (G.ar (φ a)<|l.map λe=>(φ e.1,φ e.2)) (φ V-φ a)=k*G.dot (G.ar a l) (V-a):=λl=>by
  induction l with
  |nil=>simp[G.ar,G.jZ,G.dot]
  |cons e l b=>rw[aAi,G.G9,G.G9,jK,jK,b];dsimp only;rw[m.sub,m.sub,m.sub,m.vol];grind
 have o:∀l:List (G.V×G.V),G.dot (G.ar (φ a)<|l.map λe=>(φ e.2,φ e.1)) (φ V-φ a)=(-k)*G.dot (G.ar a l) (V-a):=λl=>by
  induction l with
  |nil=>simp[G.ar,G.jZ,G.dot]
  |cons e l b=>rw[aAi,G.G9,G.G9,jK,jK,b];dsimp only;rw[m.sub,m.sub,m.sub,m.vol,show G.dot (G.cr (e.2-a)<|e.1-a) (V-a)=-G.dot (G.cr (e.1-a)<|e.2-a) (V-a)by simp[G.dot];grind];grind
 have R:=WW m h h' hq F;rcases aCw m.k0 with d|d
 .rw[G.vO (R.2 d),o,show(k.natAbs:Int)=-k by lia];grind
 .rw[G.vO (R.1 d),n,show(k.natAbs:Int)=k by lia];grind
end
def mx {α:Type}{l m:List α}(b:l.Nodup)(sub:∀x∈l,x∈m)(le:m.length<=l.length){x:α}(d:x∈m):x∈l:=by
 classical
 by_cases z:x∈l
 .exact z
 .have:=G.u6 (aAF.mpr ⟨z,b⟩) (m:=m) λy a=>by
   rcases aAd.mp a with rfl|a
   .exact d
   .exact sub y a
  simp at this
  lia
section
variable{φ β:G.V->G.V} {k:Int} {L L':List G.V} (m:Mp φ β k) (h:Bd4 L) (h':Bd4 L') (hq:∀Y,Y∈L'↔∃X∈L,Y=φ X)
include m h h' hq
theorem IU (F:G.V×Int->G.V×Int)(c:G.V×Int->Int)(i:∀f,G.IsFace L f.1 f.2->MpF φ β L L' f (F f) (c f))(inj:∀f g,F f=F g->f=g)(few:(i5 L').length<=(i5 L).length)(V:G.V):(f7 L' (φ V)).Perm ((f7 L V).map λx=>(k.natAbs:Int)*x):=by
 obtain⟨a,_,l⟩:=h.aa5;obtain⟨o,_,p⟩:=h'.aa5;have j:((i5 L).map F).Nodup:=aBb.mpr (l.imp λ{x y} n e=>n (inj _ _ e));have sub:∀g∈(i5 L).map F,g∈i5 L':=λg b=>by obtain⟨f,d,rfl⟩:=aAk.mp b;exact(o _).mpr (i f<|(a f).mp d).face'
 have q:(i5 L').Perm ((i5 L).map F):=(aBf p j).mpr λg=>⟨λb=>mx j sub (by rw[aAf];exact few) b,sub g⟩;have r:f7 L' (φ V)=(i5 L').map λg=>F1 (G.c7 L' g) (φ V):=by unfold f7;rw[h'.self]
 have s:f7 L V=(i5 L).map λf=>F1 (G.c7 L f) V:=by unfold f7;rw[h.self]
 rw[r,s];refine(q.map _).trans (aDw ?_);rw[aAV,aAV];refine aBw λf d=>?_;exact YY m h h' hq (i f<|(a f).mp d) V
end
def a1d {r:G.Mv}(u:G.M3 r.1):Mp (G.z7 r) (G.Q3 r.1) (G.J2 r.1)where
 sub:=G.oU r
 vol:=λu v w=>by rw[G.MY,G.IF]
 k0:=λz=>by rcases u with e|e<;>rw[e]at z<;>cases z
 inj:=λX Y e=>G.UA u e
def mvF (r:G.Mv)(f:G.V×Int):G.V×Int:=(G.nR r f.1,f.2+G.dot (G.nR r f.1) r.2)
def yQ {r:G.Mv}(u:G.M3 r.1)(f g:G.V×Int)(e:mvF r f=mvF r g):f=g:=by
 injection e with a b;have n:f.1=g.1:=by rw[<-G.jY (n:=f.1) u,a,G.jY u]
 rw[a]at b;exact aDB n (by lia)
def TR {r:G.Mv}{L b:List G.V}(u:G.M3 r.1)(h:Bd4 L)(h':Bd4 b)(d:∀Y,Y∈b↔∃X∈L,Y=G.z7 r X)(V:G.V):(f7 b (G.z7 r V)).Perm (f7 L V):=by
 have one:∀{r:G.Mv} {L b:List G.V},G.M3 r.1->Bd4 L->Bd4 b->(∀Y,Y∈b↔∃X∈L,Y=G.z7 r X)->(i5 L).length<=(i5 b).length:=λ{r L b} u h h' d=>by
  obtain⟨a,_,j⟩:=h.aa5;obtain⟨k,_,_⟩:=h'.aa5;have:=G.u6 (show((i5 L).map (mvF r)).Nodup from aBb.mpr (j.imp λ{x y} n e=>n (yQ u _ _ e))) (m:=i5 b) λg l=>by obtain⟨f,i,rfl⟩:=aAk.mp l;exact(k _).mpr (G.wD u d<|(a f).mp i)
  rw[aAf]at this;exact this
 have P:=IU (a1d u) h h' d (mvF r) (λ_=>1) (λf i=>⟨i,G.wD u d i,by decide,λv=>by rw[aGh];exact G.wL u f.1 v,λX=>by
  show G.dot (G.nR r f.1) (G.z7 r X)=f.2+G.dot (G.nR r f.1) r.2↔_;rw[G.aR u]
  lia⟩) (yQ u) (one (G.BB u) h' h<|G.OT u d) V
 refine P.trans (aDw ?_);have e:((G.J2 r.1).natAbs:Int)=1:=by rcases u with e|e<;>rw[e]<;>rfl
 rw[e];simp
def a0s {t:Int}(a:t≠0):Mp (G.bA t) (G.bA t) (t*t*t)where
 sub:=λX Y=>by apply G.ext<;>simp[G.bA]<;>grind
 vol:=λu v w=>by simp[G.bA,G.dot];grind
 k0:=λz=>by
  rcases aAo.mp z with z|z
  .rcases aAo.mp z with z|z<;>exact a z
  .exact a z
 inj:=λX Y e=>by have c:∀{x y:Int},t*x=t*y->x=y:=λh=>aBh a h;exact G.ext (c<|ip G.V.x e) (c<|ip G.V.y e) (c<|ip G.V.z e)
def NM {t:Int}{L d:List G.V}(b:t≠0)(h:Bd4 L)(h':Bd4 d)(i:∀Y,Y∈d↔∃X∈L,Y=G.bA t X)(V:G.V):(f7 d (G.bA t V)).Perm ((f7 L V).map λx=>(t.natAbs:Int)*t*t*x):=by
 have j:(t.natAbs:Int)≠0:=by lia
 have inj:∀f g:G.V×Int,((G.vN t f.1,(t.natAbs:Int)*f.2):G.V×Int)=(G.vN t g.1,(t.natAbs:Int)*g.2)->f=g:=λf g e=>by injection e with n o;exact aDB (by rw[<-G.tU b f.1,n,G.tU b]) (aBh j o)
 have few:(i5 d).length<=(i5 L).length:=by
  obtain⟨a,_,u⟩:=h.aa5;obtain⟨p,_,q⟩:=h'.aa5;have:=G.u6 q (m:=(i5 L).map λf=>(G.vN t f.1,(t.natAbs:Int)*f.2)) λg r=>by obtain⟨k,s,e⟩:=G.VI b i ((p g).mp r);exact aAk.mpr ⟨(G.vN t g.1,k),(a _).mpr s,aDB (G.tU b g.1) e.symm⟩
  rw[aAf]at this;exact this
 have P:=IU (a0s b) h h' i (λf=>(G.vN t f.1,(t.natAbs:Int)*f.2)) (λ_=>t.natAbs) (λf l=>⟨l,G.IG b i l,by lia,λv=>G.eF b f.1 v,λX=>by dsimp only;rw[G.eF b];exact⟨λe=>aBh j e,λe=>by rw[e]⟩⟩) inj few V
 refine P.trans (aDw ?_);refine aBw λx _=>?_;have:((t*t*t).natAbs:Int)=t.natAbs*t*t:=by
  rw[aGc,aGc];rcases aFI 0 t with z|z
  .rw[show((t.natAbs*t.natAbs*t.natAbs:Nat):Int)=(t.natAbs:Int)*t.natAbs*t.natAbs by simp,show(t.natAbs:Int)=t by lia]
  .rw[show((t.natAbs*t.natAbs*t.natAbs:Nat):Int)=(t.natAbs:Int)*t.natAbs*t.natAbs by simp,show(t.natAbs:Int)=-t by lia];grind
 rw[this]
def qD {l m:List Int}(h:l.Perm m):l.sum=m.sum:=by
 induction h with
 |nil=>rfl
 |cons a _ d=>rw[aAJ,aAJ,d]
 |swap a b l=>simp only[aAJ];lia
 |trans _ _ e f=>exact e.trans f
theorem pH {α:Type}{p:α->Int}{q:α->Bool}:∀{l:List α},(∀x∈l,q x=false->p x=0)->(l.map p).sum=((l.filter q).map p).sum
 |[],_=>rfl
 |a::l,h=>by
  have b:=pH (l:=l) λx d=>h x (.tail _ d);cases e:q a with
  |true=>rw[aDe e,aAi,aAi,aAJ,aAJ,b]
  |false=>rw[aDf (by simp[e]),aAi,aAJ,h a (.head _) e,b];lia
def VW {ns:List Int}:(ns.map λx=>if 0<x then x else 0).sum=ns.sum-(ns.filter λx=>decide (x<0)).sum:=by
 induction ns with
 |nil=>rfl
 |cons a ns b=>
  rw[aAi,aAJ,aAJ,b];by_cases z:a<0
  .rw[aDe (by simpa using z),aAJ,h9 (by lia)];lia
  .rw[aDf (by simpa using z)];split<;>lia
def FK {j:List G.V}(h:yS j)(P:G.V):(f7 (A1 j) P).sum=(f7 j P).sum:=by
 obtain⟨d,b,e⟩:=h;have B:=BD d b e;obtain⟨s,t,g,u,w,i⟩:=tH d b e;obtain⟨a,_,k⟩:=yS.aa5 ⟨d,b,e⟩;obtain⟨l,_,m⟩:=B.aa5;have n:=cW d b e;have o:G.j8 (d8 j):=aP b λv p=>q9.mpr p;have q:(i5<|A1 j).Perm (i5<|d8 j):=(aBf m k).mpr λf=>by rw[l,a,i]
 refine qD ?_;unfold f7;rw[g];refine(q.map _).trans (aDw<|aBw λf r=>?_);rw[show G.c7 (A1 j) f=G.c7 (d8 j) f from G.gj o (m6 j) (m6 _) n ((a f).mp r)]
section
variable{L:List G.V} {V:G.V} (B:Bd4 L) (h:yS (L++[V]))
include B h
theorem NU:(∀X,X∈d8 (L++[V])↔X∈L\/X=V)/\∀f:G.V×Int,G.dot f.1 V<f.2->(G.IsFace (d8 (L++[V])) f.1 f.2↔G.IsFace L f.1 f.2)/\G.c7 (d8 (L++[V])) f=G.c7 L f:=by
 have b:∀X,X∈d8 (L++[V])↔X∈L\/X=V:=λX=>by rw[q9];simp
 refine⟨b,λf k=>⟨⟨λF=>?_,λF=>?_⟩,?_⟩⟩
 .obtain⟨A,i,X,d,Y,j,a,x,y,e⟩:=F.three;have g:∀{Z:G.V},Z∈d8 (L++[V])->G.dot f.1 Z=f.2->Z∈L:=λ{Z} l z=>((b Z).mp l).resolve_right λq=>by rw[q]at z;lia
  exact⟨F.prim,λX d=>F.sup X ((b X).mpr (.inl d)),A,g i a,X,g d x,Y,g j y,a,x,y,e⟩
 .obtain⟨A,i,X,d,Y,j,r⟩:=F.three;refine⟨F.prim,λX d=>?_,A,(b A).mpr (.inl i),X,(b X).mpr (.inl d),Y,(b Y).mpr (.inl j),r⟩;rcases(b X).mp d with d|rfl
  .exact F.sup X d
  .exact aAH k
 .have e:G.n8 f.1 f.2 (d8<|L++[V])=G.n8 f.1 f.2 L:=by
   refine dH ((m6 _).sublist aBp) (B.ord.sublist aBp) λX=>?_;rw[G.c6,G.c6,b];constructor
   .rintro⟨z|rfl,e⟩
    .exact⟨z,e⟩
    .lia
   .rintro⟨z,e⟩;exact⟨.inl z,e⟩
  unfold G.c7;rw[e]
theorem uT (P:G.V):(f7 (A1 (L++[V])) P).sum=(f7 L V).sum-((f7 L V).filter λx=>decide (x<0)).sum:=by
 obtain⟨e,one⟩:=NU B h;obtain⟨a,_,j⟩:=h.aa5;obtain⟨g,_,k⟩:=B.aa5;rw[FK h,bI h P V,<-VW];have l:f7 L V=(i5 L).map λf=>F1 (G.c7 L f) V:=by unfold f7;rw[B.self]
 rw[l,aAV];unfold f7;have on:∀f∈i5 (d8<|L++[V]),∃s,G.dot f.1 s=f.2/\True:=λf b=>by obtain⟨s,_,_,_,_,_,o,_⟩:=((a f).mp b).three;exact⟨s,o,trivial⟩
 rw[pH (q:=λf:G.V×Int=>decide (G.dot f.1 V<f.2)) λf b z=>?_,pH (q:=λf:G.V×Int=>decide (G.dot f.1 V<f.2)) (p:=(λx=>if 0<x then x else 0)∘λf=>F1 (G.c7 L f) V) λf b z=>?_]
 .refine qD ?_;have m:((i5<|d8<|L++[V]).filter λf=>decide (G.dot f.1 V<f.2)).Perm ((i5 L).filter λf=>decide (G.dot f.1 V<f.2)):=(aBf (j.sublist aBp)<|k.sublist aBp).mpr λf=>by rw[aAU,aAU,a,g,decide_eq_true_eq];exact⟨λ⟨x,y⟩=>⟨(one f y).1.mp x,y⟩,λ⟨x,y⟩=>⟨(one f y).1.mpr x,y⟩⟩
  refine(m.map _).trans (aDw<|aBw λf b=>?_);obtain⟨b,z⟩:=aAU.mp b;have z:=of_decide_eq_true z;have F:=(g f).mp b;obtain⟨s,_,_,_,_,_,o,_⟩:=F.three;have d:=G4 B.lok (f:=f) (by rw[B.self];exact F) o V;rw[B.self]at d;have n:=(G.V5 B.sol B.ord F o V).2.1 z;show _=if 0<F1 (G.c7 L f) V then F1 (G.c7 L f) V else 0
  rw[(one f z).2,hV (by rw[d];exact n)]
 .have F:=(g f).mp b;have z:=of_decide_eq_false z;obtain⟨s,_,_,_,_,_,o,_⟩:=F.three;have d:=G4 B.lok (f:=f) (by rw[B.self];exact F) o V;rw[B.self]at d;show(if 0<F1 (G.c7 L f) V then F1 (G.c7 L f) V else 0)=0;refine h9 λq=>?_;rw[d]at q;have r:=G.n9 F.prim.ne;obtain⟨u,i⟩:=G.xS B.sol B.ord F;have i:=i (V-s);rw[show G.dot f.1 (V-s)=G.dot f.1 V-f.2 by rw[G.d9,o]]at i;have v:=aAS (show 0<=G.dot f.1 (G.ar 0<|G.z6<|G.c7 L f)by lia) (show 0<=G.dot f.1 V-f.2 by lia);have w:=aAD r q;grind
 .have F:=(a f).mp b;have z:=of_decide_eq_false z;have t:G.dot f.1 V=f.2:=by have:=F.sup V ((e V).mpr (.inr rfl));lia
  rw[G4 h F t V];simp[G.dot]
end
def Tri (l:List G.V)(X:G.V):Prop:=X∈l/\∃a b c:G.V×Int,(G.IsFace l a.1 a.2/\G.dot a.1 X=a.2)/\(G.IsFace l b.1 b.2/\G.dot b.1 X=b.2)/\(G.IsFace l c.1 c.2/\G.dot c.1 X=c.2)/\a≠b/\a≠c/\b≠c
def jB {j:List G.V}(h:yS j){X:G.V}:X∈A1 j↔Tri (d8 j) X:=by
 have i:=h.solid;have e:=m6 j;rw[cW h.1 h.2.1 h.2.2];constructor
 .rintro⟨f,g,d⟩;obtain⟨l,m,n,o,p,q,r,s,t,u⟩:=G.K5 i e g d;exact⟨(G.c6.mp<|(g.aa2 e).aa4 d).1,f,l,m,⟨g,s⟩,⟨n,t⟩,⟨o,u⟩,p,q,r⟩
 .rintro⟨d,a,b,c,⟨k,v⟩,⟨w,x⟩,⟨y,z⟩,A,B,C⟩;exact⟨a,k,G.iL i e d k w y v x z A B C⟩
def HX {l m:List G.V}{X Y:G.V}(F:G.V×Int->G.V×Int)(inj:∀f g,F f=F g->f=g)(d:∀f,G.IsFace l f.1 f.2->G.dot f.1 X=f.2->G.IsFace m (F f).1 (F f).2/\G.dot (F f).1 Y=(F f).2)(i:Y∈m)(h:Tri l X):Tri m Y:=by obtain⟨_,a,b,c,⟨j,k⟩,⟨n,o⟩,⟨p,q⟩,r,s,t⟩:=h;exact⟨i,_,_,_,d a j k,d b n o,d c p q,λe=>r (inj _ _ e),λe=>s (inj _ _ e),λe=>t (inj _ _ e)⟩
def TH {r:G.Mv}{l m:List G.V}(u:G.M3 r.1)(a:∀Y,Y∈m↔∃X∈l,Y=G.z7 r X){X:G.V}(h:Tri l X):Tri m (G.z7 r X):=HX (mvF r) (yQ u) (λf b e=>⟨G.wD u a b,by show G.dot (G.nR r f.1) _=f.2+_;rw[G.aR u,e]⟩) ((a _).mpr ⟨X,h.1,rfl⟩) h
def dJ {φ:G.V->G.V}{j:List G.V}(Y:G.V):Y∈d8 (j.map φ)↔∃X∈d8 j,Y=φ X:=by rw[q9,aAk];exact⟨λ⟨x,h,e⟩=>⟨x,q9.mpr h,e.symm⟩,λ⟨x,h,e⟩=>⟨x,q9.mp h,e.symm⟩⟩
def yz {r:G.Mv}{j:List G.V}(u:G.M3 r.1)(h:yS j)(h':yS (j.map (G.z7 r)))(Y:G.V):Y∈A1 (j.map (G.z7 r))↔∃X∈A1 j,Y=G.z7 r X:=by
 have a:=λY=>dJ (φ:=G.z7 r) (j:=j) Y;constructor
 .intro b;exact⟨G.z7 (G.WB r) Y,(jB h).mpr (TH (G.BB u) (G.OT u a)<|(jB h').mp b),(G.QQ u Y).symm⟩
 .rintro⟨X,d,rfl⟩;exact(jB h').mpr (TH u a<|(jB h).mp d)
def iw {t:Int}(a:t≠0)(f g:G.V×Int)(e:((G.vN t f.1,(t.natAbs:Int)*f.2):G.V×Int)=(G.vN t g.1,(t.natAbs:Int)*g.2)):f=g:=by injection e with b d;exact aDB (by rw[<-G.tU a f.1,b,G.tU a]) (aBh (by lia) d)
def jk {t:Int}{L:List G.V}(a:t≠0)(B:Bd4 L)(h':yS (L.map (G.bA t)))(Y:G.V):Y∈A1 (L.map (G.bA t))↔∃X∈L,Y=G.bA t X:=by
 have b:∀Y,Y∈d8 (L.map<|G.bA t)↔∃X∈L,Y=G.bA t X:=λY=>by rw[dJ,B.self]
 rw[jB h'];refine⟨λh=>(b Y).mp h.1,λh=>?_⟩;obtain⟨X,d,rfl⟩:=h;obtain⟨f,g,i⟩:=B.cor X d;obtain⟨j,k,m,n,o,p,q,r,s,u⟩:=G.K5 B.sol B.ord g i;exact HX (l:=L) (X:=X) _ (iw a) (λf v e=>⟨G.IG a b v,by dsimp only;rw[G.eF a,e]⟩) ((b _).mpr ⟨X,d,rfl⟩) ⟨d,f,j,k,⟨g,r⟩,⟨m,s⟩,⟨n,u⟩,o,p,q⟩
def yF (s t u:Int)(a:Bool):G.T3:=if a then(⟨u,u*s,1⟩,⟨0,1,-t⟩,⟨1,s,0⟩)else(⟨1,s,0⟩,⟨0,1,-t⟩,⟨u,u*s,1⟩)
def yq (k f:Int):∃r:G.Mv,G.M3 r.1/\gF k f=G.z7 r:=by
 obtain⟨s,t,u,a,o,e,_⟩:=yU k f;refine⟨(yF s t u a,o),?_,funext λP=>?_⟩
 .cases a
  .left;simp[yF,G.J2,G.dot];grind
  .right;simp[yF,G.J2,G.dot];grind
 .rw[e];unfold kQ G.z7;cases a
  .exact G.ext (by simp[yF,G.Q3,G.dot]) (by simp[yF,G.Q3,G.dot];grind) (by simp[yF,G.Q3,G.dot];grind)
  .exact G.ext (by simp[yF,G.Q3,G.dot];grind) (by simp[yF,G.Q3,G.dot];grind) (by simp[yF,G.Q3,G.dot])
theorem oC {n:Nat}:∀{l:List Int},(∀w∈l,bits w<=n)->bits l.sum<=n+l.length
 |[],_=>aAl (show bits 0<=0 by decide) (aAX _)
 |z::l,h=>by rw[aAJ];exact bits_add (C8 (h z (.head _)) (aDP _ _)) (oC λw a=>h w (.tail _ a))
def GD {L:List G.V}{V:G.V}(B:Bd4 L)(d:Sz 5000 V):(∀x∈f7 L V,bits x<=7000)/\bits (f7 L V).sum<=7100:=by
 have len:(f7 L V).length<=42:=by unfold f7;rw[B.self,aAf];exact B.few
 have one:∀x∈f7 L V,bits x<=7000:=λx a=>by
  unfold f7 at a;rw[B.self]at a;obtain⟨f,e,rfl⟩:=aAk.mp a;have S:=((B.aa5.1 f).mp e).aa2 B.ord;have g:=G.u6 S.aa3 (m:=L) λv i=>(G.c6.mp<|S.aa4 i).1;have:=B.len;have l:(JJ (G.c7 L f) V).length<=23:=by unfold JJ;rw[aAf,List.length_range'];exact aAl (Nat.sub_le _ _) (aAl (Nat.sub_le _ _)<|aAl g this)
  refine bits_neg (C8 (oC (n:=6806) λw o=>?_) (aAl (aEK l _) (by decide)));obtain⟨k,p,rfl⟩:=aAk.mp o;rw[List.mem_range'_1]at p;have at_:∀{j:Nat},j<(G.c7 L f).length->Sz 900 ((G.c7 L f).getD j 0):=λh=>B.sz.1 _ (G.c6.mp<|S.aa4<|fV h).1;have b:=at_ (j:=0) (by lia);exact RH (((at_ (j:=k) (by lia)).sub b).cr ((at_ (j:=k+1) (by lia)).sub b)) (d.sub<|b.mono (n:=5000))
 exact⟨one,C8 (oC one) (aAl (aEK len _) (by decide))⟩
def RJ {L:List G.V}(B:Bd4 L){f:G.V×Int}(g:G.IsFace L f.1 f.2)(V:G.V):sgn (F1 (G.c7 L f) V)=0-sgn (G.dot f.1 V-f.2):=by
 obtain⟨s,_,_,_,_,_,o,_⟩:=g.three;have i:=G4 B.lok (f:=f) (by rw[B.self];exact g) o V;rw[B.self]at i;have j:=G.n9 g.prim.ne;obtain⟨l,d⟩:=G.xS B.sol B.ord g;have d:=d (V-s);rw[show G.dot f.1 (V-s)=G.dot f.1 V-f.2 by rw[G.d9,o]]at d;rw[i];generalize G.dot (G.ar 0<|G.z6<|G.c7 L f) (V-s)=x at*
 generalize G.dot f.1 (G.ar 0<|G.z6<|G.c7 L f)=k at*
 generalize G.dot f.1 f.1=m at*
 generalize G.dot f.1 V-f.2=h at*
 unfold sgn;have e:∀{a b:Int},0<a->0<b->0<a*b:=aAD;rcases Int.lt_trichotomy h 0 with z|z|z
 .have:¬0<=x:=λq=>by have:=aAS (aAH j) q;have:=e l (show 0< -h by lia);grind
  simp[show¬0<h by lia,z,show x<0 by lia]
 .have:x=0:=by rw[z,aBQ]at d;exact(aAo.mp d).resolve_left (by lia)
  simp[z,this]
 .have:¬x<=0:=λq=>by have:=aAS (aAH j) (show 0<=-x by lia);have:=e l z;grind
  simp[z,show¬x<0 by lia,show 0<x by lia]
def iC {a b:Int}(h:a=b):UR (.int a) (.int b)=.ok (.bl true):=by rw[vZ,h,beq_self_eq_true]
def IK {a b:Int}(h:a≠b):UR (.int a) (.int b)=.ok (.bl false):=by rw[vZ,beq_false_of_ne h]
def PP {α:Type}(f:α->D)(l:List α):vX [.lst (l.map f)]=.ok (.int (l.length:Int)):=by simp only[vX,aAf]
def GP (a:Int):NA (.int a) (.int a)=.ok (.bl false):=wT (aAX 40)
def YW (n:Nat):List G.V:=(aBa n).map λ(k:Nat)=>⟨(k:Int).fmod 4,(k:Int).fdiv 4,(k:Int).fmod 4*(k:Int).fmod 4+(k:Int).fdiv 4*(k:Int).fdiv 4⟩
def pA (c:Int):List G.V:=if(c.fdiv 6048).fmod 2=1 then YW (8+4*(c.fdiv 378).fmod 3).toNat else xK (3+(c.fdiv 378).fmod 16).toNat (T6 c).1 (T6 c).2.1 (T6 c).2.2
def cV (c:Int)(t:List Int):List G.V:=
 if c.fmod 7=0 then LD (T6 c).1 (T6 c).2.1 (T6 c).2.2
 else if c.fmod 7=1 then yH (T6 c).1 (T6 c).2.1 (T6 c).2.2
 else if c.fmod 7=2 then yK (T6 c).1 (T6 c).2.1 (T6 c).2.2
 else if c.fmod 7=3 then pA c
 else jO (T6 c).1 (T6 c).2.1 (T6 c).2.2++t.map (AJ c)
def VL {c:Int}(t:List Int):(c.fmod 7=3->cV c t=pA c)/\(c.fmod 7≠3->cV c t=qJ c t):=by
 constructor
 .intro h;unfold cV;rw[h];rfl
 .intro h;unfold cV qJ;rw[h9 h,h9 h]
def TX {c k a b:Int}(e:0<k)(g:0<=a)(d:0<=b):∃n:Nat,a+b*c.fmod k=(n:Int)/\(n:Int)<=a+b*(k-1)/\a<=(n:Int)/\(a+b*c.fmod k).toNat=n:=by have f:=B8 (a:=c) e;have h:=aAS d f.1;have i:=aAA (show c.fmod k<=k-1 by lia) d;exact⟨(a+b*c.fmod k).toNat,by lia,by lia,by lia,rfl⟩
def ZS (c:Int):∃n:Nat,8+4*(c.fdiv 378).fmod 3=(n:Int)/\n<=16/\8<=n/\(8+4*(c.fdiv 378).fmod 3).toNat=n:=by obtain⟨n,a,b,d,e⟩:=TX (c:=c.fdiv 378) (k:=3) (a:=8) (b:=4) (by decide) (by decide) (by decide);exact⟨n,a,by lia,by lia,e⟩
def HE (c:Int):∃n:Nat,3+(c.fdiv 378).fmod 16=(n:Int)/\n<=18/\3<=n/\(3+(c.fdiv 378).fmod 16).toNat=n:=by obtain⟨n,a,b,d,e⟩:=TX (c:=c.fdiv 378) (k:=16) (a:=3) (b:=1) (by decide) (by decide) (by decide);rw[aGh]at a e;exact⟨n,a,by lia,by lia,e⟩
def PZ (c:Int):(∀P∈pA c,Sz 100 P)/\(pA c).length<=19/\G.j8 (pA c):=by
 obtain⟨⟨l,o⟩,⟨p,d⟩,⟨c0,q⟩⟩:=oG c;unfold pA;split
 .obtain⟨n,h,i,r,e⟩:=ZS c;rw[e];refine⟨λP a=>?_,by unfold YW;rw[aAf,aCJ];lia,?_⟩
  .obtain⟨k,b,rfl⟩:=aAk.mp a;have f:=aBd.mp b;have d:bits ((k:Int).fmod 4)<=3:=u5 (by decide) (by decide);have g:bits ((k:Int).fdiv 4)<=10:=bits_fdiv (l7 (by lia) (by lia));exact⟨f6 d,f6 g,f6 (bits_add (n:=20) (f6<|bits_mul d d)<|bits_mul g g)⟩
  .have m:∀k<n,(⟨((k:Nat):Int).fmod 4,(k:Int).fdiv 4,(k:Int).fmod 4*(k:Int).fmod 4+(k:Int).fdiv 4*(k:Int).fdiv 4⟩:G.V)∈YW n:=λk b=>aAk.mpr ⟨k,aBd.mpr b,rfl⟩;exact iX (m 0 (by lia)) (m 1 (by lia)) (m 2 (by lia)) (m 4 (by lia)) (by decide)
 .obtain⟨n,h,i,j,e⟩:=HE c;rw[e];refine⟨λP a=>?_,by unfold xK;rw[aAB,aAf,aCJ];simp;lia,vK j c0⟩;rcases aAP.mp a with a|a
  .obtain⟨k,b,rfl⟩:=aAk.mp a;have f:=aBd.mp b;have bk:bits (k:Int)<=10:=l7 (by lia) (by lia);exact⟨f6 bk,f6 (bits_mul bk bk),show bits 0<=100 by decide⟩
  .rw[aAN.mp a];exact⟨l7 (by lia) (by lia),l7 (by lia) (by lia),l7 (by lia) (by lia)⟩
def SL (c:Int){t:List Int}(d:t.length<=5):(∀P∈cV c t,Sz 100 P)/\(cV c t).length<=19/\G.j8 (cV c t):=by
 obtain⟨e,f⟩:=VL (c:=c) t;by_cases h:c.fmod 7=3
 .rw[e h];exact PZ c
 .rw[f h];obtain⟨a,b⟩:=WY c d;exact⟨a,by lia,FU c t⟩
def wF:List D->R D:=EZ λY=>iQ (OF (fF 1048576 Y)<|.lst ((cV (cI Y 0)<|gJ Y).map vd))
def gz (c:Int):Int:=if c.fmod 3=0 then(c.fdiv 3).fmod 19-9 else if c.fmod 3=1 then(c.fdiv 3).fmod 1000000 else 0-(c.fdiv 3).fmod 7
def ZJ (c:Int):Int:=if gz c=0 then 2 else gz c
def nj (c:Int):ZJ c≠0/\bits (ZJ c)<=30:=by
 have a:bits ((c.fdiv 3).fmod 19-9)<=30:=f6 (bits_sub (n:=10) (u5 (by decide) (by decide)) (by decide));have b:bits ((c.fdiv 3).fmod 1000000)<=30:=u5 (by decide) (by decide);have d:bits (0-(c.fdiv 3).fmod 7)<=30:=f6 (bits_sub (n:=10) (by decide) (u5 (by decide) (by decide)));have e:bits (gz c)<=30:=by unfold gz;split;exact a;split;exact b;exact d
 unfold ZJ;split
 .exact⟨by decide,by decide⟩
 .exact⟨‹_›,e⟩
def qV:List D->R D:=EZ λY=>iQ (OF (fF 1048576 Y)<|.int (ZJ<|cI Y 3))
def fO:List D->R D:=v4 λa b c d=>v1 λx y z=>iQ (OF (Sz 5000 ⟨a,b,c⟩/\Sz 5000 ⟨x,y,z⟩)<|.int (G.dot ⟨a,b,c⟩ ⟨x,y,z⟩-d))
def FJ {f:G.V×Int}{V:G.V}(a:Sz 5000 f.1)(b:Sz 5000 V):fO [rW f.1 f.2,vd V]=.ok (.int (G.dot f.1 V-f.2)):=bX ⟨a,b⟩
def oO:List D->R D:=vM λx=>iQ (.ok (.int (sgn x)))
def xX:List D->R D:=zx λl=>v1 λx y z=>iQ (OF (Bd4 l/\Sz 5000 ⟨x,y,z⟩)<|.lst ((f7 l ⟨x,y,z⟩).map D.int))
def BJ {l:List G.V}{V:G.V}(h:Bd4 l)(a:Sz 5000 V):xX [.lst (l.map vd),vd V]=.ok (.lst ((f7 l V).map D.int)):=(oE _ l _).trans (bX ⟨h,a⟩)
def Y3 (c:Int):G.V:=if(c.fdiv 2197).fmod 5=1 then cT (c.fdiv 10985)else⟨c.fmod 13-6,(c.fdiv 13).fmod 13-6,(c.fdiv 169).fmod 13-6⟩
def TL (c:Int):Sz 50 (Y3 c):=by
 have k:∀z:Int,bits (z.fmod 13-6)<=50:=λz=>f6 (bits_sub (n:=10) (u5 (by decide) (by decide)) (by decide));unfold Y3;split
 .exact BW _
 .exact⟨k _,k _,k _⟩
def SH {Y l:List D}(f:fF 1048576 Y)(sub:∀d∈l,d∈Y):∃ns:List Int,l=ns.map D.int/\∀n∈ns,bits n<=1048576:=by
 induction l with
 |nil=>exact⟨[],rfl,λ_ h=>nomatch h⟩
 |cons d l g=>
  obtain⟨ns,e,b⟩:=g λd j=>sub d (.tail _ j);obtain⟨i,rfl,k⟩:=f d (sub d<|.head _);refine⟨i::ns,by rw[e];rfl,λn a=>?_⟩;rcases aAd.mp a with rfl|a
  .exact k
  .exact b n a
def ZW {L:List G.V}(B:Bd4 L):L≠[]:=λz=>by obtain⟨A,a,_⟩:=B.sol;rw[z]at a;cases a
def fL {L:List G.V}(B:Bd4 L)(V:G.V):(f7 L V).length<=42:=by unfold f7;rw[B.self,aAf];exact B.few
def RF {L:List G.V}(B:Bd4 L)(V:G.V):qA [.lst (L.map vd)]=.ok (.int (f7 L V).sum):=by rw[OD B.lok (ZW B),bI B.lok (L.getD 0 0) V]
def iq {j:List G.V}(k f:Int)(d:∀P∈j,Sz 100 P)(b:j.length<=19)(n:G.j8 j)(V:G.V):∃L F:List G.V,J9 [.lst (j.map vd)]=.ok (.lst (L.map vd))/\J9 [.lst ((j.map (gF k f)).map vd)]=.ok (.lst (F.map vd))/\Bd4 L/\Bd4 F/\(f7 L V).Perm (f7 F (gF k f V))/\(∀X∈L,Sz 100 X)/\L.length<=19:=by
 have o:∀Q∈j,Sz 900 (gF k f Q):=λQ g=>TF k f (d Q g);have p:=KE k f n;obtain⟨r,u,e⟩:=yq k f;rw[e]at o p⊢;have few:∀{l:List G.V},l.length<=19->(d8 l).length<=23:=λh=>aAl (gT _) (aAl h (by decide));have K:yS j:=⟨⟨λP i=>(d P i).mono,aAl b (by decide)⟩,n,few b⟩;have l2:(j.map<|G.z7 r).length<=19:=by rw[aAf];exact b
 have a:yS (j.map<|G.z7 r):=⟨⟨λP i=>by obtain⟨Q,g,rfl⟩:=aAk.mp i;exact o Q g,aAl l2 (by decide)⟩,p,few l2⟩;have B:=BD K.1 K.2.1 K.2.2;have q:=BD a.1 a.2.1 a.2.2;have sub:∀X∈A1 j,X∈j:=λX m=>CJ K.1 K.2.1 K.2.2 m;exact⟨_,_,oM K.1 K.2.1 K.2.2,oM a.1 a.2.1 a.2.2,B,q,(TR u B q (yz u K a) V).symm,λX m=>d X (sub X m),aAl (G.u6 (cM _) sub) b⟩
def yW (t:Int):Int:=(if t<0 then-t else t)*t*t
def XQ {L:List G.V}{t:Int}{V:G.V}(B:Bd4 L)(g:∀X∈L,Sz 100 X)(e:t≠0)(tb:bits t<=30)(f:Sz 50 V):∃(M:List G.V) (r:List Int),J9 [.lst ((L.map (G.bA t)).map vd)]=.ok (.lst (M.map vd))/\bY [.lst (M.map vd),vd (G.bA t V)]=.ok (.lst (r.map D.int))/\r.Perm ((f7 L V).map λx=>x*yW t)/\qA [.lst (M.map vd)]=.ok (.int ((f7 L V).sum*yW t))/\r.length<=42:=by
 have h:(L.map<|G.bA t).length<=23:=by rw[aAf];exact B.len
 have K:yS (L.map<|G.bA t):=⟨⟨λP i=>by obtain⟨Q,j,rfl⟩:=aAk.mp i;have s:=g Q j;exact⟨f6 (bits_mul tb s.1),f6 (bits_mul tb s.2.1),f6 (bits_mul tb s.2.2)⟩,by lia⟩,G.KC e (λX k=>aBL k) B.sol,aAl (gT _) h⟩
 have d:=BD K.1 K.2.1 K.2.2;have P3:=NM e B d (jk e B K) V;have m:yW t=(t.natAbs:Int)*t*t:=by
  unfold yW;split
  .rw[show-t=(t.natAbs:Int)by lia]
  .rw[show(t.natAbs:Int)=t by lia]
 have em:((f7 L V).map λx=>(t.natAbs:Int)*t*t*x)=(f7 L V).map λx=>x*yW t:=aBw λx _=>by rw[m,aEU]
 rw[em]at P3;refine⟨_,_,oM K.1 K.2.1 K.2.2,kG d.lok ⟨f6 (bits_mul tb f.1),f6 (bits_mul tb f.2.1),f6 (bits_mul tb f.2.2)⟩,P3,?_,fL d _⟩;rw[RF d (G.bA t V),qD P3];have:∀(l:List Int) (b:Int),(l.map λx=>x*b).sum=l.sum*b:=λl b=>by
  induction l with
  |nil=>simp
  |cons a l n=>rw[aAi,aAJ,aAJ,n];grind
 rw[this]
def zj {L:List G.V}{V P:G.V}(B:Bd4 L)(len:L.length<=19)(b:Sz 50 V)(d:P∈L):∃(M:List G.V) (r:List Int),J9 [.lst ((L++[V]).map vd)]=.ok (.lst (M.map vd))/\bY [.lst (M.map vd),vd P]=.ok (.lst (r.map D.int))/\qA [.lst (M.map vd)]=.ok (.int ((f7 L V).sum-((f7 L V).filter λx=>decide (x<0)).sum))/\r.sum=(f7 L V).sum-((f7 L V).filter λx=>decide (x<0)).sum:=by
 have g:(L++[V]).length<=20:=by rw[aAB];exact aEu len 1
 have K:yS (L++[V]):=⟨⟨λX e=>by
  rcases aAP.mp e with h|h
  .exact B.sz.1 X h
  .rw[aAN.mp h];exact b.mono,by lia⟩,aP B.sol λv f=>aBr _ f,aAl (gT _) (by lia)⟩
 have a:=BD K.1 K.2.1 K.2.2;exact⟨_,_,oM K.1 K.2.1 K.2.2,kG a.lok (B.sz.1 P d).mono,by rw[RF a P,uT B K],uT B K P⟩
def oF:List D->R D:=EZ λY=>iQ (OF (Y.length<=63/\fF 1048576 Y)<|.bl true)
end M
namespace K42
open PySem L2 DL M
def top (i:Nat):cv:=PySem.Challenge.pw_stakebodies_k42_whole_any_viewpoint.main.body.getD i (.Pass ⟨0,0,0,0⟩)
abbrev aF:cv:=top 5
abbrev sW:List Str:=["P", "Q"]
def rA:FnScope sW ["P", "Q"] (c8 aF):=K9
abbrev gZ:cv:=top 6
abbrev ED:List Str:=["u", "v"]
def AT:FnScope ED ["u", "v"] (c8 gZ):=K9
abbrev bJ:cv:=top 7
abbrev vS:List Str:=["u", "v"]
def rZ:FnScope vS ["u", "v"] (c8 bJ):=K9
abbrev lW:cv:=top 8
abbrev KD:List Str:=["P", "Q", "R", "S"]
def ET:FnScope KD ["P", "Q", "R", "S"] (c8 lW):=K9
abbrev Q4:cv:=top 9
abbrev mE:List Str:=["numbers", "divisor", "number", "rest", "further"]
def jD:FnScope mE ["numbers"] (c8 Q4):=K9
abbrev S8:cv:=top 10
abbrev nV:List Str:=["P", "Q", "R", "cross", "divisor", "upright"]
def lA:FnScope nV ["P", "Q", "R"] (c8 S8):=K9
abbrev mH:cv:=top 11
abbrev LC:List Str:=["plane", "P", "height"]
def FG:FnScope LC ["plane", "P"] (c8 mH):=K9
abbrev Q7:cv:=top 14
abbrev lF:List Str:=["ways", "way"]
def kC:FnScope lF ["ways"] (c8 Q7):=K9
abbrev D6:cv:=top 15
abbrev N2:List Str:=["points", "ways", "along", "upright"]
def nU:FnScope N2 ["points"] (c8 D6):=K9
abbrev Z7:cv:=top 16
abbrev sS:List Str:=["points"]
def pU:FnScope sS ["points"] (c8 Z7):=K9
abbrev Y7:cv:=top 17
abbrev mV:List Str:=["plane", "points"]
def xU:FnScope mV ["plane", "points"] (c8 Y7):=K9
abbrev aI:cv:=top 18
abbrev sH:List Str:=["pair", "points", "along", "upright", "outermost", "P", "way"]
def rE:FnScope sH ["pair", "points"] (c8 aI):=K9
abbrev bR:cv:=top 19
abbrev yA:List Str:=["points", "least", "upward", "touched"]
def rS:FnScope yA ["points"] (c8 bR):=K9
abbrev lD:cv:=top 20
abbrev KG:List Str:=["upright", "P", "Q", "R"]
def DQ:FnScope KG ["upright", "P", "Q", "R"] (c8 lD):=K9
abbrev bQ:cv:=top 21
abbrev vT:List Str:=["upright", "points", "chain", "P"]
def rV:FnScope vT ["upright", "points"] (c8 bQ):=K9
abbrev lE:cv:=top 22
abbrev LZ:List Str:=["upright", "points", "there", "back"]
def EN:FnScope LZ ["upright", "points"] (c8 lE):=K9
abbrev Z8:cv:=top 23
abbrev sD:List Str:=["ring"]
def qS:FnScope sD ["ring"] (c8 Z8):=K9
abbrev cE:cv:=top 24
abbrev xP:List Str:=["first", "about", "touched_by", "faces", "walked", "waiting", "pair", "plane", "ring", "step"]
def gH:FnScope xP ["first", "about", "touched_by"] (c8 cE):=K9
abbrev L9:cv:=top 25
abbrev gP:List Str:=["points", "spread", "about", "touched_by"]
def nK:FnScope gP ["points"] (c8 L9):=K9
abbrev bK:cv:=top 26
abbrev xZ:List Str:=["faces", "corners", "plane", "ring"]
def sE:FnScope xZ ["faces"] (c8 bK):=K9
abbrev lH:cv:=top 27
abbrev MH:List Str:=["points"]
def FB:FnScope MH ["points"] (c8 lH):=K9
abbrev Y9:cv:=top 29
abbrev nC:List Str:=["ring", "V"]
def yJ:FnScope nC ["ring", "V"] (c8 Y9):=K9
abbrev T9:cv:=top 30
abbrev kD:List Str:=["land", "V"]
def sN:FnScope kD ["land", "V"] (c8 T9):=K9
abbrev X3:cv:=top 31
abbrev oT:List Str:=["land"]
def nW:FnScope oT ["land"] (c8 X3):=K9
abbrev X7:cv:=top 33
abbrev qH:List Str:=["script", "k"]
def nS:FnScope qH ["script", "k"] (c8 X7):=K9
abbrev cA:cv:=top 34
abbrev xV:List Str:=["cell", "most", "x", "y"]
def rY:FnScope xV ["cell"] (c8 cA):=K9
abbrev F4:cv:=top 35
abbrev N0:List Str:=["script", "cell", "a", "b", "c", "kind", "some"]
def wU:FnScope N0 ["script"] (c8 F4):=K9
abbrev bN:cv:=top 36
abbrev wX:List Str:=["spot", "script", "x", "y", "z", "cell", "most", "far"]
def sK:FnScope wX ["spot", "script"] (c8 bN):=K9
abbrev aE:cv:=top 37
abbrev rT:List Str:=["plane", "P"]
def qR:FnScope rT ["plane", "P"] (c8 aE):=K9
abbrev cQ:cv:=top 38
abbrev BX:List Str:=["x"]
def wP:FnScope BX ["x"] (c8 cQ):=K9
abbrev cK:cv:=top 39
abbrev yC:List Str:=["script", "cell", "times"]
def sT:FnScope yC ["script"] (c8 cK):=K9
abbrev Y6:cv:=top 40
abbrev nH:List Str:=["land", "V", "parts", "planes", "k"]
def wN:FnScope nH ["land", "V"] (c8 Y6):=K9
abbrev aN:cv:=top 41
abbrev CO:List Str:=["script", "near", "land", "far", "cell", "V", "parts", "others", "room", "times", "great", "by", "seen", "more", "due"]
def OO:FnScope CO ["script"] (c8 aN):=K9
def cZ:cv:=(u7 L9).getD 2 (.Pass ⟨0,0,0,0⟩)
abbrev GT:Str:= "faces_of.<locals>.about"
def L4:cv:=(u7 L9).getD 3 (.Pass ⟨0,0,0,0⟩)
abbrev kB:Str:= "faces_of.<locals>.touched_by"
def tbK:List (Pos×Str):=[(GS cZ,GT),(GS L4,kB)]
section
variable [Tabs]
variable{P:bt} {w:cp} {K:iu} {mg:dS} {base:cq}
def l8 (g:gC K mg "way_between" aF):y9 P w K mg base 1 "way_between" 2 t8:=by
 refine' o8 (k:=0) (F:=_) g rA (λf i j l=>?b) λe d m h=>?_
 case b=>refine' (e9<|j3<|nE (b9 u9 (PD.pb<|j5 (b8 1) d5)<|PD.pb<|j5 (b8 0) d5) (b9 u9 (PD.pb<|j5 (b8 1) d5)<|PD.pb<|j5 (b8 0) d5)<|b9 u9 (PD.pb<|j5 (b8 1) d5)<|PD.pb<|j5 (b8 0) d5)
 replace h:=F3 h;obtain⟨a,b,c,e,rfl,h⟩:=h;replace h:=F3 h;obtain⟨n,o,p,e,rfl,h⟩:=h;replace h:=A6 h;obtain⟨rfl,h⟩:=h;exact h
def B9 (g:gC K mg "cross_of" gZ):y9 P w K mg base 1 "cross_of" 2 C9:=by
 refine' o8 (k:=0) (F:=_) g AT (λp q r s=>?b) λe d t h=>?_
 case b=>refine' (e9<|j3<|nE (b9 u9 (PD.pb<|b9 j9 (PD.pb<|j5 (b8 0) d5)<|PD.pb<|j5 (b8 1) d5)<|PD.pb<|b9 j9 (PD.pb<|j5 (b8 0) d5)<|PD.pb<|j5 (b8 1) d5) (b9 u9 (PD.pb<|b9 j9 (PD.pb<|j5 (b8 0) d5)<|PD.pb<|j5 (b8 1) d5)<|PD.pb<|b9 j9 (PD.pb<|j5 (b8 0) d5)<|PD.pb<|j5 (b8 1) d5)<|b9 u9 (PD.pb<|b9 j9 (PD.pb<|j5 (b8 0) d5)<|PD.pb<|j5 (b8 1) d5)<|PD.pb<|b9 j9 (PD.pb<|j5 (b8 0) d5)<|PD.pb<|j5 (b8 1) d5)
 replace h:=F3 h;obtain⟨a,b,c,e,rfl,h⟩:=h;replace h:=F3 h;obtain⟨u,v,x,e,rfl,h⟩:=h;replace h:=A6 h;obtain⟨rfl,h⟩:=h;split at h
 .rename_i o;obtain⟨⟨f,i,j⟩,l,m,n⟩:=o;rw[<-h];simp[l6,l9 (x8.of i n),l9 (x8.of j m),l9 (x8.of j l),l9 (x8.of f n),l9 (x8.of f m),l9 (x8.of i l)]
 .cases h
def v8 (g:gC K mg "product_of" bJ):y9 P w K mg base 1 "product_of" 2 w4:=by
 refine' o8 (k:=0) (F:=_) g rZ (λp q r s=>?b) λe d u h=>?_
 case b=>refine' (e9<|j3<|b9 o6 (PD.pb<|b9 o6 (PD.pb<|b9 j9 (PD.pb<|j5 (b8 0) d5)<|PD.pb<|j5 (b8 1) d5)<|PD.pb<|b9 j9 (PD.pb<|j5 (b8 0) d5)<|PD.pb<|j5 (b8 1) d5)<|PD.pb<|b9 j9 (PD.pb<|j5 (b8 0) d5)<|PD.pb<|j5 (b8 1) d5)
 replace h:=a2x h;obtain⟨a,b,c,t,e,rfl,h⟩:=h;replace h:=F3 h;obtain⟨v,x,y,e,rfl,h⟩:=h;replace h:=A6 h;obtain⟨rfl,h⟩:=h;split at h
 .rename_i f;obtain⟨⟨i,j,l⟩,m,n,o⟩:=f;rw[<-h];simp[l6,a0k,a1i,a1s,l9 (x8.of i m),l9 (x8.of j n),l9 (x8.of l o)]
 .cases h
def mC (v8:y9 P w K mg base 1 "product_of" 2 w4)(B9:y9 P w K mg base 1 "cross_of" 2 C9)(l8:y9 P w K mg base 1 "way_between" 2 t8)(g:gC K mg "lift_of" lW):y9 P w K mg base 2 "lift_of" 4 fH:=by
 refine' o8 (k:=1) (F:=_) g ET (λm A B C=>?b) λn d E h=>?_
 case b=>refine' (e9<|j3<|aJ v8 m (aJ B9 m (aJ l8 m (c9 0)<|c9 1)<|aJ l8 m (c9 0)<|c9 2)<|aJ l8 m (c9 0)<|c9 3)
 replace h:=F3 h;obtain⟨a,b,c,n,rfl,h⟩:=h;replace h:=F3 h;obtain⟨d,e,f,n,rfl,h⟩:=h;replace h:=F3 h;obtain⟨g,o,i,n,rfl,h⟩:=h;replace h:=F3 h;obtain⟨j,k,l,n,rfl,h⟩:=h;replace h:=A6 h;obtain⟨rfl,h⟩:=h;split at h
 .rename_i y;obtain⟨p,q,r,s⟩:=y;rw[<-h];have t:=eI (u:=⟨d,e,f⟩-⟨a,b,c⟩) (v:=⟨g,o,i⟩-⟨a,b,c⟩) (q.sub p).mono (r.sub p).mono;have x:=jG (u:=G.cr (⟨d,e,f⟩-⟨a,b,c⟩) (⟨g,o,i⟩-⟨a,b,c⟩)) (v:=⟨j,k,l⟩-⟨a,b,c⟩) ((q.sub p).cr (r.sub p)).mono (s.sub p).mono;simp only[vd,G.ID,G.IW,G.HN,G.SW,G.QY,G.PR]at t x;have z:∀a b c d e f:Int,t8 [.tup [.int a,.int b,.int c],.tup [.int d,.int e,.int f]]=.ok (.tup [.int (d-a),.int (e-b),.int (f-c)]):=λ_ _ _ _ _ _=>rfl;simp[l6,z,t,x,mZ]
 .cases h
def P8 (I:mg "abs"=none)(g:gC K mg "common_divisor" Q4):y9 P w K mg base 1 "common_divisor" 1 K4:=by
 refine' o8 (k:=0) (F:=_) g jD (λJ u L i=>?b) λt d N h=>?_
 case b=>
  refine' (c5 (i8 1 d5 i)
   (c5 (Y4 aBX rfl (YQ<|c9 0) (t6 2 i) (c5 (i8 3 (yV NY<|b8 2) i)
   (e9 (lS (a0h 3) aBX (k9 (jQ u) (b8 3) o7) (c5 (i8 4 (b9 o9 (b8 1)<|b8 3) i)
   (c5 (i8 1 (c9 3) i)
   (e9<|i8 3 (c9 4) i)))))))
   (e9<|j3<|c9 1)))
 replace h:=F3 h;obtain⟨a,b,c,t,rfl,h⟩:=h;replace h:=A6 h;obtain⟨rfl,h⟩:=h;rw[<-h];simp only[l6,aAi,aCh,aAG,aBD];simp only[P4,E6,R.aa0,JT,E9,aAp,aBg,aCE,aCF,aCN,aBz,aBR,aBS];refine jT (λrest ρ=>∃(g:Nat) (n r f:Sl),ρ=[.v (.tup [.int a,.int b,.int c]),.v (.int g),n,r,f]/\∃e:List Int,rest=e.map D.int/\e.foldl (λg n=>Nat.gcd g n.natAbs) g=G.x4 ⟨a,b,c⟩) ?_ ⟨0,_,_,_,rfl,[a,b,c],rfl,by simp[G.x4]⟩ ?_
 .rintro d t ρ ⟨g,n,r,f,rfl,e,l,j⟩;match e,l,j with
  |x::e,l,j=>
   injection l with y A;subst y A;simp only[gR,aBR,aBS,u0,x9,M2,K8,R.aa0,SC,E9];have B:(if x<0 then-x else x)=(x.natAbs:Int):=by split<;>lia
   rw[B];refine CI (λm ρ=>∃(p q:Nat) (f:Sl),ρ=[.v (.tup [.int a,.int b,.int c]),.v (.int p),.v (.int x),.v (.int q),f]/\q<m/\Nat.gcd p q=Nat.gcd g x.natAbs) ?_ (by rintro ρ ⟨p,q,f,_,h,_⟩;lia) ⟨g,x.natAbs,f,rfl,by show x.natAbs<((x.natAbs:Int).natAbs)+2;lia,rfl⟩ ?_
   .rintro m ρ ⟨p,q,f,rfl,C,s⟩;by_cases o:(q:Int)=0
    .exact .inl (by simp[o])
    .have E:q≠0:=by lia
     refine .inr ⟨by simp[E],_,?_,q,p%q,Sl.v (.int ((p%q:Nat):Int)),rfl,?_,?_⟩
     .have em:lI (.int (p:Int)) (.int (q:Int))=.ok (.int ((p%q:Nat):Int)):=by rw[CC o,Int.fmod_eq_emod_of_nonneg _ (by lia)];rfl
      simp[em]
     .have:=aFj p (show 0<q by lia)
      lia
     .rw[Nat.gcd_comm,<-Nat.gcd_rec,Nat.gcd_comm];exact s
   .rintro m ρ ⟨p,q,f,rfl,C,s⟩ H;have o:q=0:=by
     by_cases z:q=0
     .exact z
     .simp[z]at H
    subst o;refine⟨p,_,_,_,rfl,e,rfl,?_⟩;rw[<-j,aEz,<-s,Nat.gcd_zero_right]
 .rintro ρ ⟨g,n,r,f,rfl,e,l,j⟩;have:e=[]:=by simpa using l.symm
  subst this;simp at j;simp[j]
def T1 (B9:y9 P w K mg base 1 "cross_of" 2 C9)(l8:y9 P w K mg base 1 "way_between" 2 t8)(P8:y9 P w K mg base 1 "common_divisor" 1 K4)(v8:y9 P w K mg base 1 "product_of" 2 w4)(g:gC K mg "plane_through" S8):y9 P w K mg base 2 "plane_through" 3 T4:=by
 refine' o8 (k:=1) (F:=_) g lA (λl Y eh s=>?b) λA d hl h=>?_
 case b=>
  refine' (c5 (i8 3 (aJ B9 l (aJ l8 l (c9 0)<|c9 1)<|aJ l8 l (c9 0)<|c9 2) s)
   (c5 (i8 4 (nZ P8 l<|c9 3) s)
   (c5 (w5 (k9 (M4 Y) (b8 4) o7) (e9 lT) n6)
   (c5 (i8 5 (nE (b9 p9 (PD.pb<|j5 (b8 3) d5)<|b8 4) (b9 p9 (PD.pb<|j5 (b8 3) d5)<|b8 4)<|b9 p9 (PD.pb<|j5 (b8 3) d5)<|b8 4) s)
   (e9<|j3<|yL<|j0 (j5 (b8 5) d5)<|j0 (j5 (b8 5) d5)<|j0 (j5 (b8 5) d5)<|j0 (aJ v8 l (c9 5)<|c9 0) u8)))))
 replace h:=F3 h;obtain⟨a,b,c,A,rfl,h⟩:=h;replace h:=F3 h;obtain⟨d,e,f,A,rfl,h⟩:=h;replace h:=F3 h;obtain⟨g,J,i,A,rfl,h⟩:=h;replace h:=A6 h;obtain⟨rfl,h⟩:=h
 .skip
  split at h
  .rename_i hz;obtain⟨⟨p,q,r⟩,n⟩:=hz;rw[<-h];obtain⟨P,B⟩:∃P:G.V,P=⟨a,b,c⟩:=⟨_,rfl⟩;obtain⟨Q,E⟩:∃P:G.V,P=⟨d,e,f⟩:=⟨_,rfl⟩;obtain⟨j,H⟩:∃P:G.V,P=⟨g,J,i⟩:=⟨_,rfl⟩;rw[<-B]at p n;rw[<-E]at q n;rw[<-H]at r n;have vP:(.tup [.int a,.int b,.int c]:D)=vd P:=by rw[B]
   have vQ:(.tup [.int d,.int e,.int f]:D)=vd Q:=by rw[E]
   have vR:(.tup [.int g,.int J,.int i]:D)=vd j:=by rw[H]
   rw[vP,vQ,vR,<-B,<-E,<-H];have o:=(q.sub p).cr (r.sub p);have c1:=eI (u:=Q-P) (v:=j-P) (q.sub p).mono (r.sub p).mono;obtain⟨L,g1,g2⟩:=G.fS n;have m:((G.x4 (G.cr (Q-P)<|j-P):Nat):Int)≠0:=by lia
   have gb:AW ((G.x4 (G.cr (Q-P)<|j-P):Nat):Int):=⟨m,f6 (JU o)⟩;have dv:=EW (G.cr (Q-P)<|j-P);have pl:G.j7 P Q j=(G.iK (G.cr (Q-P)<|j-P) (G.x4<|G.cr (Q-P)<|j-P),G.dot (G.iK (G.cr (Q-P)<|j-P)<|G.x4<|G.cr (Q-P)<|j-P) P):=rfl;rw[pl];generalize hC:G.cr (Q-P) (j-P)=C at*
   have sn:Sz 2003 (G.iK C<|G.x4 C):=by have N:=bits_fdiv (b:=(G.x4 C:Int)) o.1;have O:=bits_fdiv (b:=(G.x4 C:Int)) o.2.1;have T:=bits_fdiv (b:=(G.x4 C:Int)) o.2.2;rw[pN L]at N O T;exact⟨N,O,T⟩
   have d1:∀t:Int,N5 (.int t) (.int (G.x4 C:Nat))=.ok (.int (t/(G.x4 C:Nat))):=λt=>by rw[uF gb,pN L]
   have U:=jG (u:=G.iK C (G.x4 C)) (v:=P) sn.mono p.mono;have e0:(((G.x4 C:Nat):Int)==0)=false:=by simpa using m
   simp only[G.iK]at U;have I:w4 [.tup [.int (C.x/(G.x4 C:Nat)),.int (C.y/(G.x4 C:Nat)),.int (C.z/(G.x4 C:Nat))],vd P]=_:=U;simp[l6,c1,dv,e0,d1,I,G.iK]
  .cases h
def lO (g:gC K mg "side_of" mH):y9 P w K mg base 1 "side_of" 2 aO:=by
 refine' o8 (k:=0) (F:=_) g FG (λv A B s=>?b) λq d C h=>?_
 case b=>
  refine' (c5 (i8 2 (b9 u9 (PD.pb<|b9 o6 (PD.pb<|b9 o6 (PD.pb<|b9 j9 (PD.pb<|j5 (b8 0) d5)<|PD.pb<|j5 (b8 1) d5)<|PD.pb<|b9 j9 (PD.pb<|j5 (b8 0) d5)<|PD.pb<|j5 (b8 1) d5)<|PD.pb<|b9 j9 (PD.pb<|j5 (b8 0) d5)<|PD.pb<|j5 (b8 1) d5)<|PD.pb<|j5 (b8 0) d5) s)
   (c5 (w5 (k9 yZ (b8 2) o7) (e9<|j3 d5) n6)
   (c5 (w5 (k9 AI (b8 2) o7) (e9<|j3<|kX d5) n6)
   (e9<|j3 d5))))
 replace h:=QV h;obtain⟨a,b,c,d,q,rfl,h⟩:=h;replace h:=F3 h;obtain⟨x,y,z,q,rfl,h⟩:=h;replace h:=A6 h;obtain⟨rfl,h⟩:=h
 .skip
  split at h
  .rename_i u;obtain⟨⟨e,f,i⟩,j,l,m⟩:=u;rw[<-h];obtain⟨t,r⟩:∃t,a*x+b*y+c*z-d=t:=⟨_,rfl⟩;have o:QP (.int (a*x+b*y+c*z)) (.int d)=.ok (.int t):=by rw[<-r];rfl
   rw[r];unfold sgn;by_cases p:0<t
   .simp[-Z1,l6,l9 (x8.of e j),l9 (x8.of f l),l9 (x8.of i m),p,o]
   .by_cases n:t<0
    .simp[-Z1,l6,l9 (x8.of e j),l9 (x8.of f l),l9 (x8.of i m),p,n,o]
    .simp[-Z1,l6,l9 (x8.of e j),l9 (x8.of f l),l9 (x8.of i m),p,n,o]
  .cases h
def K7 (j:QT K mg "NO_WAY" [0,0,0])(g:gC K mg "first_real_way" Q7):y9 P w K mg base 1 "first_real_way" 1 B7:=by
 refine' o8 (k:=0) (F:=_) g kC (λp l q m=>?b) λn d r h=>?_
 case b=>
  refine' (c5 (Y4 aBX rfl (w6<|c9 0) (t6 1 m)<|e9<|w5 (k9 (jQ l) (b8 1)<|PD.pb<|wE j) (e9<|j3<|c9 1) n6)
   (e9<|j3 iN))
 match n,h with
 |[.lst Y],h=>
  simp only[B7]at h;split at h
  .rename_i f i;rw[u3 i];rw[<-h];simp[l6];generalize Sl.v (D.lst<|aDr vd f)=a;generalize Sl.no=b;clear h i;induction f generalizing b with
   |nil=>rfl
   |cons v f o=>
    rw[aAi,G.C0];by_cases e:v=0
    .rw[U7 (ρ2:=[a,.v (vd v)]) rfl (by simp[-FN,ne0,e]),o];simp[e]
    .rw[xD (x:=vd v) rfl (by simp[-FN,ne0,e])];simp[e,CV]
  .cases h
def J5 (l8:y9 P w K mg base 1 "way_between" 2 t8)(K7:y9 P w K mg base 1 "first_real_way" 1 B7)(B9:y9 P w K mg base 1 "cross_of" 2 C9)(v8:y9 P w K mg base 1 "product_of" 2 w4)(eu:mg "len"=none)(L:mg "any"=none)(g:gC K mg "dimension_of" D6):y9 P w K mg base 2 "dimension_of" 1 E8:=by
 refine' o8 (k:=1) (F:=_) g nU (λz hu eh O=>?b) λo d hl h=>?_
 case b=>
  refine' (c5 (w5 (k9 (M4 hu) (PD.pb<|yV eJ<|b8 0) o7) (e9 lT) n6)
   (c5 (AA 1 ["P"] ["points"] [0] O rfl (L0 (sc:=c8 D6) (N:=N2)) (w6<|c9 0) (MI λ_ _ _ _ _=>(aJ l8 z (j5 (b8 1) d5)<|c9 0))<|λ_=>v7)
   (c5 (i8 2 (nZ K7 z<|c9 1) O)
   (c5 (w5 (k9 vY (b8 2)<|PD.pb iN) (e9<|j3 d5) n6)
   (c5 (i8 3 (nZ K7 z<|G6 ["way"] ["along"] [2] rfl (L0 (sc:=c8 D6) (N:=N2)) (w6<|c9 1) (MI λ_ _ _ _ _=>(aJ B9 z (c9 1)<|c9 0))<|λ_=>v7) O)
   (c5 (w5 (k9 vY (b8 3)<|PD.pb iN) (e9<|j3 d5) n6)
   (c5 (w5 (YE<|yV (qz rfl)<|PD.pb<|G6 ["way"] ["upright"] [3] rfl (L0 (sc:=c8 D6) (N:=N2)) (w6<|c9 1) (MI λ_ _ _ _ _=>(rJ (jQ hu) (PD.pb<|aJ v8 z (c9 1)<|c9 0) o7))<|λ_=>v7) (e9<|j3 d5) n6)
   (e9<|j3 d5))))))))
 match o,h with
 |[.lst Y],h=>
  simp only[E8]at h;split at h
  .rename_i j l;rw[u3 l];split at h
   .rename_i hz;rw[<-h];obtain⟨ag,E⟩:=hz;match j,ag with
    |p::r,_=>
    obtain⟨e,a⟩:∃e,(p::r).map vd=e:=⟨_,rfl⟩;have i0:P6 (.lst e) (.int 0)=.ok (vd p):=gM (by rw[bP (by decide),<-a];rfl);have H:z8 (λd ρ=>R.ok (aEc ρ 0<|Sl.v d)) (λx=>R.ok true) (λρ=>(((zN 1 ρ).bind λx=>P6 x (D.int 0)).bind λd=>((dZ 0 ρ).bind λd=>R.ok [d]).bind λo=>R.ok (d::o)).bind t8) [.no,.v (.lst e)] e=.ok (((p::r).map (· -p)).map vd):=by rw[aAV];rw[show z8 _ _ _ _ e=z8 _ _ _ _ ((p::r).map vd)by rw[a]];refine Q1 vd _ _ λq m=>⟨[.v (vd q),Sl.v (.lst e)],rfl,?_⟩;show((P6 (.lst e)<|.int 0).bind _).bind _=_;rw[i0];rfl
    have l:∀w∈(p::r).map (· -p),Sz 1001 w:=λw l=>by obtain⟨q,m,rfl⟩:=aAk.mp l;exact(E.1 q m).sub (E.1 p (.head _))
    have I:(((p::r).map (· -p)).map vd).length<=sizeLine:=by rw[aAf,aAf];exact small E.2
    have J:e.length<=sizeLine:=by rw[<-a,aAf];exact small E.2
    have f:((e.length:Int)==0)=false:=by rw[<-a];simp;lia
    have t:=DE ((p::r).map (· -p));unfold G.V3;dsimp only;rw[a];generalize(p::r).map (· -p)=W at*
    have n:=λu=>DE (W.map<|G.cr u);cases Q:G.C0 W with
    |none=>rw[Q]at t;simp[l6,j2,J,f,H,t,CV,SA]
    |some s=>
     rw[Q]at t;obtain⟨hm,_⟩:=G.v6 Q;have A:=l s hm;have B:z8 (λd ρ=>R.ok (aEc ρ 0<|Sl.v d)) (λx=>R.ok true) (λρ=>((dZ 1 ρ).bind λd=>((dZ 0 ρ).bind λd=>R.ok [d]).bind λo=>R.ok (d::o)).bind C9) [.no,.v (vd s)] (W.map vd)=.ok ((W.map<|G.cr s).map vd):=by rw[aAV];refine Q1 vd _ _ λq m=>⟨[.v (vd q),Sl.v (vd s)],rfl,?_⟩;show C9 [vd s,vd q]=_;exact eI A.mono (l q m).mono
     have n:=DE (W.map<|G.cr s);have eW:(W.map vd).length=W.length:=aAf ..;rw[eW]at I;cases C:G.C0 (W.map<|G.cr s)with
     |none=>rw[C]at n;simp only[aAV]at B n;simp only[C];simp[l6,j2,J,f,H,t,CV,SA,I,B,n]
     |some i=>
      rw[C]at n;obtain⟨ji,_⟩:=G.v6 C;have T:Sz 2003 i:=by obtain⟨q,m,rfl⟩:=aAk.mp ji;exact(A.cr<|l q m).mono
      have U:z8 (λd ρ=>R.ok (aEc ρ 0<|Sl.v d)) (λx=>R.ok true) (λρ=>(((dZ 1 ρ).bind λd=>((dZ 0 ρ).bind λd=>R.ok [d]).bind λo=>R.ok (d::o)).bind w4).bind λx=>NA x (D.int 0)) [.no,.v (vd i)] (W.map vd)=.ok ((W.map λw=>decide (G.dot i w≠0)).map D.bl):=by rw[aAV];refine Q1 vd _ _ λq m=>⟨[.v (vd q),Sl.v (vd i)],rfl,?_⟩;show(w4 [vd i,vd q]).bind _=_;rw[jG T.mono (l q m).mono,R.aa0,oq];congr 2;rw[aDY];simp
      have y:=uw (W.map λw=>decide (G.dot i w≠0));have ean:(W.map λw=>decide (G.dot i w≠0)).any id=W.any λw=>decide (G.dot i w≠0):=by rw[List.any_map];rfl
      rw[ean]at y;simp only[aAV]at B n U y;simp only[C];generalize(λw=>decide (G.dot i w≠0))=Bf at*
      cases hc:W.any Bf with
      |false=>rw[hc]at y;simp[l6,j2,J,f,H,t,CV,SA,I,B,n,U,y]
      |true=>rw[hc]at y;simp[l6,j2,J,f,H,t,CV,SA,I,B,n,U,y]
   .cases h
  .cases h
def Z6 (J5:y9 P w K mg base 2 "dimension_of" 1 E8)(g:gC K mg "refuse_flat" Z7):y9 P w K mg base 3 "refuse_flat" 1 G1:=by
 refine' o8 (k:=2) (F:=_) g pU (λf p q r=>?b) λi d s h=>?_
 case b=>refine' (e9<|w5 (k9 AI (PD.pb<|nZ J5 f<|c9 0) o7) (e9 lT) n6)
 match i,h with
 |[.lst Y],h=>
  simp only[G1]at h;split at h
  .rename_i j l;rw[u3 l];split at h
   .rename_i m;rw[<-h];obtain⟨n,a⟩:=m;have o:j≠[]:=λe=>by subst e;cases a
    have e:=TM o n;rw[a]at e;simp[l6,e]
   .cases h
  .cases h
def J6 (lO:y9 P w K mg base 1 "side_of" 2 aO)(g:gC K mg "points_on" Y7):y9 P w K mg base 2 "points_on" 2 A8:=by
 refine' o8 (k:=1) (F:=_) g xU (λl m p q=>?b) λf d r h=>?_
 case b=>refine' (e9<|j3<|G6 ["P"] ["plane"] [0] rfl (L0 (sc:=c8 Y7) (N:=mV)) (w6<|c9 1) (hxt λ_ _ _ _ _=>⟨(k9 (M4 m) (PD.pb<|aJ lO l (c9 1)<|c9 0) o7),(c9 0)⟩)<|λ_=>v7)
 replace h:=QV h;obtain⟨a,b,c,d,f,rfl,h⟩:=h;replace h:=eG h;obtain⟨Y,f,rfl,h⟩:=h;replace h:=A6 h;obtain⟨rfl,h⟩:=h
 .skip
  split at h
  .rename_i j n;rw[u3 n];split at h
   .rename_i i;rw[<-h];have e:=fU vd (G:=λd ρ=>R.ok (aEc ρ 0<|Sl.v d)) (ft:=λρ=>((((dZ 1 ρ).bind λd=>((dZ 0 ρ).bind λd=>R.ok [d]).bind λf=>R.ok (d::f)).bind aO).bind λx=>UR x (D.int 0)).bind CT) (fe:=dZ 0) (ρ:=[.no,.v (.tup [D.int a,D.int b,D.int c,D.int d])])
     (λX=>decide (G.dot ⟨a,b,c⟩ X=d)) vd j λP o=>⟨[.v (vd P),Sl.v (D.tup [D.int a,D.int b,D.int c,D.int d])],rfl,by simp[WV i.1.mono (i.2.1 P o).mono,a4j,G.dot];exact decide_eq_decide.mpr (by lia),λ_=>rfl⟩
    simp[l6,j2,small i.2.2,e];rfl
   .cases h
  .cases h
def L3 (l8:y9 P w K mg base 1 "way_between" 2 t8)(v8:y9 P w K mg base 1 "product_of" 2 w4)(B9:y9 P w K mg base 1 "cross_of" 2 C9)(T1:y9 P w K mg base 2 "plane_through" 3 T4)(U:QT K mg "NO_WAY" [0,0,0])(g:gC K mg "plane_about" aI):y9 P w K mg base 3 "plane_about" 2 G3:=by
 refine' o8 (k:=2) (F:=_) g rE (λs hu eh q=>?b) λJ d hl h=>?_
 case b=>
  refine' (c5 (i8 2 (aJ l8 s (j5 (b8 0) d5)<|j5 (b8 0) d5) q)
   (c5 (i8 3 (wE U) q)
   (c5 (i8 4 (j5 (b8 0) d5) q)
   (c5 (Y4 aBX rfl (w6<|c9 1) (t6 5 q) (c5 (i8 6 (aJ l8 s (j5 (b8 0) d5)<|c9 5) q)
   (e9 (w5 (CU.pt<|kS (k9 (M4 hu) (b8 3)<|PD.pb<|wE U)<|kI<|k9 yZ (PD.pb<|aJ v8 s (c9 3)<|c9 6) o7) (c5 (i8 3 (aJ B9 s (c9 2)<|c9 6) q)
   (e9<|i8 4 (c9 5) q)) n6))))
   (e9<|j3<|pc3 T1 s (j5 (b8 0) d5) (j5 (b8 0) d5)<|c9 4)))))
 replace h:=xQ h;obtain⟨N,J,rfl,h⟩:=h;replace h:=eG h;obtain⟨Y,J,rfl,h⟩:=h;replace h:=A6 h;obtain⟨rfl,h⟩:=h;replace h:=F3 h;obtain⟨a,b,c,N,rfl,h⟩:=h;replace h:=F3 h;obtain⟨d,e,f,N,rfl,h⟩:=h;replace h:=A6 h;obtain⟨rfl,h⟩:=h
 .skip
  split at h
  .rename_i j hw;rw[u3 hw];split at h
   .rename_i hz;rw[<-h];obtain⟨r,H,hs,L⟩:=hz;have vA:(.tup [.int a,.int b,.int c]:D)=vd ⟨a,b,c⟩:=rfl;have vB:(.tup [.int d,.int e,.int f]:D)=vd ⟨d,e,f⟩:=rfl;rw[vA,vB];generalize(⟨a,b,c⟩:G.V)=A at*
    generalize(⟨d,e,f⟩:G.V)=B at*
    simp[l6];have z0:(.tup [.int 0,.int 0,.int 0]:D)=vd 0:=rfl;rw[z0];refine jT (λrest ρ=>∃(l i:G.V) (m:List G.V) (x y:Sl),ρ=[.v (.tup [vd A,vd B]),.v (.lst (aDr vd j)),.v (vd<|B-A),.v (vd l),.v (vd i),x,y]/\rest=m.map vd/\Sz 2003 l/\Sz 1000 i/\(∀X∈m,Sz 1000 X)/\G.G7 (B-A) A m l i=G.G7 (B-A) A j 0 A) ?_ ⟨0,A,j,_,_,rfl,rfl,⟨by decide,by decide,by decide⟩,r,hs.1,rfl⟩ ?_
    .rintro d J ρ ⟨l,i,m,x,y,rfl,t,O,Q,C,n⟩;match m,t with
     |P::m,t=>
      injection t with e3 e4;subst e3 e4;have T:=C P (.head _);have I:=T.sub r;have e0:=eq0 l;rw[show(.tup [.int 0,.int 0,.int 0]:D)=vd 0 from rfl]at e0;have c1:=eI (u:=B-A) (v:=P-A) (H.sub r).mono I.mono;have p1:=jG (u:=l) (v:=P-A) O.mono I.mono;have w1:=fw A P;have i0:P6 (.tup [vd A,vd B]) (.int 0)=.ok (vd A):=rfl
      conv at n=>lhs;unfold G.G7
      simp only[gR,aBR,aBS,M2,K8,Z0,P4,R.aa0,i0,w1,E9,e0,uZ,p1,xN];by_cases o:l=0
      .rw[hV (.inl o)]at n;refine⟨_,?_,G.cr (B-A) (P-A),P,m,.v (vd P),.v (vd<|P-A),rfl,rfl,(((H.sub r).cr I).mono),T,λX E=>C X (.tail _ E),n⟩;rw[decide_eq_true o];simp only[if_true,R.aa0,c1,E9,aBR,aBS,Z0,P4]
      .rw[decide_eq_false o];by_cases p:0<G.dot l (P-A)
       .rw[hV (.inr p)]at n;refine⟨_,?_,G.cr (B-A) (P-A),P,m,.v (vd P),.v (vd<|P-A),rfl,rfl,(((H.sub r).cr I).mono),T,λX E=>C X (.tail _ E),n⟩;rw[decide_eq_true p];simp only[if_true,aAu,if_false,R.aa0,c1,E9,aBR,aBS,Z0,P4]
       .rw[h9 (λz=>z.elim o p)]at n;refine⟨_,?_,l,i,m,.v (vd P),.v (vd<|P-A),rfl,rfl,O,Q,λX E=>C X (.tail _ E),n⟩;rw[decide_eq_false p];simp only[aAu,if_false,R.aa0]
    .rintro ρ ⟨l,i,m,x,y,rfl,t,O,Q,C,n⟩;have:m=[]:=by simpa using t.symm
     subst this;have n:(l,i)=G.G7 (B-A) A j 0 A:=n;have eo:(G.G7 (B-A) A j 0 A).2=i:=by rw[<-n]
     unfold G.b7 at L⊢;rw[eo]at L⊢;have pl:=NT ⟨r,H,Q⟩ (XB L);simp[pl]
   .cases h
  .cases h
def cB (J6:y9 P w K mg base 2 "points_on" 2 A8)(L3:y9 P w K mg base 3 "plane_about" 2 G3)(J5:y9 P w K mg base 2 "dimension_of" 1 E8)(qt:mg "min"=none)(g:gC K mg "first_pair" bR):y9 P w K mg base 8 "first_pair" 1 K1:=by
 refine' o8 (k:=7) (F:=_) g rS (λf z eh o=>?b) λA d hl h=>?_
 case b=>
  have B:=f.ae2 (by decide);refine' (c5 (i8 1 (oV (XF rfl B)<|A4 (b8 0) G8) o)
   (c5 (i8 2 (FP (c9 1)<|nE (j5 (b8 1) d5) (j5 (b8 1) d5)<|b9 o6 (PD.pb<|j5 (b8 1) d5) o7) o)
   (c5 (i8 3 (aJ J6 f (aJ L3 f (c9 2)<|c9 0)<|c9 0) o)
   (c5 (w5 (k9 (M4 z) (PD.pb<|nZ J5 f<|c9 3) o7) (e9<|j3<|c9 2) n6)
   (e9<|j3<|FP (j5 (b8 3) d5)<|j5 (b8 3) d5)))))
 match A,h with
 |[.lst Y],h=>
  simp only[K1]at h;split at h
  .rename_i m j C;rw[u3 C];split at h
   .rename_i a;rw[<-h];have u:=vk a.good.ord;have i:aZ 1000 (m::j):=a.sz.mono;have l:Sz 900 m:=a.sz.1 m (.head _);obtain⟨E,H,I,J,N⟩:=G.zH a.good.solid a.good.mem a.good.least;have p:=W9 l.mono (NX l) i E;have q:=BI l.mono (NX l) i;rw[a1a]at p;have v:=iZ (d:=(G.b7 m (m+G.kk) (m::j)).2) q.mono i;obtain⟨x,y,r,e⟩:=QI H J N;have O:=UI (n:=(G.b7 m (m+G.kk) (m::j)).1) (d:=(G.b7 m (m+G.kk) (m::j)).2) i;have s:=TM (j:=G.n8 (G.b7 m (m+G.kk) (m::j)).1 (G.b7 m (m+G.kk) (m::j)).2 (m::j)) (by rw[e];simp) O;have Q:P6 (.lst ((G.n8 (G.b7 m (m+G.kk) (m::j)).1 (G.b7 m (m+G.kk) (m::j)).2 (m::j)).map vd)) (.int 0)=.ok (vd x):=gM (by rw[e];exact a0n _ _);have T:P6 (.lst ((G.n8 (G.b7 m (m+G.kk) (m::j)).1 (G.b7 m (m+G.kk) (m::j)).2 (m::j)).map vd)) (.int 1)=.ok (vd y):=gM (by rw[e];exact a1w _ _ _);unfold G.i6;dsimp only;by_cases t:G.V3 (G.n8 (G.b7 m (m+G.kk) (m::j)).1 (G.b7 m (m+G.kk) (m::j)).2 (m::j))=2
    .rw[hV t];rw[t]at s;generalize(m::j).map vd=L at*
     generalize(G.n8 (G.b7 m (m+G.kk) (m::j)).1 (G.b7 m (m+G.kk) (m::j)).2 (m::j)).map vd=L2 at*
     generalize(G.b7 m (m+G.kk) (m::j)).1=U at*
     generalize(G.b7 m (m+G.kk) (m::j)).2=pm at*
     simp[l6,u,p,v,s,G.kk]
    .rw[h9 t];have e0:(G.n8 (G.b7 m (m+G.kk) (m::j)).1 (G.b7 m (m+G.kk) (m::j)).2 (m::j)).getD 0 0=x:=by rw[e];rfl
     have e1:(G.n8 (G.b7 m (m+G.kk) (m::j)).1 (G.b7 m (m+G.kk) (m::j)).2 (m::j)).getD 1 0=y:=by rw[e];rfl
     rw[e0,e1];have hb:((G.V3 (G.n8 (G.b7 m (m+G.kk) (m::j)).1 (G.b7 m (m+G.kk) (m::j)).2 (m::j)):Int)==2)=false:=by rw[beq_eq_false_iff_ne];lia
     generalize(m::j).map vd=L at*
     generalize(G.n8 (G.b7 m (m+G.kk) (m::j)).1 (G.b7 m (m+G.kk) (m::j)).2 (m::j)).map vd=L2 at*
     generalize(G.V3 (G.n8 (G.b7 m (m+G.kk) (m::j)).1 (G.b7 m (m+G.kk) (m::j)).2 (m::j)):Int)=dd at*
     generalize(G.b7 m (m+G.kk) (m::j)).1=U at*
     generalize(G.b7 m (m+G.kk) (m::j)).2=pm at*
     simp[l6,u,p,v,s,hb,Q,T]
   .cases h
  .cases h
def kR (v8:y9 P w K mg base 1 "product_of" 2 w4)(B9:y9 P w K mg base 1 "cross_of" 2 C9)(l8:y9 P w K mg base 1 "way_between" 2 t8)(g:gC K mg "turn_of" lD):y9 P w K mg base 2 "turn_of" 4 gB:=by
 refine' o8 (k:=1) (F:=_) g DQ (λm A B C=>?b) λn d E h=>?_
 case b=>refine' (e9<|j3<|aJ v8 m (c9 0)<|aJ B9 m (aJ l8 m (c9 1)<|c9 2)<|aJ l8 m (c9 2)<|c9 3)
 replace h:=F3 h;obtain⟨a,b,c,n,rfl,h⟩:=h;replace h:=F3 h;obtain⟨d,e,f,n,rfl,h⟩:=h;replace h:=F3 h;obtain⟨g,o,i,n,rfl,h⟩:=h;replace h:=F3 h;obtain⟨j,k,l,n,rfl,h⟩:=h;replace h:=A6 h;obtain⟨rfl,h⟩:=h
 .skip
  split at h
  .rename_i y;obtain⟨p,q,r,s⟩:=y;rw[<-h];have t:=eI (u:=⟨g,o,i⟩-⟨d,e,f⟩) (v:=⟨j,k,l⟩-⟨g,o,i⟩) (r.sub q).mono (s.sub r).mono;have x:=jG (u:=⟨a,b,c⟩) (v:=G.cr (⟨g,o,i⟩-⟨d,e,f⟩) (⟨j,k,l⟩-⟨g,o,i⟩)) p.mono ((r.sub q).cr (s.sub r)).mono;simp only[vd,G.ID,G.IW,G.HN,G.SW,G.QY,G.PR]at t x;have z:∀a b c d e f:Int,t8 [.tup [.int a,.int b,.int c],.tup [.int d,.int e,.int f]]=.ok (.tup [.int (d-a),.int (e-b),.int (f-c)]):=λ_ _ _ _ _ _=>rfl;simp[l6,z,t,x,G.turn,G.i7]
  .cases h
def U8 (kR:y9 P w K mg base 2 "turn_of" 4 gB)(eu:mg "len"=none)(g:gC K mg "left_chain" bQ):y9 P w K mg base 3 "left_chain" 2 U4:=by
 refine' o8 (k:=2) (F:=_) g rV (λhr hu eh T=>?b) λl d J h=>?_
 case b=>
  refine' (c5 (fY 2 (lN u8) T)
   (c5 (Y4 aBX rfl (w6<|c9 1) (t6 3 T) (c5 (lS (λ_=>1001) aBX (CU.pt<|wS (k9 yZ (PD.pb<|yV eJ<|b8 2) o7)<|qP<|k9 a1b (PD.pb<|pc4 kR hr (c9 0) (j5 (b8 2)<|kX d5) (j5 (b8 2)<|kX d5)<|c9 3) o7)<|e9<|VN 2)
   (e9<|W4 2<|c9 3)))
   (e9<|yB 2<|j3<|c9 2)))
 replace h:=F3 h;obtain⟨a,b,c,l,rfl,h⟩:=h;replace h:=eG h;obtain⟨Y,l,rfl,h⟩:=h;replace h:=A6 h;obtain⟨rfl,h⟩:=h
 .skip
  split at h
  .rename_i j hw;rw[u3 hw];split at h
   .rename_i L;rw[<-h];obtain⟨U,hs⟩:=L;have vn:(.tup [.int a,.int b,.int c]:D)=vd ⟨a,b,c⟩:=rfl;rw[vn];generalize(⟨a,b,c⟩:G.V)=n at*
    simp[l6];refine jT (λrest ρ=>∃(c i:List G.V) (x:Sl),ρ=[.v (vd n),.v (.lst (aDr vd j)),.o (c.reverse.map vd),x]/\rest=i.map vd/\(∀X∈c,Sz 1000 X)/\(∀X∈i,Sz 1000 X)/\c.length+i.length<=1000/\i.foldl (λc P=>P::G.X8 n P c) c=G.y8 n j) ?_ ⟨[],j,_,rfl,rfl,λX p=>by(cases p),hs.1,by simpa using hs.2,rfl⟩ ?_
    .rintro d l ρ ⟨c,i,x,rfl,u,sc,N,J,y⟩;match i,u with
     |P::i,u=>
      injection u with e3 e4;subst e3 e4;have O:=N P (.head _);simp only[aAp]at J;simp only[gR,aBR,aBS];refine Exists.elim (CI (n:=1001) (ρ:=[.v (vd n),.v (.lst (aDr vd j)),.o (c.reverse.map vd),.v (vd P)]) (Post:=λρ=>∃e,ρ=[.v (vd n),.v (.lst (aDr vd j)),.o (e.reverse.map vd),.v (vd P)]/\(∀X∈e,Sz 1000 X)/\e.length<=c.length/\e=G.X8 n P c)
       (c:=FE (λρ=>((((zN 2 ρ).bind λd=>R.ok [d]).bind vX).bind λx=>gtR x (D.int 1)).bind CT) λρ=>((((dZ 0 ρ).bind λd=>(((zN 2 ρ).bind λx=>P6 x (D.int (-2))).bind λd=>(((zN 2 ρ).bind λx=>P6 x (D.int (-1))).bind λd=>((dZ 3 ρ).bind λd=>R.ok [d]).bind λl=>R.ok (d::l)).bind λl=>R.ok (d::l)).bind λl=>R.ok (d::l)).bind gB).bind λx=>leR x (D.int 0)).bind CT) (F:=λρ=>(FT 2 ρ).bind λz=>R.ok (Out.nx z.snd))
       (λm ρ=>∃e,ρ=[.v (vd n),.v (.lst (aDr vd j)),.o (e.reverse.map vd),.v (vd P)]/\(∀X∈e,Sz 1000 X)/\e.length<=c.length/\e.length<m/\G.X8 n P e=G.X8 n P c) ?_ (by rintro ρ ⟨e,_,_,_,h,_⟩;lia) ⟨c,rfl,sc,aAj _,by lia,rfl⟩ ?_) ?_
      .rintro m ρ ⟨e,rfl,sub,q,s,f⟩;match e,sub,q,s,f with
       |[],_,_,_,_=>exact .inl (by simp)
       |[a],_,_,_,_=>exact .inl (by simp)
       |b::a::r,sub,q,s,f=>
        have t:(b::a::r).reverse.map vd=r.reverse.map vd++[vd a,vd b]:=by simp
        have B:P6 (.lst ((b::a::r).reverse.map vd)) (.int (-1))=.ok (vd b):=gM (by rw[t];exact ax _ _ _);have C:P6 (.lst ((b::a::r).reverse.map vd)) (.int (-2))=.ok (vd a):=gM (by rw[t];exact ZL _ _ _);have E:=IV U (sub a<|.tail _ (.head _)) (sub b<|.head _) O;have H:(1:Int)<(aDr vd (b::a::r).reverse).length:=by rw[aAf,aCM];simp;lia
        by_cases Q:G.turn n a b P<=0
        .refine .inr ⟨?_,[.v (vd n),.v (.lst (aDr vd j)),.o ((a::r).reverse.map vd),.v (vd P)],?_,a::r,rfl,λX p=>sub X (.tail _ p),?_,?_,?_⟩
         .simp only[xY,M2,CW,R.aa0,GB,xN,decide_eq_true H,uZ,if_true,P4,Z0,B,C,E,DO,decide_eq_true Q]
         .show(match(aDr vd (b::a::r).reverse)[(aDr vd (b::a::r).reverse).length-1]? with|some d=>_|none=>_:R (D×Ev)).bind _=_;rw[t];simp
         .simp only[aAp]at q⊢;lia
         .simp only[aAp]at s⊢;lia
         .rw[<-f]
          conv=>rhs;unfold G.X8
          rw[hV Q]
        .refine .inl ?_;simp only[xY,M2,CW,R.aa0,GB,xN,decide_eq_true H,uZ,if_true,P4,Z0,B,C,E,DO,decide_eq_false Q]
      .rintro m ρ ⟨e,rfl,sub,q,s,f⟩ I;refine⟨e,rfl,sub,q,?_⟩;match e,sub,q,s,f,I with
       |[],_,_,_,f,_=>exact f
       |[a],_,_,_,f,_=>exact f
       |b::a::r,sub,q,s,f,I=>
        have t:(b::a::r).reverse.map vd=r.reverse.map vd++[vd a,vd b]:=by simp
        have B:P6 (.lst ((b::a::r).reverse.map vd)) (.int (-1))=.ok (vd b):=gM (by rw[t];exact ax _ _ _);have C:P6 (.lst ((b::a::r).reverse.map vd)) (.int (-2))=.ok (vd a):=gM (by rw[t];exact ZL _ _ _);have E:=IV U (sub a<|.tail _ (.head _)) (sub b<|.head _) O;have H:(1:Int)<(aDr vd (b::a::r).reverse).length:=by rw[aAf,aCM];simp;lia
        simp only[xY,M2,CW,R.aa0,GB,xN,decide_eq_true H,uZ,if_true,P4,Z0,B,C,E,DO,ND,decide_eq_false_iff_not]at I;rw[<-f]
        conv=>rhs;unfold G.X8
        rw[h9 I]
      .rintro ρ2 ⟨ew,e,rfl,sub,q,A⟩;refine⟨[.v (vd n),.v (.lst (aDr vd j)),.o ((P::e).reverse.map vd),.v (vd P)],?_,P::e,i,_,rfl,rfl,?_,λX p=>N X (.tail _ p),?_,?_⟩
       .rw[ew];have L:(aDr vd e.reverse).length<sizeLine:=by rw[aAf,aCM];exact aCR (show e.length<=1000 by lia) (by decide)
        simp only[E9,Z0,P4,R.aa0];show(if(aDr vd e.reverse).length<sizeLine then _ else _)=_;rw[hV L];simp
       .intro X p;rcases aAd.mp p with rfl|p
        .exact O
        .exact sub X p
       .simp;lia
       .rw[<-y,aEz,A]
    .rintro ρ ⟨c,i,x,rfl,u,sc,N,J,y⟩;have:i=[]:=by simpa using u.symm
     subst this;have y:c=G.y8 n j:=y;subst y;simp[NQ]
   .cases h
  .cases h
def lL (U8:y9 P w K mg base 3 "left_chain" 2 U4)(y:mg "list"=none)(z:mg "reversed"=none)(g:gC K mg "ring_of" lE):y9 P w K mg base 4 "ring_of" 2 Q5:=by
 refine' o8 (k:=3) (F:=_) g EN (λf A B i=>?b) λm d C h=>?_
 case b=>
  refine' (c5 (i8 2 (aJ U8 f (c9 0)<|c9 1) i)
   (c5 (i8 3 (aJ U8 f (c9 0)<|PF.pd<|ER (b8 1) rfl) i)
   (e9<|j3<|b9 o6 (PD.pb<|pD (b8 2) dU<|O5<|kX d5)<|PD.pb<|pD (b8 3) dU<|O5<|kX d5)))
 replace h:=F3 h;obtain⟨a,b,c,m,rfl,h⟩:=h;replace h:=eG h;obtain⟨Y,m,rfl,h⟩:=h;replace h:=A6 h;obtain⟨rfl,h⟩:=h
 .skip
  split at h
  .rename_i j p;rw[u3 p];split at h
   .rename_i q;rw[<-h];obtain⟨o,e⟩:=q;have r:(.tup [.int a,.int b,.int c]:D)=vd ⟨a,b,c⟩:=rfl;rw[r];generalize(⟨a,b,c⟩:G.V)=n at*
    have s:=ZH o e;have t:aZ 1000 j.reverse:=e.sub (λP u=>by simpa using u) (by simp);have l2:=ZH o t;rw[aFB (l:=j)]at l2;have E:=uS n j;have v:=uS n j.reverse;rw[aCM]at v;have x:qQ (.lst ((G.y8 n j).reverse.map vd).dropLast) (.lst ((G.y8 n j.reverse).reverse.map vd).dropLast)=.ok (.lst ((G.j6 n j).map vd)):=by rw[jP (by simp only[aFX,aAf,aCM];exact aAl (show _<=2000 by have:=e.2;lia) (by decide))];unfold G.j6;rw[aBA,List.map_dropLast,List.map_dropLast]
    simp[-aFB,l6,s,l2,ZB,x,a2c]
   .cases h
  .cases h
def Z4 (n:mg "list"=none)(a:mg "zip"=none)(g:gC K mg "pairs_round" Z8):y9 P w K mg base 1 "pairs_round" 1 A9:=by
 refine' o8 (k:=0) (F:=_) g qS (λo p q r=>?b) λi d s h=>?_
 case b=>refine' (e9<|j3<|PF.pd<|DM (b8 0) (PD.pb<|b9 o6 (PD.pb<|pD (b8 0) (O5 d5) dU)<|PD.pb<|pD (b8 0) dU<|O5 d5) rfl)
 match i,h with
 |[.lst Y],h=>
  simp only[A9]at h;split at h
  .rename_i j l;rw[u3 l];split at h
   .rename_i t;rw[<-h];have m:qQ (.lst (j.map vd).tail) (.lst ((j.map vd).take 1))=.ok (.lst ((j.tail++j.take 1).map vd)):=by rw[jP (by simp only[List.length_tail,aBN,aAf];exact RU (by lia))];rw[aBA,List.map_tail,List.map_take]
    have e:(j.map vd).length=((j.tail++j.take 1).map vd).length:=by
     simp only[aAf,aAB,List.length_tail,aBN]
     lia
    have f:ZF [.lst (j.map vd),.lst ((j.tail++j.take 1).map vd)]=.ok ((G.z6 j).map J8):=by show(if _ then _ else _)=_;rw[hV e,uC (β:=Unit)];rfl
    simp[-aBA,-List.map_tail,-List.map_take,l6,UU,uz,m,f]
   .cases h
  .cases h
def bW (L3:y9 P w K mg base 3 "plane_about" 2 G3)(lL:y9 P w K mg base 4 "ring_of" 2 Q5)(Z4:y9 P w K mg base 1 "pairs_round" 1 A9)(C:mg "len"=none)(I:mg "sorted"=none)(g:gC K mg "faces_from" cE):YK P w K mg base 8 3 "faces_from" K3:=by
 obtain⟨f,J,q,l⟩:=g;refine' VB (k:=7) (F:=_) l gH rfl (l.binds λ_ _ _ _ _ _ r t=>match r,t with|[_,_,_],_=>rfl) q (λT A e s H E a=>?hb) ?hm
 case hb=>
  have L:=a.units;have n:=a.ae6;have u:=a.ae2 (by decide);have b:=gH.nd;refine' (c5 (fY 3 (lN u8) b)
   (c5 (QU 4 b)
   (c5 (fY 5 (lN<|j0 (c9 0) u8) b)
   (c5 (lS (λ_=>5000) aBX (k9 yZ (PD.pb<|yV eJ<|b8 5) o7) (c5 (DF 6 5 b)
   (e9 (w5 (JO 4 (c9 6) n) (c5 (i8 7 (aJ L3 a (c9 6) (zW 1 (k:=3) (Φ:=MK P w K mg base 3 1) rfl (j0 (j5 (b8 6) d5) u8) (C1 aM) (a.mono (by decide)))) b)
   (c5 (i8 8 (aJ lL a (pD (b8 7) dU<|O5 d5) (zW 2 (k:=3) (Φ:=MK P w K mg base 3 1) rfl (j0 (c9 7) u8) (C1 aM) (a.mono (by decide)))) b)
   (c5 (W4 3<|FP (c9 7)<|c9 8)
   (e9 (Y4 aBX rfl (w6<|nZ Z4 a<|c9 8) (t6 9 b) (c5 (GE 4 HY (c9 9) n)
   (e9<|W4 5<|FP (j5 (b8 9) d5)<|j5 (b8 9) d5))))))) n6))))
   (e9<|j3<|PF.pd<|GF (b8 3) rfl u)))))
 case hm=>
  intro d N O Q h;simp only[K3]at h;split at h
  .rename_i Y v;split at h
   .rename_i m j x;split at h
    .rename_i i;rw[<-h];obtain⟨i,y,z,o,p⟩:=i;rw[u3 x]at o p;subst z o p;have B:(1:Nat)<=sizeLine:=by decide
     simp only[mD,P4,u0,x9,R.aa0,aAp,aBg,aFM,B,if_true,E9];exact a1p (Φ:=MK P w K mg base 3 1) i y
    .cases h
   .cases h
  .cases h
def vG:Nst:=⟨"about",GT,I9 cZ,u7 cZ,c8 cZ,GS cZ,["corner"],[],["spread"],[1],(λρ=>(dZ 1 ρ).bind λd=>.ok (.rt d)),L6,2⟩
def fC:Nst:=⟨"touched_by",kB,I9 L4,u7 L4,c8 L4,GS L4,["plane"],[],["spread"],[1],(λρ=>((t4 (dZ 0) (t4 (dZ 1) V2) ρ).bind A8).bind λd=>.ok (.rt d)),F5,3⟩
def LW {f:bb}{T:ao}{A:cf}{a:List Env}{s:a9}{H:Hp}{E:XK}:NstOk (UX P w K mg base gP "faces_of" (c8 L9) f T A a s H E) 2 vG where
 sc:=⟨rfl,rfl,rfl,by decide+kernel,by decide+kernel,by decide+kernel,λx h=>HZ h,by decide+kernel⟩
 one:=rfl
 body:=λt k e A a s H l=>by have u:=l.units;exact(e9<|j3<|c9 1)
 mm:=by
  intro m n d b g h;match m,n,b,g,h with
  |[_],[_],_,_,h=>cases h;rfl
 bind:=λe o v k p q r=>match q,r with|[_],_=>rfl
 len:=rfl
 at_:=λi j x b g=>match i,b,g with
  |0,b,g=>by obtain rfl:1=j:=Option.some.inj b;obtain rfl:("spread":Str)=x:=Option.some.inj g;exact⟨rfl,rfl⟩
  |i+1,b,_=>nomatch(show(none:Option Nat)=some j from b)
 d0:=rfl
 k0:=rfl
 nm:=rfl
 lc:=.inl rfl
 st:=.inl rfl
 dbg:=by decide
 cdt:=by decide
def pF (J6:y9 P w K mg base 2 "points_on" 2 A8){f:bb}{T:ao}{A:cf}{a:List Env}{s:a9}{H:Hp}{E:XK}:NstOk (UX P w K mg base gP "faces_of" (c8 L9) f T A a s H E) 2 fC where
 sc:=⟨rfl,rfl,rfl,by decide+kernel,by decide+kernel,by decide+kernel,λx h=>HZ h,by decide+kernel⟩
 one:=rfl
 body:=λy m g A a s H l=>by have z:=l.units;exact(e9<|j3<|aJ J6 l (c9 0)<|c9 1)
 mm:=by
  intro n o d b k h;match n,o,b,k,h with
  |[w],[p],_,_,h=>have h:A8 [p,w]=.ok d:=h;show O6 (((t4 (dZ 0) (t4 (dZ 1) V2) [.v p,.v w]).bind A8).bind λd=>.ok (.rt d))=.ok d;have e:t4 (dZ 0) (t4 (dZ 1) V2) [.v p,.v w]=.ok [p,w]:=rfl;rw[e,R.aa0,h];rfl
 bind:=λg q B m r t u=>match t,u with|[_],_=>rfl
 len:=rfl
 at_:=λi j x b k=>match i,b,k with
  |0,b,k=>by obtain rfl:1=j:=Option.some.inj b;obtain rfl:("spread":Str)=x:=Option.some.inj k;exact⟨rfl,rfl⟩
  |i+1,b,_=>nomatch(show(none:Option Nat)=some j from b)
 d0:=rfl
 k0:=rfl
 nm:=rfl
 lc:=.inl rfl
 st:=.inl rfl
 dbg:=by decide
 cdt:=by decide
def M0 {t:bb}(J6:y9 P w K mg base 2 "points_on" 2 A8)(Z6:y9 P w K mg base 3 "refuse_flat" 1 G1)(cB:y9 P w K mg base 8 "first_pair" 1 K1)(bW:YK P w K mg base 8 3 "faces_from" K3)(bh:mg "sorted"=none)(qu:mg "set"=none)(O:jU mg base)(i:(t,tbK)∈Tabs.tbs)(g:a2i K mg "faces_of" L9 t):y9 P w K mg base 9 "faces_of" 1 M1:=by
 obtain⟨f,fd,cd,Q,T,u⟩:=g;refine' XH (k:=8) (F:=_) u nK (u.fn.binds λ_ _ _ _ _ _ U y=>match U,y with|[_],_=>rfl) Q (λA l s H E a=>?hb) ?hm
 case hb=>
  have hu:=a.units;have eh:=a.ae6;have uh:=a.ae2 (by decide);have z:=nK.nd;refine' (c5 (UC<|nZ Z6 a<|c9 0)
   (c5 (i8 1 (PF.pd<|kO (b8 0) rfl uh) z)
   (DC (n1:=vG) (n2:=fC) (clos1:=[("spread",s.heap.objs.size+1)]) (clos2:=[("spread",s.heap.objs.size+1)]) (tb:=tbK) LW (pF J6) ?co1 ?co2 ?hA O rfl T i (by decide+kernel) (by decide+kernel) (by decide+kernel) (by decide+kernel) (by decide) z bW (a.mono (by decide)) (nZ cB a<|c9 1) (λ_=>rfl))))
  case co1=>exact⟨rfl,rfl,rfl,λx c h=>h,λx o=>⟨_,by obtain rfl:x= "spread":=aAN.mp o;rfl⟩⟩
  case co2=>exact⟨rfl,rfl,rfl,λx c h=>h,λx o=>⟨_,by obtain rfl:x= "spread":=aAN.mp o;rfl⟩⟩
  case hA=>exact LJ
 case hm=>
  intro p d y h;match p,h with
  |[.lst Y],h=>
   simp only[M1]at h;split at h
   .rename_i j hw;rw[u3 hw];split at h
    .rename_i hz;rw[<-h];obtain⟨B,C,I⟩:=hz;obtain⟨m,r,e,L⟩:=cD B C (by lia);have q:=ZQ (j:=j) (by lia);have fl:=VC (B.mono (n:=1000)) C;rw[e]at I q⊢;have J:=a2y L;have N:=xx L I;obtain⟨b,eL⟩:∃b,(m::r).map vd=b:=⟨_,rfl⟩;rw[eL]at q J N;show O6 (F8 ((G1 [D.lst (j.map vd)]).bind λ_=>R.ok (Out.nx [.v (.lst (j.map vd)),.no,.no,.no])) _)=_;rw[fl,R.aa0,E9];show O6 (F8 (((ssR<|.lst (j.map vd)).bind λp=>R.ok (D.lst p)).bind λd=>R.ok (Out.nx [.v (.lst (j.map vd)),.v d,.no,.no])) _)=_;rw[q,R.aa0,R.aa0,E9];show O6 (((K1 [D.lst b]).bind λd1=>(R.ok [D.lst b]).bind λw1=>(R.ok [D.lst b]).bind λw2=>K3 d1 (L6 w1) (F5 w2)).bind λd=>R.ok (Out.rt d))=_;rw[J,R.aa0,R.aa0,R.aa0,N];rfl
    .cases h
   .cases h
def cC (r:mg "sorted"=none)(s:mg "set"=none)(g:gC K mg "corners_in" bK):y9 P w K mg base 8 "corners_in" 1 K6:=by
 refine' o8 (k:=7) (F:=_) g sE (λj t u f=>?b) λl d x h=>?_
 case b=>
  have m:=j.ae2 (by decide);refine' (c5 (fY 1 (lN u8) f)
   (c5 (Y4 aBX rfl (w6<|c9 0) (jW (n:=2) rfl<|B5 (t6 2 f)<|B5 (t6 3 f) eU)<|e9<|FQ 1<|c9 3)
   (e9<|j3<|PF.pd<|kO (b8 1) rfl m)))
 match l,h with
 |[.lst Y],h=>
  simp only[K6]at h;split at h
  .rename_i o p;split at h
   .rename_i i;rw[<-h];obtain⟨y,z,e⟩:=nI (a:=Sl.v (D.lst Y)) Y o [] Sl.no Sl.no p (by simpa using i.1);rw[aCh,aBD]at e;have q:=ZQ i.2;simp[l6,-List.map_flatten,e,q]
   .cases h
  .cases h
def V7 (cC:y9 P w K mg base 8 "corners_in" 1 K6)(M0:y9 P w K mg base 9 "faces_of" 1 M1)(g:gC K mg "body_of" lH):y9 P w K mg base 10 "body_of" 1 J9:=by
 refine' o8 (k:=9) (F:=_) g FB (λf t u v=>?b) λn d x h=>?_
 case b=>refine' (e9<|j3<|nZ cC f<|nZ M0 f<|c9 0)
 match n,h with
 |[.lst Y],h=>
  simp only[J9]at h;split at h
  .rename_i j o;rw[u3 o];split at h
   .rename_i p;rw[<-h];obtain⟨i,l,a⟩:=p;obtain⟨m,r,e,L⟩:=cD i l (by lia);have q:=pL i l a;have y:((i5<|d8 j).flatMap (G.c7<|d8 j)).length<=200/\(d8<|(i5<|d8 j).flatMap (G.c7<|d8 j)).length<=23:=by rw[e]at a⊢;exact uU L a
    have s:=DV (j:=d8 j) (fs:=i5 (d8 j)) (by lia) (by lia);simp[l6,q,s,A1]
   .cases h
  .cases h
end
section
variable [Tabs]
variable{P:bt} {w:cp} {K:iu} {mg:dS} {base:cq}
def fA (mC:y9 P w K mg base 2 "lift_of" 4 fH)(C:mg "sum"=none)(E:mg "range"=none)(H:mg "len"=none)(g:gC K mg "room_seen" Y9):y9 P w K mg base 3 "room_seen" 2 xH:=by
 refine' o8 (k:=2) (F:=_) g yJ (λo I J L=>?b) λm d p h=>?_
 case b=>refine' (e9<|j3<|kX<|yV (iV rfl)<|PD.pb<|G6 ["k"] ["V", "ring"] [1,0] rfl (L0 (sc:=c8 Y9) (N:=nC)) (aL<|A4 o7<|A4 (PD.pb<|b9 u9 (PD.pb<|yV eJ<|b8 0) o7) G8) (MI λ_ _ _ _ _=>(pc4 mC o (j5 (b8 2) d5) (j5 (b8 2)<|c9 0) (j5 (b8 2)<|b9 o6 (b8 0) o7)<|c9 1))<|λ_=>v7)
 replace h:=wJ h;obtain⟨r,m,rfl,h⟩:=h;replace h:=F3 h;obtain⟨x,y,z,m,rfl,h⟩:=h;replace h:=A6 h;obtain⟨rfl,h⟩:=h;replace h:=fB h;obtain⟨⟨O,p,f,n⟩,rfl⟩:=h;obtain⟨e,j⟩:∃P:G.V,P=⟨x,y,z⟩:=⟨_,rfl⟩;have q:(.tup [.int x,.int y,.int z]:D)=vd e:=by rw[j]
 rw[q,<-j];rw[<-j]at n;have s:gE [.int 1,.int ((r.length:Int)-1)]=.ok ((aEJ 1<|r.length-1-1).map λ(k:Nat)=>D.int (k:Int)):=by have:=a4s (a:=1) (b:=r.length-1) (by lia) (by lia);rw[show((r.length-1:Nat):Int)=(r.length:Int)-1 by lia]at this;exact this
 have t:P6 (.lst (r.map vd)) (.int 0)=.ok (vd<|r.getD 0 0):=rC (i:=0) (getD_at (by lia));have u:∀k∈aEJ 1 (r.length-1-1),P6 (.lst (r.map vd)) (.int (k:Int))=.ok (vd<|r.getD k 0)/\P6 (.lst (r.map vd)) (.int ((k:Int)+1))=.ok (vd<|r.getD (k+1) 0)/\fH [vd (r.getD 0 0),vd (r.getD k 0),vd (r.getD (k+1) 0),vd e]=.ok (.int (mZ (r.getD 0 0) (r.getD k 0) (r.getD (k+1) 0) e)):=λk l=>by rw[List.mem_range'_1]at l;exact⟨rC (getD_at (by lia)),rC (i:=k+1) (getD_at (by lia)),ZC (f _ (fV (by lia))).mono (f _ (fV (by lia))).mono (f _ (fV (by lia))).mono n.mono⟩
 have A:=iR (JJ r e);simp only[l6,aAi,aCh,aAG,aBD,aAp,aBg,aCE,aCF,aBz];have B:vX [.lst (r.map vd)]=.ok (.int (r.length:Int)):=by simp only[vX,aAf]
 simp-implicitDefEqProofs only[u0,x9,K8,E6,R.aa0,B,Z1,s];rw[fQ (λ(k:Nat)=>D.int (k:Int)) D.int (λk=>mZ (r.getD 0 0) (r.getD k 0) (r.getD (k+1) 0) e) (aEJ 1<|r.length-1-1) (by rw[List.length_range'];lia) λk l=>⟨[.v (.int k),.v (vd e),.v (.lst (r.map vd))],rfl,by simp-implicitDefEqProofs only[u0,x9,M2,K8,Z0,P4,E6,R.aa0,t,u k l,fK]⟩,show(aEJ 1<|r.length-1-1).map (λk=>mZ (r.getD 0 0) (r.getD k 0) (r.getD (k+1) 0) e)=JJ r e from rfl];simp-implicitDefEqProofs only[R.aa0,A];rfl
def C5 (M0:y9 P w K mg base 9 "faces_of" 1 M1)(fA:y9 P w K mg base 3 "room_seen" 2 xH)(g:gC K mg "rooms_seen" T9):y9 P w K mg base 10 "rooms_seen" 2 bY:=by
 refine' o8 (k:=9) (F:=_) g sN (λq T U Y=>?b) λs d hl h=>?_
 case b=>refine' (e9 (j3 (G6 ["plane", "ring"] ["V"] [1] rfl (L0 (sc:=c8 T9) (N:=kD)) (w6<|nZ M0 q<|c9 0) (by rintro t fp X2 ⟨s0,H1,C,rfl⟩;exact⟨(jW (n:=2) rfl (B5 (t6 0 (show(["plane", "ring", "V"]:List Str).Nodup by decide+kernel)) (B5 (t6 1 (show(["plane", "ring", "V"]:List Str).Nodup by decide+kernel)) eU))),yN,(aJ fA q (c9 1)<|c9 2)⟩)<|λ_=>QK)))
 replace h:=wJ h;obtain⟨l,s,rfl,h⟩:=h;replace h:=F3 h;obtain⟨x,y,z,s,rfl,h⟩:=h;replace h:=A6 h;obtain⟨rfl,h⟩:=h;replace h:=fB h;obtain⟨⟨⟨o,u,A⟩,B⟩,rfl⟩:=h;obtain⟨i,p⟩:∃P:G.V,P=⟨x,y,z⟩:=⟨_,rfl⟩;have H:(.tup [.int x,.int y,.int z]:D)=vd i:=by rw[p]
 rw[H,<-p];rw[<-p]at B;have I:=pL o u A;obtain⟨E,_,fl⟩:=uW o u A;have J:∀f∈i5 (d8 l),xH [.lst ((G.c7 (d8 l) f).map vd),vd i]=.ok (.int (F1 (G.c7 (d8 l) f) i)):=λf j=>by have S:=((E f).mp j).aa2 (m6 l);have L:=G.u6 S.aa3 (m:=d8 l) λv O=>(G.c6.mp<|S.aa4 O).1;obtain⟨a,b,c,r,e⟩:=G.C7 (m6 l) ((E f).mp j);have e:G.c7 (d8 l) f=a::b::c::r:=e;refine XX ⟨by rw[e];simp,aAl L (by lia),λX Q=>(o.1 X (q9.mp (G.c6.mp<|S.aa4 Q).1)).mono,B⟩
 simp only[l6,aAi,aCh,aAG,aBD,aAp,aBg,aCE,aCF,aBz];simp-implicitDefEqProofs only[u0,x9,P4,R.aa0,I,V8];rw[fQ (n4<|d8 l) D.int (λf=>F1 (G.c7 (d8 l) f) i) (i5<|d8 l) (by lia) λf j=>⟨[.v (rW f.1 f.2),.v (.lst ((G.c7 (d8 l) f).map vd)),.v (vd i)],rfl,by simp-implicitDefEqProofs only[u0,x9,Z0,P4,R.aa0,J f j]⟩];rfl
def D9 (C5:y9 P w K mg base 10 "rooms_seen" 2 bY)(r:mg "sum"=none)(g:gC K mg "sixfold_room" X3):y9 P w K mg base 11 "sixfold_room" 1 qA:=by
 refine' o8 (k:=10) (F:=_) g nW (λf s t u=>?b) λj d v h=>?_
 case b=>refine' (e9<|j3<|yV (iV rfl)<|PD.pb<|aJ C5 f (c9 0)<|j5 (b8 0) d5)
 replace h:=wJ h;obtain⟨l,j,rfl,h⟩:=h;replace h:=A6 h;obtain⟨rfl,h⟩:=h;replace h:=fB h;obtain⟨⟨a,m⟩,rfl⟩:=h;have e:0<l.length:=Nat.pos_of_ne_zero λz=>m (aDj z);have o:P6 (.lst (l.map vd)) (.int 0)=.ok (vd<|l.getD 0 0):=rC (i:=0) (getD_at e);have p:=kG a ((a.1.1 _ (fV e)).mono (n:=5000));have q:=iR (f7 l<|l.getD 0 0);simp only[l6,aAi,aCh,aAG,aBD,aAp,aBg,aCE,aCF,aBz];simp-implicitDefEqProofs only[u0,x9,K8,P4,E6,R.aa0,o,p,q];rfl
end
section
variable [Tabs]
variable{P:bt} {w:cp} {K:iu} {mg:dS} {base:cq}
def y7 (m:mg "len"=none)(g:gC K mg "_law_cell_at" X7):y9 P w K mg base 1 "_law_cell_at" 2 C3:=by
 refine' o8 (k:=0) (F:=_) g nS (λn o p q=>?b) λf d r h=>?_
 case b=>
  refine' (c5 (w5 (k9 AI (b8 1)<|PD.pb<|yV eJ<|b8 0) (e9<|j3<|j5 (b8 0)<|c9 1) n6)
   (e9<|j3 d5))
 match f,h with
 |[.lst Y,.int k],h=>
  simp only[C3]at h;split at h
  .rename_i i;obtain⟨j,s⟩:=i;rw[<-h];by_cases a:k<Y.length
   .have e:Y[k.toNat]?=some Y[k.toNat]:=aAh (by lia);have l:rO Y k=some Y[k.toNat]:=by rw[bP j,e]
    simp[l6,a,gM l,BZ,e]
   .have e:Y[k.toNat]?=none:=aCq.mpr (by lia);simp[l6,a,BZ,e]
  .cases h
def N6 (g:gC K mg "_law_great" cA):y9 P w K mg base 1 "_law_great" 1 bF:=by
 refine' o8 (k:=0) (F:=_) g rY (λj l m a=>?b) λe d n h=>?_
 case b=>
  refine' (c5 (i8 1 (b9 o6 (PD.pb<|b9 j9 o7<|PD.pb<|b9 F6 o7 o7) o7) a)
   (c5 (i8 2 (b9 u9 (PD.pb<|b9 o9 (PD.pb<|b9 o6 (PD.pb<|b9 j9 (b8 0) o7)<|PD.pb<|b9 F6 o7 o7)<|b8 1)<|PD.pb<|b9 F6 o7 o7) a)
   (c5 (i8 3 (b9 u9 (PD.pb<|b9 o9 (PD.pb<|b9 o6 (PD.pb<|b9 j9 (PD.pb<|b9 j9 (b8 0)<|b8 0) o7)<|PD.pb<|b9 F6 o7 o7)<|b8 1)<|PD.pb<|b9 F6 o7 o7) a)
   (e9<|j3<|nE (c9 2) (c9 3)<|b9 u9 (PD.pb<|b9 o9 (PD.pb<|b9 o6 (PD.pb<|b9 j9 (PD.pb<|b9 j9 (b8 0)<|b8 0)<|b8 0)<|PD.pb<|b9 F6 o7 o7)<|b8 1)<|PD.pb<|b9 F6 o7 o7))))
 match e,h with
 |[.int c],h=>
  simp only[bF]at h;split at h
  .rename_i f;rw[<-h]
   haveI:Bd c 2000000:=⟨f⟩
   have i:sQ (.int 10) (.int 12)=.ok (.int 1000000000000):=rfl;have o:(2000000000000:Int)+1=2000000000001:=rfl;simp[l6,i,N8,S4,cT,VZ,zw]
  .cases h
def fD (y7:y9 P w K mg base 1 "_law_cell_at" 2 C3)(N6:y9 P w K mg base 1 "_law_great" 1 bF)(gm:mg "range"=none)(g:gC K mg "_law_near" F4):y9 P w K mg base 2 "_law_near" 1 wF:=by
 refine' o8 (k:=1) (F:=_) g wU (λq l eh f=>?b) λds d m h=>?_
 case b=>
  refine' (c5 (i8 1 (aJ y7 q (c9 0) d5) f)
   (c5 (i8 2 (b9 o6 o7<|PD.pb<|b9 o9 (PD.pb<|b9 p9 (b8 1) o7) o7) f)
   (c5 (i8 3 (b9 o6 o7<|PD.pb<|b9 o9 (PD.pb<|b9 p9 (b8 1) o7) o7) f)
   (c5 (i8 4 (b9 o6 o7<|PD.pb<|b9 o9 (PD.pb<|b9 p9 (b8 1) o7) o7) f)
   (c5 (w5 (k9 (M4 l) (PD.pb<|b9 o9 (PD.pb<|b9 p9 (b8 1) o7) o7) o7) (e9<|JC (nE (b9 o6 (PD.pb<|b9 j9 (b8 2)<|PD.pb<|b9 F6 o7 o7) o7) (b9 o6 (PD.pb<|b9 j9 (b8 3)<|PD.pb<|b9 F6 o7 o7) o7)<|b9 o6 (PD.pb<|b9 j9 (b8 4)<|PD.pb<|b9 F6 o7 o7) o7)<|jW (n:=3) rfl<|B5 (t6 2 f)<|B5 (t6 3 f)<|B5 (t6 4 f) eU) n6)
   (c5 (i8 5 (b9 o9 (b8 1) o7) f)
   (c5 (w5 (k9 (M4 l) (b8 5) o7) (e9<|j3<|G6 ["k"] ["a", "b", "c"] [2,3,4] rfl (L0 (sc:=c8 F4) (N:=N0)) (aL<|A4 o7 G8) (MI λ_ _ _ _ _=>(nE (b9 j9 (PD.pb<|b9 o9 (b8 0) o7)<|b8 1) (b9 j9 (PD.pb<|b9 o9 (PD.pb<|b9 p9 (b8 0) o7) o7)<|b8 2)<|b9 j9 (PD.pb<|b9 p9 (b8 0) o7)<|b8 3))<|λ_=>v7) n6)
   (c5 (w5 (k9 (M4 l) (b8 5) o7) (e9<|j3<|qI<|j0 (nE (c9 2) d5 d5)<|j0 (nE (b9 u9 o7<|b8 3) d5 d5)<|j0 (nE d5 (c9 3) d5)<|j0 (nE d5 (b9 u9 o7<|b8 4) d5)<|j0 (nE d5 d5<|c9 4)<|j0 (nE d5 d5<|b9 u9 o7<|b8 2) u8) n6)
   (c5 (w5 (k9 (M4 l) (b8 5) o7) (c5 (fY 6 (lN<|j0 (FP d5 d5)<|j0 (FP (c9 2) d5)<|j0 (FP d5<|c9 3) u8) f)
   (e9<|yB 6<|j3<|b9 o6 (PD.pb<|G6 ["spot"] [] [] rfl (L0 (sc:=c8 F4) (N:=N0)) (w6<|c9 6) (MI λ_ _ _ _ _=>(b9 o6 (b8 0)<|PD.pb<|yL<|j0 d5 u8))<|λ_=>v7)<|PD.pb<|G6 ["spot"] ["c", "a", "b"] [4,2,3] rfl (L0 (sc:=c8 F4) (N:=N0)) (w6<|c9 6) (MI λ_ _ _ _ _=>(nE (b9 o6 (PD.pb<|j5 (b8 0) d5)<|b8 1) (j5 (b8 0) d5)<|b9 o6 (b8 2)<|b8 3))<|λ_=>v7)) n6)
   (c5 (w5 (CU.pt<|wS (k9 (M4 l) (b8 5) o7)<|qP<|k9 (M4 l) (PD.pb<|b9 o9 (PD.pb<|b9 p9 (b8 1) o7) o7) o7) (e9<|j3<|G6 ["k"] [] [] rfl (L0 (sc:=c8 F4) (N:=N0)) (aL<|A4 (PD.pb<|b9 o6 o7<|PD.pb<|b9 j9 o7<|PD.pb<|b9 o9 (PD.pb<|b9 p9 (b8 1) o7) o7) G8) (MI λ_ _ _ _ _=>(nE (b9 o9 (b8 0) o7) (b9 p9 (b8 0) o7)<|b9 o6 (PD.pb<|b9 j9 (PD.pb<|b9 o9 (b8 0) o7)<|PD.pb<|b9 o9 (b8 0) o7)<|PD.pb<|b9 j9 (PD.pb<|b9 p9 (b8 0) o7)<|PD.pb<|b9 p9 (b8 0) o7))<|λ_=>v7) n6)
   (c5 (w5 (k9 (M4 l) (b8 5) o7) (e9<|j3<|b9 o6 (PD.pb<|G6 ["k"] [] [] rfl (L0 (sc:=c8 F4) (N:=N0)) (aL<|A4 (PD.pb<|b9 o6 o7<|PD.pb<|b9 o9 (PD.pb<|b9 p9 (b8 1) o7) o7) G8) (MI λ_ _ _ _ _=>(nE (c9 0) (b9 j9 (b8 0)<|b8 0) d5))<|λ_=>v7)<|PD.pb<|qI<|j0 (nE (c9 2) (c9 3)<|c9 4) u8) n6)
   (c5 (fY 6 (lN<|j0 (nE d5 d5 d5)<|j0 (nE (c9 2) d5 d5)<|j0 (nE d5 (c9 3) d5)<|j0 (nE d5 d5<|c9 4) u8) f)
   (c5 (Y4 aBX rfl (w6<|pD (b8 0) (O5 d5)<|O5 d5) (t6 1 f)<|e9<|w5 (CU.pt<|kS (k9 (M4 l) (b8 5) o7)<|kI<|CU.pt<|wS (k9 (M4 l) (b8 5) o7)<|qP<|k9 (M4 l) (PD.pb<|b9 o9 (b8 1) o7) o7) (e9<|W4 6<|nZ N6 q<|b9 p9 (b8 1) o7)<|e9<|W4 6<|nE (b9 u9 (PD.pb<|b9 o9 (b8 1) o7) o7) (b9 u9 (PD.pb<|b9 o9 (PD.pb<|b9 p9 (b8 1) o7) o7) o7)<|b9 u9 (PD.pb<|b9 o9 (PD.pb<|b9 p9 (b8 1) o7) o7) o7)
   (e9<|yB 6<|j3<|c9 6))))))))))))))
 replace h:=eG h;obtain⟨Y,ds,rfl,h⟩:=h;replace h:=A6 h;obtain⟨rfl,h⟩:=h;replace h:=fB h;obtain⟨hi,rfl⟩:=h;obtain⟨e0,hb⟩:=IJ hi 0 (by decide);have e0:C3 [.lst Y,.int 0]=.ok (.int (cI Y 0)):=e0;generalize cI Y 0=c at*
 have hp:=oG c;have p6:sQ (.int 10) (.int 6)=.ok (.int 1000000):=rfl;have p7:sQ (.int 10) (.int 7)=.ok (.int 10000000):=rfl;have p8:sQ (.int 10) (.int 8)=.ok (.int 100000000):=rfl;have E:N5 (.int c) (.int 7)=.ok (.int (c.fdiv 7)):=B6 (by decide) (by decide);have d14:N5 (.int c) (.int 14)=.ok (.int (c.fdiv 14)):=B6 (by decide) (by decide);have d42:N5 (.int c) (.int 42)=.ok (.int (c.fdiv 42)):=B6 (by decide) (by decide);have H:N5 (.int c) (.int 126)=.ok (.int (c.fdiv 126)):=B6 (by decide) (by decide);have r:N5 (.int c) (.int 378)=.ok (.int (c.fdiv 378)):=B6 (by decide) (by decide);have A:∀(x:Int) {k:Int},0<k->lI (.int x) (.int k)=.ok (.int (x.fmod k)):=λx k s=>S4 s;have Q:=λx=>A x (show(0:Int)<3 by decide);have t:=λx=>A x (show(0:Int)<2 by decide);have m7:=λx=>A x (show(0:Int)<7 by decide);have m16:=λx=>A x (show(0:Int)<16 by decide);have m4:=λx=>A x (show(0:Int)<4 by decide);have d6:N5 (.int c) (.int 6048)=.ok (.int (c.fdiv 6048)):=B6 (by decide) (by decide);clear A;unfold cV pA;simp only[l6,aAi,aCh,aAG,aBD,aAp,aBg,aCE,aCF,aCN,aBz];refine i9 (by simp[e0];rfl) ?_;refine i9 (by simp[d14,Q];rfl) ?_;refine i9 (by simp[d42,Q];rfl) ?_;refine i9 (by simp[H,Q];rfl) ?_;refine i9 (ρ:=[.v (.lst Y),.v (.int c),.v (.int (T6 c).1),.v (.int (T6 c).2.1),.v (.int (T6 c).2.2),.no,.no]) ?_ ?_
 .have f1:=B8 (a:=c.fdiv 14) (b:=3) (by decide);have f2:=B8 (a:=c.fdiv 42) (b:=3) (by decide);have f3:=B8 (a:=c.fdiv 126) (b:=3) (by decide);unfold T6
  haveI:Bd (1+(c.fdiv 14).fmod 3) 10:=⟨l7 (by lia) (by lia)⟩
  haveI:Bd (1+(c.fdiv 42).fmod 3) 10:=⟨l7 (by lia) (by lia)⟩
  haveI:Bd (1+(c.fdiv 126).fmod 3) 10:=⟨l7 (by lia) (by lia)⟩
  by_cases hq:(c.fdiv 7).fmod 2=1
  .generalize 1+(c.fdiv 14).fmod 3=a at*
   generalize 1+(c.fdiv 42).fmod 3=b at*
   generalize 1+(c.fdiv 126).fmod 3=e at*
   simp[E,t,hq,p6,p7,p8,N8,OP,cU,J1,jL]
  .simp[E,t,hq]
 .generalize(T6 c).1=a at*
  generalize(T6 c).2.1=b at*
  generalize(T6 c).2.2=e at*
  obtain⟨⟨a0,a1⟩,⟨b0,b1⟩,⟨c0,c1⟩⟩:=hp
  haveI Ba:Bd a 40:=⟨l7 (by lia) (by lia)⟩
  haveI Bb:Bd b 40:=⟨l7 (by lia) (by lia)⟩
  haveI Be:Bd e 40:=⟨l7 (by lia) (by lia)⟩
  refine i9 (by simp[m7];rfl) ?_;by_cases T:c.fmod 7=0
  .rw[hV T];refine X1 ?_;have q:gE [.int 8]=.ok ((aBa 8).map λ(k:Nat)=>D.int (k:Int)):=YV (n:=8) (by decide);have m:((aBa 8).map λ(k:Nat)=>D.int (k:Int)).length<=sizeLine:=by rw[aAf,aCJ];decide
   have eb:(LD a b e).map vd=(aBa 8).map λ(k:Nat)=>vd ⟨(k:Int).fmod 2*a,((k:Int).fdiv 2).fmod 2*b,(k:Int).fdiv 4*e⟩:=aAV ..;rw[eb];simp only[T,M2,K8,R.aa0,E6,vZ,uZ,beq_self_eq_true,if_true,u0,x9,q];rw[pS m (Q1 (λ(k:Nat)=>D.int (k:Int)) (λ(k:Nat)=>vd ⟨(k:Int).fmod 2*a,((k:Int).fdiv 2).fmod 2*b,(k:Int).fdiv 4*e⟩) (aBa 8) λk s=>⟨[.v (.int (k:Int)),.v (.int a),.v (.int b),.v (.int e)],rfl,?_⟩)]
   .rfl
   .have I:=aBd.mp s;have U:N5 (.int (k:Int)) (.int 2)=.ok (.int ((k:Int).fdiv 2)):=B6 (by decide) (by decide);have d4:N5 (.int (k:Int)) (.int 4)=.ok (.int ((k:Int).fdiv 4)):=B6 (by decide) (by decide)
    haveI:Bd (((k:Int)).fmod 2) 3:=⟨u5 (by decide) (by decide)⟩
    haveI:Bd (((k:Int).fdiv 2).fmod 2) 3:=⟨u5 (by decide) (by decide)⟩
    haveI:Bd (((k:Int).fdiv 4)) 10:=⟨bits_fdiv (l7 (by lia) (by lia))⟩
    simp[t,U,d4,N8]
  .rw[h9 T];refine i9 (by simp[T];rfl) ?_;by_cases k1:c.fmod 7=1
   .rw[hV k1];refine X1 ?_;simp[k1,yH,CY,sizeLine]
   .rw[h9 k1];refine i9 (by simp[k1];rfl) ?_;by_cases k2:c.fmod 7=2
    .rw[hV k2];refine X1 ?_;have ad:∀x y:List D,x.length+y.length<=1000->qQ (.lst x) (.lst y)=.ok (.lst (x++y)):=λx y h=>jP (small h);simp[k2,yK,CY,sizeLine,NQ,j2,XE,ad]
    .rw[h9 k2];refine i9 (by simp[k2];rfl) ?_;by_cases u:c.fmod 7=3
     .rw[hV u];by_cases q3:(c.fdiv 6048).fmod 2=1
      .rw[hV q3];refine X1 ?_;obtain⟨n,en,C,_,et⟩:=ZS c;have q:=YV (n:=n) (aAl C (by decide));have m:=HB n (aAl C (by decide));have f4:qE (.int 4) (.int ((c.fdiv 378).fmod 3))=.ok (.int (4*(c.fdiv 378).fmod 3)):=l9 (x8.of (show bits 4<=10 by decide) (u5 (n:=10) (by decide) (by decide)));have eb:(YW n).map vd=(aBa n).map λ(k:Nat)=>vd ⟨(k:Int).fmod 4,(k:Int).fdiv 4,(k:Int).fmod 4*(k:Int).fmod 4+(k:Int).fdiv 4*(k:Int).fdiv 4⟩:=aAV ..;rw[et,eb];refine(GH (HW (D1 (iC u) rfl) (by simp-implicitDefEqProofs only[M2,K8,E6,R.aa0,d6,t,iC q3,CT]))).trans ?_;simp only[M2,K8,R.aa0,E6,u0,x9,r,Q,f4,fK];rw[en,q,R.aa0];rw[pS m (Q1 (λ(k:Nat)=>D.int (k:Int)) (λ(k:Nat)=>vd ⟨(k:Int).fmod 4,(k:Int).fdiv 4,(k:Int).fmod 4*(k:Int).fmod 4+(k:Int).fdiv 4*(k:Int).fdiv 4⟩) (aBa n) λk s=>⟨[.v (.int (k:Int))],rfl,?_⟩)]
       .rfl
       .have I:=aBd.mp s;have d4:N5 (.int (k:Int)) (.int 4)=.ok (.int ((k:Int).fdiv 4)):=B6 (by decide) (by decide);have b1:bits ((k:Int).fmod 4)<=3:=u5 (by decide) (by decide);have b2:bits ((k:Int).fdiv 4)<=10:=bits_fdiv (l7 (by lia) (by lia));have p1:=l9 (x8.of b1 b1);have p2:=l9 (x8.of b2 b2);simp-implicitDefEqProofs only[u0,x9,K8,E6,R.aa0,m4,d4,p1,p2,fK];rfl
      .rw[h9 q3];refine i9 (ρ:=[.v (.lst Y),.v (.int c),.v (.int a),.v (.int b),.v (.int e),.v (.int (c.fmod 7)),.no]) (nM (HW (D1 (iC u) rfl) (by simp-implicitDefEqProofs only[M2,K8,E6,R.aa0,d6,t,IK q3,CT]))) ?_;refine X1 ?_;obtain⟨n,en,C,_,et⟩:=HE c;have q:=YV (n:=n) (aAl C (by decide));have m:=HB n (aAl C (by decide));rw[et,VJ];simp only[u,M2,K8,R.aa0,E6,vZ,uZ,beq_self_eq_true,if_true,u0,x9,r,m16,fK];rw[en,q,R.aa0];rw[pS m (Q1 (λ(k:Nat)=>D.int (k:Int)) (λ(k:Nat)=>vd ⟨(k:Int),(k:Int)*(k:Int),0⟩) (aBa n) λk s=>⟨[.v (.int (k:Int))],rfl,?_⟩)]
       .rw[R.aa0];simp only[Z0,P4,R.aa0,a0y,a3g];rw[jP (small (by rw[aAf,aCJ];exact aAl (aEu C 1) (by decide)))];rfl
       .have I:=aBd.mp s
        haveI:Bd (k:Int) 10:=⟨l7 (by lia) (by lia)⟩
        simp[N8]
     .rw[h9 u];refine i9 (ρ:=[.v (.lst Y),.v (.int c),.v (.int a),.v (.int b),.v (.int e),.v (.int (c.fmod 7)),.no]) (nM<|gx<|D1 (IK u) rfl) ?_;refine i9 (by simp[u];rfl) ?_;refine i9 (ρ:=[.v (.lst Y),.v (.int c),.v (.int a),.v (.int b),.v (.int e),.v (.int (c.fmod 7)),.o ((jO a b e).map vd)]) ?_ ?_
      .simp[jO,show 4<=sizeLine by decide]
      .obtain⟨t1,t2,t3⟩:=tN hi;have sl:KF (.lst Y) (some 4) (some 9)=.ok (.lst ((Y.drop 4).take 5)):=QE Y 4 9 (by decide);rw[t1]at sl;simp only[K8,E6,R.aa0,a1j,sl,jX];refine jT (λrest ρ=>∃(B:List G.V) (p:List Int) (x:Sl),ρ=[.v (.lst Y),x,.v (.int a),.v (.int b),.v (.int e),.v (.int (c.fmod 7)),.o (B.map vd)]/\rest=p.map D.int/\(∀i∈p,bits i<=1048576)/\B.length+p.length<=9/\B++p.map (AJ c)=jO a b e++(gJ Y).map (AJ c)) ?_ ⟨jO a b e,gJ Y,_,rfl,rfl,t3,by simp[jO];lia,rfl⟩ ?_
       .rintro d ds ρ ⟨B,p,x,rfl,J,xi,m,e2⟩;match p,J with
        |i::p,J=>
         injection J with e3 e4;subst e3 e4;have hbi:=xi i (.head _);have hz:(B.map vd).length<sizeLine:=by rw[aAf];simp only[aAp]at m;exact aCR (show B.length<=1000 by lia) (by decide)
         have dd:∀k:Int,0<k->k<100->N5 (.int i) (.int k)=.ok (.int (i.fdiv k)):=λk h1 h2=>B6 h1 (by lia);have U:=dd 2 (by decide) (by decide);have E:=dd 7 (by decide) (by decide);have L:=dd 49 (by decide) (by decide);clear dd;have ap:∀v:G.V,CG 6 [.v (.lst Y),.v (.int i),.v (.int a),.v (.int b),.v (.int e),.v (.int (c.fmod 7)),.o (B.map vd)] (vd v)=.ok (.nx [.v (.lst Y),.v (.int i),.v (.int a),.v (.int b),.v (.int e),.v (.int (c.fmod 7)),.o ((B++[v]).map vd)]):=λv=>by show(if(B.map vd).length<sizeLine then _ else _)=_;rw[hV hz,aBA];rfl
         have gr:bF [.int (i.fdiv 2)]=.ok (vd<|cT<|i.fdiv 2):=hV (f6<|bits_fdiv hbi);refine⟨[.v (.lst Y),.v (.int i),.v (.int a),.v (.int b),.v (.int e),.v (.int (c.fmod 7)),.o ((B++[AJ c i]).map vd)],?_,B++[AJ c i],p,_,rfl,rfl,λj hj=>xi j (.tail _ hj),by simp at m⊢;lia,by rw[<-e2];simp⟩;rw[<-ap];unfold AJ;by_cases O:c.fmod 7=5
         .rw[hV (.inl O)];simp[O,U,gr]
         .by_cases k6:c.fmod 7=6
          .by_cases o2:i.fmod 2=1
           .rw[hV (.inr ⟨k6,o2⟩)];simp[k6,t,o2,U,gr]
           .rw[h9 (λz=>z.elim O λz=>o2 z.2)];simp[k6,t,o2,E,L,m7]
          .rw[h9 (λz=>z.elim O λz=>k6 z.1)];simp[O,k6,E,L,m7]
       .rintro ρ ⟨B,p,x,rfl,J,xi,m,e2⟩;have:p=[]:=by simpa using J.symm
        subst this;rw[aCh,aCs]at e2;rw[<-e2];simp[NQ]
def U1 (y7:y9 P w K mg base 1 "_law_cell_at" 2 C3)(g:gC K mg "_law_moved" bN):y9 P w K mg base 2 "_law_moved" 2 oI:=by
 refine' o8 (k:=1) (F:=_) g sK (λhr hu eh e=>?b) λds d hl h=>?_
 case b=>
  refine' (c5 (JC (c9 0)<|jW (n:=3) rfl<|B5 (t6 2 e)<|B5 (t6 3 e)<|B5 (t6 4 e) eU)
   (c5 (i8 5 (aJ y7 hr (c9 1) d5) e)
   (c5 (i8 6 (j5 (PD.pb<|qI<|j0 d5<|j0 (b9 F6 o7 o7) u8)<|b9 o9 (b8 5) o7) e)
   (c5 (i8 2 (b9 o6 (b8 2)<|PD.pb<|b9 j9 (PD.pb<|b9 o9 (PD.pb<|b9 p9 (b8 5) o7)<|b8 6)<|b8 3) e)
   (c5 (i8 3 (b9 u9 (b8 3)<|PD.pb<|b9 j9 (PD.pb<|b9 o9 (PD.pb<|b9 p9 (PD.pb<|b9 j9 (b8 5)<|b8 5) o7)<|b8 6)<|b8 4) e)
   (c5 (i8 4 (b9 o6 (b8 4)<|PD.pb<|b9 j9 (PD.pb<|b9 o9 (PD.pb<|b9 p9 (PD.pb<|b9 j9 (b8 5) o7) o7)<|b8 6)<|b8 2) e)
   (c5 (w5 (k9 (M4 hu) (PD.pb<|b9 o9 (PD.pb<|b9 p9 (b8 5) o7) o7) o7) (e9<|RW 2 4 rfl e<|j0 (c9 4)<|j0 (c9 2) u8) n6)
   (c5 (i8 7 (aJ y7 hr (c9 1) d5) e)
   (c5 (i8 6 (b9 o6 (PD.pb<|b9 j9 o7<|PD.pb<|b9 F6 o7 o7) o7) e)
   (c5 (i8 2 (b9 u9 (PD.pb<|b9 o6 (b8 2)<|PD.pb<|b9 o9 (PD.pb<|b9 o6 (PD.pb<|b9 j9 (b8 7) o7)<|PD.pb<|b9 F6 o7 o7)<|b8 6)<|PD.pb<|b9 F6 o7 o7) e)
   (c5 (i8 3 (b9 u9 (PD.pb<|b9 o6 (b8 3)<|PD.pb<|b9 o9 (PD.pb<|b9 o6 (PD.pb<|b9 j9 (PD.pb<|b9 j9 (b8 7)<|b8 7) o7)<|PD.pb<|b9 F6 o7 o7)<|b8 6)<|PD.pb<|b9 F6 o7 o7) e)
   (e9<|j3<|nE (c9 2) (c9 3)<|b9 u9 (PD.pb<|b9 o6 (b8 4)<|PD.pb<|b9 o9 (PD.pb<|b9 o6 (PD.pb<|b9 j9 (PD.pb<|b9 j9 (b8 7)<|b8 7)<|b8 7)<|PD.pb<|b9 F6 o7 o7)<|b8 6)<|PD.pb<|b9 F6 o7 o7))))))))))))
 match ds,h with
 |[.tup [.int a,.int b,.int c],.lst Y],h=>
  simp only[oI]at h;split at h
  .rename_i hz;obtain⟨hi,B⟩:=hz;rw[<-h];obtain⟨C,E⟩:=IJ hi 1 (by decide);obtain⟨H,h2⟩:=IJ hi 2 (by decide);have C:C3 [.lst Y,.int 1]=.ok (.int (cI Y 1)):=C;have H:C3 [.lst Y,.int 2]=.ok (.int (cI Y 2)):=H;generalize cI Y 1=k at*
   generalize cI Y 2=f at*
   obtain⟨I,ji,J⟩:=QH k
   haveI:Bd k 1048576:=⟨E⟩
   haveI:Bd f 1048576:=⟨h2⟩
   haveI:Bd a 100:=⟨B.1⟩
   haveI:Bd b 100:=⟨B.2.1⟩
   haveI:Bd c 100:=⟨B.2.2⟩
   have p6:sQ (.int 10) (.int 6)=.ok (.int 1000000):=rfl;have i:sQ (.int 10) (.int 20)=.ok (.int 100000000000000000000):=rfl;have L:∀x:Int,lI (.int x) (.int 2)=.ok (.int (x.fmod 2)):=λx=>S4 (by decide);have N:∀x:Int,lI (.int x) (.int (HH k))=.ok (.int (x.fmod<|HH k)):=λx=>S4 ji;have q:∀x:Int,Bd (x.fmod<|HH k) 20:=λx=>⟨u5 ji J⟩;have y:∀(x:Int) {j:Int},0<j->j<100->N5 (.int x) (.int j)=.ok (.int (x.fdiv j)):=λx j E h2=>B6 E (by lia);have d4:=λx=>y x (show(0:Int)<4 by decide) (by decide);have d2:=λx=>y x (show(0:Int)<2 by decide) (by decide);have O:=λx=>y x (show(0:Int)<16 by decide) (by decide);clear y;unfold gF;dsimp only
   haveI:=q (k.fdiv 4)
   haveI:=q ((k*k).fdiv 16)
   haveI:=q ((k*48611).fdiv 4)
   generalize HH k=Mk at*
   simp only[l6,aAi,aCh,aAG,aBD,aAp,aBg,aCE,aCF,aCN,aBz];refine i9 (by simp[OP,cU,J1,jL];rfl) ?_;refine i9 (by simp[C];rfl) ?_;refine i9 (by simp[p6,L,I];rfl) ?_;obtain⟨s,m⟩:∃s,(k.fdiv 4).fmod Mk=s:=⟨_,rfl⟩;obtain⟨z,Q⟩:∃z,((k*k).fdiv 16).fmod Mk=z:=⟨_,rfl⟩;obtain⟨A,o⟩:∃A,((k*48611).fdiv 4).fmod Mk=A:=⟨_,rfl⟩;rw[m,Q,o]
   haveI:Bd s 20:=m▸q _
   haveI:Bd z 20:=Q▸q _
   haveI:Bd A 20:=o▸q _
   obtain⟨l,p⟩:∃l,a+s*b=l:=⟨_,rfl⟩
   haveI:Bd l 300:=⟨by rw[<-p];exact f6 (Bd.h (a:=a+s*b))⟩
   obtain⟨T,t⟩:∃T,b-z*c=T:=⟨_,rfl⟩;obtain⟨r,u⟩:∃r,c+A*l=r:=⟨_,rfl⟩;rw[p,t,u];refine i9 (by simp[d4,N,N8,m,p];rfl) ?_;refine i9 (by simp[O,N,N8,Q,t];rfl) ?_;refine i9 (by simp[d4,N,N8,o,u];rfl) ?_;refine i9 (ρ:=[.v (.tup [.int a,.int b,.int c]),.v (.lst Y),.v (.int (if(k.fdiv 2).fmod 2=1 then r else l)),.v (.int T),.v (.int (if(k.fdiv 2).fmod 2=1 then l else r)),.v (.int k),.v (.int Mk),.no]) ?_ ?_
   .by_cases hq:(k.fdiv 2).fmod 2=1
    .simp[d2,L,hq,OP,cU,J1,jL]
    .simp[d2,L,hq]
   .generalize(if(k.fdiv 2).fmod 2=1 then r else l)=x2;generalize(if(k.fdiv 2).fmod 2=1 then l else r)=z2;have eM:(2:Int)*100000000000000000000+1=UO:=rfl;have U:∀x:Int,lI (.int x) (.int UO)=.ok (.int (x.fmod UO)):=λx=>S4 (by decide);have eT:(100000000000000000000:Int)=GX:=rfl;refine i9 (by simp[H];rfl) ?_;refine i9 (by simp only[E6,R.aa0,i,N8 (show(2:Nat)<=60000000 by decide) (show(67:Nat)<=60000000 by decide),fK,eM,aBR,aBS];rfl) ?_;refine i9 (by rw[<-eT]at*;simp[i,U,N8];rfl) ?_;refine i9 (by rw[<-eT]at*;simp[i,U,N8];rfl) ?_;rw[<-eT];simp[i,U,N8]
  .cases h
def aH (g:gC K mg "_law_height" aE):y9 P w K mg base 1 "_law_height" 2 fO:=by
 refine' o8 (k:=0) (F:=_) g qR (λq r s t=>?b) λj d u h=>?_
 case b=>refine' (e9<|j3<|b9 u9 (PD.pb<|b9 o6 (PD.pb<|b9 o6 (PD.pb<|b9 j9 (PD.pb<|j5 (b8 0) d5)<|PD.pb<|j5 (b8 1) d5)<|PD.pb<|b9 j9 (PD.pb<|j5 (b8 0) d5)<|PD.pb<|j5 (b8 1) d5)<|PD.pb<|b9 j9 (PD.pb<|j5 (b8 0) d5)<|PD.pb<|j5 (b8 1) d5)<|PD.pb<|j5 (b8 0) d5)
 replace h:=QV h;obtain⟨a,b,c,e,j,rfl,h⟩:=h;replace h:=F3 h;obtain⟨x,y,z,j,rfl,h⟩:=h;replace h:=A6 h;obtain⟨rfl,h⟩:=h;replace h:=fB h;obtain⟨⟨f,i⟩,rfl⟩:=h;have l:qE (.int a) (.int x)=.ok (.int (a*x)):=l9 (x8.of f.1 i.1);have m:qE (.int b) (.int y)=.ok (.int (b*y)):=l9 (x8.of f.2.1 i.2.1);have n:qE (.int c) (.int z)=.ok (.int (c*z)):=l9 (x8.of f.2.2 i.2.2);have o:P6 (.tup [.int a,.int b,.int c,.int e]) (.int 0)=.ok (.int a)/\P6 (.tup [.int a,.int b,.int c,.int e]) (.int 1)=.ok (.int b)/\P6 (.tup [.int a,.int b,.int c,.int e]) (.int 2)=.ok (.int c)/\P6 (.tup [.int a,.int b,.int c,.int e]) (.int 3)=.ok (.int e):=⟨rfl,rfl,rfl,rfl⟩;have p:P6 (.tup [.int x,.int y,.int z]) (.int 0)=.ok (.int x)/\P6 (.tup [.int x,.int y,.int z]) (.int 1)=.ok (.int y)/\P6 (.tup [.int x,.int y,.int z]) (.int 2)=.ok (.int z):=⟨rfl,rfl,rfl⟩;simp only[l6,aAi,aCh,aAG,aBD,aAp,aBg,aCE,aCF,aBz];simp-implicitDefEqProofs only[M2,K8,E6,R.aa0,o,p,l,m,n,fK,Z1];rfl
def Y5 (a:mg "int"=none)(g:gC K mg "_law_sign" cQ):y9 P w K mg base 1 "_law_sign" 1 oO:=by
 refine' o8 (k:=0) (F:=_) g wP (λj l m n=>?b) λi d o h=>?_
 case b=>refine' (e9<|j3<|b9 u9 (PD.pb<|aY MT<|A4 (PD.pb<|rJ yZ (b8 0) o7) G8)<|PD.pb<|aY MT<|A4 (PD.pb<|rJ AI (b8 0) o7) G8)
 replace h:=W8 h;obtain⟨x,i,rfl,h⟩:=h;replace h:=A6 h;obtain⟨rfl,h⟩:=h;rw[<-h];unfold sgn;simp[l6];by_cases e:0<x
 .simp[e,show¬x<0 by lia]
 .by_cases f:x<0
  .simp[e,f]
  .simp[e,f]
def cF (y7:y9 P w K mg base 1 "_law_cell_at" 2 C3)(g:gC K mg "_law_times" cK):y9 P w K mg base 2 "_law_times" 1 qV:=by
 refine' o8 (k:=1) (F:=_) g sT (λn o y m=>?b) λp d A h=>?_
 case b=>
  refine' (c5 (i8 1 (aJ y7 n (c9 0) d5) m)
   (c5 (i8 2 (j5 (PD.pb<|qI<|j0 (b9 u9 (PD.pb<|b9 o9 (PD.pb<|b9 p9 (b8 1) o7) o7) o7)<|j0 (b9 o9 (PD.pb<|b9 p9 (b8 1) o7)<|PD.pb<|b9 F6 o7 o7)<|j0 (b9 u9 o7<|PD.pb<|b9 o9 (PD.pb<|b9 p9 (b8 1) o7) o7) u8)<|b9 o9 (b8 1) o7) m)
   (c5 (w5 (k9 (M4 o) (b8 2) o7) (e9<|j3 d5) n6)
   (e9<|j3<|c9 2))))
 replace h:=eG h;obtain⟨Y,p,rfl,h⟩:=h;replace h:=A6 h;obtain⟨rfl,h⟩:=h;replace h:=fB h;obtain⟨q,rfl⟩:=h;obtain⟨j,_⟩:=IJ q 3 (by decide);have j:C3 [.lst Y,.int 3]=.ok (.int (cI Y 3)):=j;generalize cI Y 3=c at*
 have r:N5 (.int c) (.int 3)=.ok (.int (c.fdiv 3)):=B6 (by decide) (by decide);have f:∀(x:Int) {k:Int},0<k->lI (.int x) (.int k)=.ok (.int (x.fmod k)):=λx k s=>S4 s;have t:sQ (.int 10) (.int 6)=.ok (.int 1000000):=rfl;have u:P6 (.lst [.int ((c.fdiv 3).fmod 19-9),.int ((c.fdiv 3).fmod 1000000),.int (0-(c.fdiv 3).fmod 7)]) (.int (c.fmod 3))=.ok (.int (gz c)):=by
  have h:=B8 (a:=c) (b:=3) (by decide);unfold gz;by_cases i:c.fmod 3=0
  .rw[hV i,i];rfl
  .by_cases l:c.fmod 3=1
   .rw[h9 i,hV l,l];rfl
   .rw[h9 i,h9 l,show c.fmod 3=2 by lia];rfl
 unfold ZJ;have l3:∀a b e:D,CY [a,b,e]=.ok (.lst [a,b,e]):=λ_ _ _=>rfl;simp only[l6,aAi,aCh,aAG,aBD,aAp,aBg,aCE,aCF,aCN,aBz];refine i9 (ρ:=[.v (.lst Y),.v (.int c),.no]) (D1 j rfl) ?_;refine i9 (by simp-implicitDefEqProofs only[u0,x9,M2,K8,E6,R.aa0,r,f _ (show(0:Int)<19 by decide),f _ (show(0:Int)<1000000 by decide),f _ (show(0:Int)<7 by decide),f _ (show(0:Int)<3 by decide),t,Z1,l3,u,aBR,aBS];rfl) ?_;by_cases z:gz c=0
 .rw[hV z];exact X1 (GH<|D1 (iC z) rfl)
 .rw[h9 z];exact i9 (nM<|D1 (IK z) rfl) rfl
def Y0 (C5:y9 P w K mg base 10 "rooms_seen" 2 bY)(M0:y9 P w K mg base 9 "faces_of" 1 M1)(D9:y9 P w K mg base 11 "sixfold_room" 1 qA)(Y5:y9 P w K mg base 1 "_law_sign" 1 oO)(aH:y9 P w K mg base 1 "_law_height" 2 fO)(jc:mg "list"=none)(je:mg "sum"=none)(eu:mg "len"=none)(gm:mg "range"=none)(g:gC K mg "_law_seen" Y6):y9 P w K mg base 12 "_law_seen" 2 xX:=by
 refine' o8 (k:=11) (F:=_) g wN (λj n eh o=>?b) λt d hl h=>?_
 case b=>
  refine' (c5 (i8 2 (aJ C5 j (aY yI<|A4 (b8 0) G8)<|c9 1) o)
   (c5 (AA 3 ["face"] [] [] o rfl (L0 (sc:=c8 Y6) (N:=nH)) (w6<|nZ M0 j<|aY yI<|A4 (b8 0) G8) (MI λ_ _ _ _ _=>(j5 (b8 0) d5))<|λ_=>v7)
   (c5 (w5 (CU.pt<|kS (k9 (jQ n) (PD.pb<|yV eJ<|b8 2)<|PD.pb<|yV eJ<|b8 3)<|kI<|k9 (jQ n) (PD.pb<|yV (iV rfl)<|b8 2)<|PD.pb<|nZ D9 j<|aY yI<|A4 (b8 0) G8) (e9<|j3 iN) n6)
   (c5 (Y4 aBX rfl (aL<|A4 (PD.pb<|yV eJ<|b8 2) G8) (t6 4 o)<|e9<|w5 (k9 (jQ n) (PD.pb<|nZ Y5 j<|j5 (b8 2)<|c9 4)<|PD.pb<|b9 u9 o7<|PD.pb<|nZ Y5 j<|aJ aH j (j5 (b8 3)<|c9 4)<|c9 1) (e9<|j3 iN) n6)
   (e9<|j3<|c9 2)))))
 replace h:=wJ h;obtain⟨l,t,rfl,h⟩:=h;replace h:=F3 h;obtain⟨x,y,z,t,rfl,h⟩:=h;replace h:=A6 h;obtain⟨rfl,h⟩:=h;replace h:=fB h;obtain⟨⟨B,p⟩,rfl⟩:=h;obtain⟨V,q⟩:∃V:G.V,V=⟨x,y,z⟩:=⟨_,rfl⟩;have L:(.tup [.int x,.int y,.int z]:D)=vd V:=by rw[q]
 rw[L,<-q];rw[<-q]at p;have O:=kG B.lok p;have u:=pL B.sz B.sol B.lok.2.2;rw[B.self]at u;have r:l≠[]:=λz=>by obtain⟨A,C,_⟩:=B.sol;rw[z]at C;cases C
 have SI:=OD B.lok r;rw[bI B.lok (l.getD 0 0) V]at SI;have E:f7 l V=(i5 l).map λf=>F1 (G.c7 l f) V:=by unfold f7;rw[B.self]
 have few:=B.few;have Q:=iR (f7 l V);simp only[l6,aAi,aCh,aAG,aBD,aAp,aBg,aCE,aCF,aCN,aBz];refine i9 (ρ:=[.v (.lst (l.map vd)),.v (vd V),.v (.lst ((f7 l V).map D.int)),.no,.no]) (D1 (D1 (vJ rfl rfl) O) rfl) ?_;refine i9 (ρ:=[.v (.lst (l.map vd)),.v (vd V),.v (.lst ((f7 l V).map D.int)),.v (.lst ((i5 l).map UP)),.no]) ?_ ?_
 .refine D1 (x:=.lst ((i5 l).map UP)) (D1 (D1 (D1 (W3 rfl) u)<|V8 _) ?_) rfl;rw[fQ (n4 l) UP id (i5 l) (by lia) λf H=>⟨[.v (n4 l f)],rfl,rfl⟩,List.map_id]
 have I:vX [.lst ((f7 l V).map D.int)]=.ok (.int (i5 l).length):=by rw[PP,E,aAf]
 have T:=PP UP (i5 l);have U:gE [.int ((i5 l).length:Int)]=.ok (nJ 0 (i5 l).length):=a0l (by lia);refine i9 (ρ:=[.v (.lst (l.map vd)),.v (vd V),.v (.lst ((f7 l V).map D.int)),.v (.lst ((i5 l).map UP)),.no]) (nM<|II (D1 (D1 I<|D1 T<|GP _) rfl)<|D1 (D1 Q<|D1 (D1 (W3 rfl) SI)<|GP _) rfl) ?_;refine MX (D1 (W3 I) U) ?_;refine VQ (λi ρ=>∃a,ρ=[.v (.lst (l.map vd)),.v (vd V),.v (.lst ((f7 l V).map D.int)),.v (.lst ((i5 l).map UP)),a]) ?_ ⟨_,rfl⟩ ?_
 .rintro i _ s ρ ⟨a,rfl⟩;have s:i<(i5 l).length:=by lia
  have H:=aCj s;have F:=(B.aa5.1 _).mp H;have J:=aAh s;generalize(i5 l)[i]=f at*
  have at_:∀{α:Type} {g:α->D} {m:List α} {y:α},m[i]?=some y->P6 (.lst (m.map g)) (.int (i:Int))=.ok (g y):=λ{α g m y} e=>gM (by rw[bP (by lia),aBP,aAK,e];rfl);have Y:P6 (.lst ((f7 l V).map D.int)) (.int (i:Int))=.ok (.int (F1 (G.c7 l f) V)):=at_ (by rw[E,aAK,J];rfl);have i2:P6 (.lst ((i5 l).map UP)) (.int (i:Int))=.ok (rW f.1 f.2):=at_ J;have LH:=FJ (f:=f) (V:=V) (YT B.sz (by rw[B.self];exact F)).mono p;have NE:=GP (0-sgn (G.dot f.1 V-f.2));have ls:∀x:Int,oO [.int x]=.ok (.int (sgn x)):=λ_=>rfl;refine a5a (ρ':=[.v (.lst (l.map vd)),.v (vd V),.v (.lst ((f7 l V).map D.int)),.v (.lst ((i5 l).map UP)),.v (.int (i:Int))]) rfl ⟨_,nM ?_,_,rfl⟩;simp-implicitDefEqProofs only[u0,x9,M2,K8,Z0,P4,E6,R.aa0,Y,i2,LH,ls,RJ B F,Z1,NE,CT]
 .rintro ρ ⟨a,rfl⟩;rfl
section
seal PySem.eval
def o_law {f:bb}{fd:dn}(fD:y9 P w K mg base 2 "_law_near" 1 wF)(V7:y9 P w K mg base 10 "body_of" 1 J9)(U1:y9 P w K mg base 2 "_law_moved" 2 oI)(N6:y9 P w K mg base 1 "_law_great" 1 bF)(Y0:y9 P w K mg base 12 "_law_seen" 2 xX)(cF:y9 P w K mg base 2 "_law_times" 1 qV)(C5:y9 P w K mg base 10 "rooms_seen" 2 bY)(D9:y9 P w K mg base 11 "sixfold_room" 1 qA)(je:mg "sum"=none)(bh:mg "sorted"=none)(qr:mg "abs"=none)(qt:mg "min"=none)(F0:Fun K "law" "law" aN f fd):FnOk P w K mg base vU 13 f fd ["script"] (spD K 1 oF):=by
 refine' fnD (k:=12) (F:=_) F0 OO (λT A outer s H E e=>?b) λds d hl h=>?_
 case b=>
  have O:=e.units;have eh:=e.ae6;have uh:=e.ae2 (by decide);have g:=OO.nd;refine' (c5 (i8 1 (nZ fD e<|c9 0) g)
   (c5 (i8 2 (nZ V7 e<|c9 1) g)
   (c5 (i8 3 (nZ V7 e<|G6 ["spot"] ["script"] [0] rfl (L0 (sc:=c8 aN) (N:=CO)) (w6<|c9 1) (MI λ_ _ _ _ _=>(aJ U1 e (c9 0)<|c9 1))<|λ_=>v7) g)
   (c5 (i8 4 (yV (iV rfl)<|PD.pb<|pD (b8 0) (O5 d5)<|O5 d5) g)
   (c5 (i8 5 (nE (b9 u9 (PD.pb<|b9 o9 (b8 4) o7) o7) (b9 u9 (PD.pb<|b9 o9 (PD.pb<|b9 p9 (b8 4) o7) o7) o7)<|b9 u9 (PD.pb<|b9 o9 (PD.pb<|b9 p9 (b8 4) o7) o7) o7) g)
   (c5 (w5 (k9 (M4 O) (PD.pb<|b9 o9 (PD.pb<|b9 p9 (b8 4) o7) o7) o7) (e9<|i8 5 (nZ N6 e<|b9 p9 (b8 4) o7) g) n6)
   (c5 (i8 6 (aJ Y0 e (c9 2)<|c9 5) g)
   (c5 (i8 7 (aJ Y0 e (c9 3)<|aJ U1 e (c9 5)<|c9 0) g)
   (c5 (w5 (CU.pt<|kS (k9 vY (b8 6)<|PD.pb iN)<|kS (k9 vY (b8 7)<|PD.pb iN)<|kI<|k9 (jQ O) (PD.pb<|PF.pd<|bT (b8 6) rfl uh)<|PD.pb<|PF.pd<|bT (b8 7) rfl uh) (e9<|j3 HY) n6)
   (c5 (i8 8 (yV (iV rfl)<|b8 6) g)
   (c5 (i8 9 (nZ cF e<|c9 0) g)
   (c5 (i8 10 (nZ V7 e (G6 ["x", "y", "z"] ["times"] [9] rfl (L0 (sc:=c8 aN) (N:=CO)) (w6<|c9 2) (by rintro pins fp X2 ⟨s0,H1,C,rfl⟩;exact⟨(jW (n:=3) rfl (B5 (t6 0 (show(["x", "y", "z", "times"]:List Str).Nodup by decide+kernel)) (B5 (t6 1 (show(["x", "y", "z", "times"]:List Str).Nodup by decide+kernel)) (B5 (t6 2 (show(["x", "y", "z", "times"]:List Str).Nodup by decide+kernel)) eU)))),yN,(nE (b9 j9 (b8 0)<|b8 3) (b9 j9 (b8 1)<|b8 3)<|b9 j9 (b8 2)<|b8 3)⟩)<|λ_=>GA)) g)
   (c5 (i8 11 (b9 j9 (PD.pb<|b9 j9 (PD.pb<|yV NY<|b8 9)<|b8 9)<|b8 9) g)
   (c5 (i8 12 (aJ C5 e (c9 10)<|nE (b9 j9 (PD.pb<|j5 (b8 5) d5)<|b8 9) (b9 j9 (PD.pb<|j5 (b8 5) d5)<|b8 9)<|b9 j9 (PD.pb<|j5 (b8 5) d5)<|b8 9) g)
   (c5 (w5 (CU.pt<|kS (k9 (jQ O) (PD.pb<|PF.pd<|bT (b8 12) rfl uh)<|PD.pb<|PF.pd<|bT (PD.pb<|G6 ["part"] ["by"] [11] rfl (L0 (sc:=c8 aN) (N:=CO)) (w6<|c9 6) (MI λ_ _ _ _ _=>(b9 j9 (b8 0)<|b8 1))<|λ_=>v7) rfl uh)<|kI<|k9 (jQ O) (PD.pb<|nZ D9 e<|c9 10)<|PD.pb<|b9 j9 (b8 8)<|b8 11) (e9<|j3 HY) n6)
   (c5 (w5 (k9 a2b (PD.pb<|oV (WG rfl)<|A4 (b8 6) G8) o7) (e9<|j3 HY) n6)
   (c5 (i8 13 (nZ V7 e<|b9 o6 (b8 2)<|PD.pb<|qI<|j0 (c9 5) u8) g)
   (c5 (i8 14 (b9 u9 (b8 8)<|PD.pb<|yV (iV rfl)<|PD.pb<|G6 ["part"] [] [] rfl (L0 (sc:=c8 aN) (N:=CO)) (w6<|c9 6) (hxt λ_ _ _ _ _=>⟨(k9 AI (b8 0) o7),(c9 0)⟩)<|λ_=>v7) g)
   (e9<|j3<|pj (rJ (M4 O) (PD.pb<|nZ D9 e<|c9 13)<|b8 14)<|jq<|rJ (M4 O) (PD.pb<|yV (iV rfl)<|PD.pb<|aJ C5 e (c9 13)<|j5 (b8 2) d5)<|b8 14)))))))))))))))))))
 replace h:=eG h;obtain⟨Y,ds,rfl,h⟩:=h;replace h:=A6 h;obtain⟨rfl,h⟩:=h;replace h:=fB h;obtain⟨⟨hl,U⟩,rfl⟩:=h;have NR:wF [.lst Y]=.ok (.lst ((cV (cI Y 0)<|gJ Y).map vd)):=bX U;have TI:qV [.lst Y]=.ok (.int (ZJ<|cI Y 3)):=bX U;obtain⟨tz,r⟩:=nj (cI Y 3);obtain⟨z1,z2,z3⟩:=SL (cI Y 0) (tN U).2.1;have MV:∀P,Sz 100 P->oI [vd P,.lst Y]=.ok (vd<|gF (cI Y 1) (cI Y 2) P):=λP hP=>hV ⟨U,hP⟩;obtain⟨ns,en,bn⟩:=SH U (l:=(Y.drop 9).take (63-9)) λd hd=>aDH (aEs hd);have sl:KF (.lst Y) (some 9) (some 63)=.ok (.lst ((Y.drop 9).take (63-9))):=QE Y 9 63 (by decide);rw[en]at sl;have nl:ns.length<=63:=by
  have:=ip aGg en;rw[aAf,aBN,aDi]at this
  lia
 have bc:bits ns.sum<=2000000:=C8 (oC bn) (aAl (aEK nl _) (by decide));have sc:=iR ns;have GR:bF [.int (ns.sum.fdiv 10985)]=.ok (vd<|cT<|ns.sum.fdiv 10985):=hV (bits_fdiv bc);have I:=TL ns.sum;have dv:∀{w:Int},0<w->w<1000000000000000->N5 (.int ns.sum) (.int w)=.ok (.int (ns.sum.fdiv w)):=λw0 w1=>B6 w0 w1;have d1:=dv (w:=13) (by decide) (by decide);have d2:=dv (w:=169) (by decide) (by decide);have d3:=dv (w:=2197) (by decide) (by decide);have d4:=dv (w:=10985) (by decide) (by decide);have m13:∀x:Int,lI (.int x) (.int 13)=.ok (.int (x.fmod 13)):=λx=>S4 (by decide);have m5:∀x:Int,lI (.int x) (.int 5)=.ok (.int (x.fmod 5)):=λx=>S4 (by decide);generalize cV (cI Y 0) (gJ Y)=j at*
 generalize ns.sum=c at*
 obtain⟨L,F,BO,BF,B,B2,PM,sL,len⟩:=iq (cI Y 1) (cI Y 2) z1 z2 z3 (Y3 c);have sM:=TF (cI Y 1) (cI Y 2) (I.mono (n:=100));have S1:=BJ B (I.mono (n:=5000));have S2:=BJ B2 (sM.mono (n:=5000));have o1:=IE (aAl (fL B<|Y3 c) (by decide));have o2:=IE (aAl (fL B2<|gF (cI Y 1) (cI Y 2)<|Y3 c) (by decide));rw[<-tT PM]at o2;have MW:=MV (Y3 c) I.mono;obtain⟨rb,sb⟩:=GD B (I.mono (n:=5000));have pn:f7 L (Y3 c)≠[]:=λz=>by have:=LL B.lok (Y3 c);rw[z]at this;cases this
 have mi:=dz pn;have sm:=iR (f7 L<|Y3 c);have rl:=fL B (Y3 c);have lne:0<L.length:=Nat.pos_of_ne_zero λz=>ZW B (aDj z);have i0:P6 (.lst (L.map vd)) (.int 0)=.ok (vd<|L.getD 0 0):=rC (i:=0) (getD_at lne);obtain⟨M,gs,BM,RM,PG,SM,gl⟩:=XQ B sL tz r I;obtain⟨N,ms,BN,RN,SN,en⟩:=zj B len I (fV lne);have o3:=IE (aAl gl (by decide));have o4:=IE (ns:=(f7 L<|Y3 c).map λx=>x*yW (ZJ<|cI Y 3)) (by rw[aAf];lia);rw[<-tT PG]at o4;generalize ZJ (cI Y 3)=t at*
 have ab:bits (if t<0 then-t else t)<=30:=by
  split
  .exact bits_neg r
  .exact r
 have q1:=l9 (x8.of ab r);have q2:=l9 (x8.of (bits_mul ab r) r);have by_:bits (yW t)<=90:=bits_mul (bits_mul ab r) r;have q3:=l9 (x8.of sb by_);have q4:∀x∈f7 L (Y3 c),qE (.int x) (.int (yW t))=.ok (.int (x*yW t)):=λx hx=>l9 (x8.of (rb x hx) by_);have Q:∀{y:Int},bits y<=100->qE (.int y) (.int t)=.ok (.int (t*y)):=λhy=>by rw[aEU];exact l9 (x8.of hy r)
 have J:=I.mono (n:=100);have sp:Y3 c=if(c.fdiv 2197).fmod 5=1 then cT (c.fdiv 10985)else⟨c.fmod 13-6,(c.fdiv 13).fmod 13-6,(c.fdiv 169).fmod 13-6⟩:=rfl
 generalize Y3 c=V at*
 generalize gF (cI Y 1) (cI Y 2) V=W at*
 simp only[l6,aAi,aCh,aAG,aBD,aAp,aBg,aCE,aCF,aCN,aBz];refine i9 (ρ:=[.v (.lst Y),.v (.lst (j.map vd)),.no,.no,.no,.no,.no,.no,.no,.no,.no,.no,.no,.no,.no]) (D1 (D1 (W3 rfl) NR) rfl) ?_;refine i9 (ρ:=[.v (.lst Y),.v (.lst (j.map vd)),.v (.lst (L.map vd)),.no,.no,.no,.no,.no,.no,.no,.no,.no,.no,.no,.no]) (D1 (D1 (W3 rfl) BO) rfl) ?_;refine i9 (ρ:=[.v (.lst Y),.v (.lst (j.map vd)),.v (.lst (L.map vd)),.v (.lst (F.map vd)),.no,.no,.no,.no,.no,.no,.no,.no,.no,.no,.no]) ?_ ?_
 .simp-implicitDefEqProofs only[u0,x9,Z0,P4,R.aa0,V8];rw[fQ vd vd (gF (cI Y 1)<|cI Y 2) j (by lia) λP hP=>⟨[.v (vd P),.v (.lst Y)],rfl,D1 (vJ rfl rfl) (MV P<|z1 P hP)⟩];exact D1 BF rfl
 refine i9 (ρ:=[.v (.lst Y),.v (.lst (j.map vd)),.v (.lst (L.map vd)),.v (.lst (F.map vd)),.v (.int c),.no,.no,.no,.no,.no,.no,.no,.no,.no,.no]) (by have t9:toI (.int 9)=.ok (some 9):=rfl;have t63:toI (.int 63)=.ok (some 63):=rfl;simp-implicitDefEqProofs only[u0,x9,K8,E6,R.aa0,t9,t63,sl,sc,aBR,aBS]) ?_
 generalize D.lst Y=m at*
 generalize D.lst (j.map vd)=o at*
 generalize D.lst (F.map vd)=p at*
 refine i9 (ρ:=[.v m,.v o,.v (.lst (L.map vd)),.v p,.v (.int c),.v (vd ⟨c.fmod 13-6,(c.fdiv 13).fmod 13-6,(c.fdiv 169).fmod 13-6⟩),.no,.no,.no,.no,.no,.no,.no,.no,.no]) (by simp-implicitDefEqProofs only[M2,K8,E6,R.aa0,d1,d2,m13,Z1,u0,x9];rfl) ?_
 refine i9 (ρ:=[.v m,.v o,.v (.lst (L.map vd)),.v p,.v (.int c),.v (vd V),.no,.no,.no,.no,.no,.no,.no,.no,.no]) ?_ ?_
 .by_cases q:(c.fdiv 2197).fmod 5=1
  .rw[sp,hV q];simp-implicitDefEqProofs only[M2,K8,E6,R.aa0,d3,d4,m5,iC q,CT,if_true,u0,x9,GR];rfl
  .rw[sp,h9 q];simp-implicitDefEqProofs only[M2,K8,E6,R.aa0,d3,m5,IK q,CT,aAu,if_false]
 refine i9 (ρ:=[.v m,.v o,.v (.lst (L.map vd)),.v p,.v (.int c),.v (vd V),.v (.lst ((f7 L V).map D.int)),.no,.no,.no,.no,.no,.no,.no,.no]) (D1 (D1 (vJ rfl rfl) S1) rfl) ?_;refine i9 (ρ:=[.v m,.v o,.v (.lst (L.map vd)),.v p,.v (.int c),.v (vd V),.v (.lst ((f7 L V).map D.int)),.v (.lst ((f7 F W).map D.int)),.no,.no,.no,.no,.no,.no,.no]) (D1 (D1 (vJ rfl<|D1 (vJ rfl rfl) MW) S2) rfl) ?_;refine i9 (ρ:=[.v m,.v o,.v (.lst (L.map vd)),.v p,.v (.int c),.v (vd V),.v (.lst ((f7 L V).map D.int)),.v (.lst ((f7 F W).map D.int)),.no,.no,.no,.no,.no,.no,.no]) (nM<|II rfl<|II rfl<|D1 (D1 (D1 o1 rfl)<|D1 (D1 o2 rfl)<|wT<|CM _) rfl) ?_;generalize D.lst ((f7 F W).map D.int)=u;refine i9 (ρ:=[.v m,.v o,.v (.lst (L.map vd)),.v p,.v (.int c),.v (vd V),.v (.lst ((f7 L V).map D.int)),.v u,.v (.int (f7 L V).sum),.no,.no,.no,.no,.no,.no]) (D1 (D1 (W3 rfl) sm) rfl) ?_;refine i9 (ρ:=[.v m,.v o,.v (.lst (L.map vd)),.v p,.v (.int c),.v (vd V),.v (.lst ((f7 L V).map D.int)),.v u,.v (.int (f7 L V).sum),.v (.int t),.no,.no,.no,.no,.no]) (D1 (D1 (W3 rfl) TI) rfl) ?_;refine i9 (ρ:=[.v m,.v o,.v (.lst (L.map vd)),.v p,.v (.int c),.v (vd V),.v (.lst ((f7 L V).map D.int)),.v u,.v (.int (f7 L V).sum),.v (.int t),.v (.lst (M.map vd)),.no,.no,.no,.no]) ?_ ?_
 .simp-implicitDefEqProofs only[u0,x9,Z0,P4,R.aa0,V8];rw[fQ vd vd (G.bA t) L (by lia) λX hX=>⟨[.v (.int X.x),.v (.int X.y),.v (.int X.z),.v (.int t)],rfl,?_⟩]
  .exact D1 BM rfl
  .have sX:=sL X hX;simp-implicitDefEqProofs only[u0,x9,M2,K8,R.aa0,Q sX.1,Q sX.2.1,Q sX.2.2];rfl
 refine i9 (ρ:=[.v m,.v o,.v (.lst (L.map vd)),.v p,.v (.int c),.v (vd V),.v (.lst ((f7 L V).map D.int)),.v u,.v (.int (f7 L V).sum),.v (.int t),.v (.lst (M.map vd)),.v (.int (yW t)),.no,.no,.no]) (by simp-implicitDefEqProofs only[u0,x9,M2,K8,R.aa0,SC,q1,q2];rfl) ?_
 refine i9 (ρ:=[.v m,.v o,.v (.lst (L.map vd)),.v p,.v (.int c),.v (vd V),.v (.lst ((f7 L V).map D.int)),.v u,.v (.int (f7 L V).sum),.v (.int t),.v (.lst (M.map vd)),.v (.int (yW t)),.v (.lst (gs.map D.int)),.no,.no]) (by have kv:P6 (vd V) (.int 0)=.ok (.int V.x)/\P6 (vd V) (.int 1)=.ok (.int V.y)/\P6 (vd V) (.int 2)=.ok (.int V.z):=⟨rfl,rfl,rfl⟩;simp-implicitDefEqProofs only[u0,x9,M2,K8,Z0,P4,E6,R.aa0,kv,Q J.1,Q J.2.1,Q J.2.2];exact D1 (D1 (x:=[.lst (M.map vd),vd (G.bA t V)]) rfl RM) rfl) ?_
 generalize D.lst (M.map vd)=dM at*
 generalize D.lst (gs.map D.int)=dg at*
 refine i9 (ρ:=[.v m,.v o,.v (.lst (L.map vd)),.v p,.v (.int c),.v (vd V),.v (.lst ((f7 L V).map D.int)),.v u,.v (.int (f7 L V).sum),.v (.int t),.v dM,.v (.int (yW t)),.v dg,.no,.no]) ?_ ?_
 .refine nM (II (D1 (D1 (D1 o3 rfl)<|D1 (D1 (D1 (x:=.lst (((f7 L V).map λx=>x*yW t).map D.int)) ?_ o4) rfl)<|wT<|CM _) rfl)<|D1 (D1 (D1 (W3 rfl) SM)<|D1 (D1 rfl<|D1 rfl q3)<|GP _) rfl);refine D1 (D1 rfl<|V8 _) ?_;rw[fQ D.int D.int (λx=>x*yW t) (f7 L V) (by lia) λx hx=>⟨[.v (.int x),.v (.int (yW t))],rfl,D1 rfl (D1 rfl<|q4 x hx)⟩]
 by_cases z:0<=FA (f7 L V)
 .exact X1 (GH (D1 (D1 (D1 (W3 rfl) mi) ((OG _ _).trans (by rw[decide_eq_true z]))) rfl))
 refine i9 (ρ:=[.v m,.v o,.v (.lst (L.map vd)),.v p,.v (.int c),.v (vd V),.v (.lst ((f7 L V).map D.int)),.v u,.v (.int (f7 L V).sum),.v (.int t),.v dM,.v (.int (yW t)),.v dg,.no,.no]) (nM (D1 (D1 (D1 (W3 rfl) mi) ((OG _ _).trans (by rw[decide_eq_false z]))) rfl)) ?_;have ap:qQ (.lst (L.map vd)) (.lst [vd V])=.ok (.lst ((L++[V]).map vd)):=by rw[jP (small (by rw[aAf];exact aAl (aEu len 1) (by decide))),aBA];rfl
 have sf:=iR ((f7 L V).filter λx=>decide (x<0));have s2:=iR ms;rw[en]at s2;refine i9 (ρ:=[.v m,.v o,.v (.lst (L.map vd)),.v p,.v (.int c),.v (vd V),.v (.lst ((f7 L V).map D.int)),.v u,.v (.int (f7 L V).sum),.v (.int t),.v dM,.v (.int (yW t)),.v dg,.v (.lst (N.map vd)),.no]) (D1 (D1 (W3<|D1 rfl<|D1 (D1 (W3 rfl) rfl) ap) BN) rfl) ?_;refine i9 (ρ:=[.v m,.v o,.v (.lst (L.map vd)),.v p,.v (.int c),.v (vd V),.v (.lst ((f7 L V).map D.int)),.v u,.v (.int (f7 L V).sum),.v (.int t),.v dM,.v (.int (yW t)),.v dg,.v (.lst (N.map vd)),.v (.int ((f7 L V).sum-((f7 L V).filter λx=>decide (x<0)).sum))]) ?_ ?_
 .refine D1 (D1 rfl<|D1 (D1 (W3 (a:=.lst (((f7 L V).filter λx=>decide (x<0)).map D.int)) ?_) sf) rfl) rfl;refine D1 (D1 rfl<|V8 _) ?_;rw[WS D.int (λx=>decide (x<0)) D.int (f7 L V) (by lia) λx hx=>⟨[.v (.int x)],rfl,rfl,rfl⟩]
 refine ip O6 (D1 ?_ rfl);unfold a2g;refine D1 (D1 (D1 (D1 (W3 rfl) SN)<|D1 rfl<|iC rfl) rfl) ((hV rfl).trans ?_);exact D1 (D1 (W3<|D1 (vJ rfl i0) RN) s2) (D1 rfl<|iC rfl)
end
end
end K42
section
namespace K42
open PySem L2 DL M
def truth (ns:List Int)(a:ns.length<=63)(b:∀x∈ns,aBe x<=1048576):oF [.lst (ns.map D.int)]=.ok (.bl true):=by unfold oF;exact hV ⟨by simpa using a,VT b⟩
section
variable [Tabs]
def all_mk {l:PySem.W.OpenLaw}{w:cp}{K:iu}{h:cq}{mg:dS}{fa f32 Pt:bb}(X:K.In h)(G:h.Ns bM mg)(hfa:mg "law"=some (.ref fa))
  (g0:Got K "way_between" aF)
  (g1:Got K "cross_of" gZ)
  (g2:Got K "product_of" bJ)
  (g3:Got K "lift_of" lW)
  (g4:Got K "common_divisor" Q4)
  (g5:Got K "plane_through" S8)
  (g6:Got K "side_of" mH)
  (g7:Got K "first_real_way" Q7)
  (g8:Got K "dimension_of" D6)
  (g9:Got K "refuse_flat" Z7)
  (g10:Got K "points_on" Y7)
  (g11:Got K "plane_about" aI)
  (g12:Got K "first_pair" bR)
  (g13:Got K "turn_of" lD)
  (g14:Got K "left_chain" bQ)
  (g15:Got K "ring_of" lE)
  (g16:Got K "pairs_round" Z8)
  (g17:Got K "faces_from" cE)
  (g18:UZ K "faces_of" L9 Pt)
  (g19:Got K "corners_in" bK)
  (g20:Got K "body_of" lH)
  (g21:Got K "room_seen" Y9)
  (g22:Got K "rooms_seen" T9)
  (g23:Got K "sixfold_room" X3)
  (g24:Got K "_law_cell_at" X7)
  (g25:Got K "_law_great" cA)
  (g26:Got K "_law_near" F4)
  (g27:Got K "_law_moved" bN)
  (g28:Got K "_law_height" aE)
  (g29:Got K "_law_sign" cQ)
  (g30:Got K "_law_times" cK)
  (g31:Got K "_law_seen" Y6)
  {od32 an32:Option bb} {sl32:Array (Option ao)} {oc32 kV32 dc32 pm32 Y ct32:ao}
  (a32:PySem.W.nsIn K bM "law"=some (some (.ref f32))) (l32:K.lookup f32=some ⟨oc32,od32,.func (PySem.W.fnOf "law" "law" (I9 aN) (u7 aN) (c8 aN) .none kV32 dc32 pm32 an32 Y ct32),sl32⟩) (e32:PySem.W.codeIn K Y "law"=true) (k32:PySem.W.keepIn K (.ref f32)=true)
  (z_abs:PySem.W.nsIn K bM "abs"=some none)
  (z_len:PySem.W.nsIn K bM "len"=some none)
  (z_any:PySem.W.nsIn K bM "any"=some none)
  (z_min:PySem.W.nsIn K bM "min"=some none)
  (z_list:PySem.W.nsIn K bM "list"=some none)
  (y:PySem.W.nsIn K bM "reversed"=some none)
  (z_zip:PySem.W.nsIn K bM "zip"=some none)
  (U:PySem.W.nsIn K bM "sorted"=some none)
  (z_set:PySem.W.nsIn K bM "set"=some none)
  (z_sum:PySem.W.nsIn K bM "sum"=some none)
  (z_range:PySem.W.nsIn K bM "range"=some none)
  (z_int:PySem.W.nsIn K bM "int"=some none)
  {ku:bb} {C:Option bb} {z A B:Tok} {E:Nat} {H:Array (Option ao)}
  (I:PySem.W.nsIn K bM "NO_WAY"=some (some (.ref ku))) (J:K.lookup ku=some ⟨.type "tuple",C,.seq #[.int 0 z,.int 0 A,.int 0 B] E,H⟩)
  (nt:(Pt,tbK)∈Tabs.tbs)
  (truth:∀ns:List Int,ns.length<=63->(∀x∈ns,aBe x<=1048576)->oF [.lst (ns.map D.int)]=.ok (.bl true)):
  ∃fd:dn,(∀(s:a9) (v:ao),BindsTo s fd ⟨[v],[]⟩ [("script",v)])/\∀base:cq,K.In base->base.Ns bM mg->jU mg base->FnOk l.prog w K mg base vU 13 fa fd ["script"] (yT K):=by
 have e:=hfa.symm.trans (PySem.W.mg_of X G a32);cases e;have qr:=PySem.W.mg_none_of X G z_abs;have eu:=PySem.W.mg_none_of X G z_len;have b_any:=PySem.W.mg_none_of X G z_any;have qt:=PySem.W.mg_none_of X G z_min;have jc:=PySem.W.mg_none_of X G z_list;have jv:=PySem.W.mg_none_of X G y;have b_zip:=PySem.W.mg_none_of X G z_zip;have bh:=PySem.W.mg_none_of X G U;have qu:=PySem.W.mg_none_of X G z_set;have je:=PySem.W.mg_none_of X G z_sum;have gm:=PySem.W.mg_none_of X G z_range;have b_int:=PySem.W.mg_none_of X G z_int;have br:QT K mg "NO_WAY" [0,0,0]:=bj (PySem.W.mg_of X G I) J;refine⟨PySem.W.fnOf "law" "law" (I9 aN) (u7 aN) (c8 aN) .none kV32 dc32 pm32 an32 Y ct32,λs v=>.of_eq rfl,λbase _ _ hB=>?_⟩;have av:y9 l.prog w K mg base 1 "way_between" 2 t8:=l8 (g0.def X G);have bu:y9 l.prog w K mg base 1 "cross_of" 2 C9:=B9 (g1.def X G);have bg:y9 l.prog w K mg base 1 "product_of" 2 w4:=v8 (g2.def X G);have L:=mC bg bu av (g3.def X G);have a:y9 l.prog w K mg base 1 "common_divisor" 1 K4:=P8 qr (g4.def X G);have d:=T1 bu av a bg (g5.def X G);have N:y9 l.prog w K mg base 1 "side_of" 2 aO:=lO (g6.def X G);have b:y9 l.prog w K mg base 1 "first_real_way" 1 B7:=K7 br (g7.def X G);have gg:=J5 av b bu bg eu b_any (g8.def X G);have f:=Z6 gg (g9.def X G);have jf:=J6 N (g10.def X G);have ib:=L3 av bg bu d br (g11.def X G);have j:=cB jf ib gg qt (g12.def X G);have O:=kR bg bu av (g13.def X G);have k:=U8 O eu (g14.def X G);have Q:=lL k jc jv (g15.def X G);have g:y9 l.prog w K mg base 1 "pairs_round" 1 A9:=Z4 jc b_zip (g16.def X G);have m:=bW ib Q g eu bh (g17.def X G);have ie:=M0 jf f j m bh qu hB nt (g18.def X G);have n:y9 l.prog w K mg base 8 "corners_in" 1 K6:=cC bh qu (g19.def X G);have T:=V7 n ie (g20.def X G);have q:=fA L je gm eu (g21.def X G);have dh:=C5 ie q (g22.def X G);have gh:=D9 dh je (g23.def X G);have cb:y9 l.prog w K mg base 1 "_law_cell_at" 2 C3:=y7 eu (g24.def X G);have ja:y9 l.prog w K mg base 1 "_law_great" 1 bF:=N6 (g25.def X G);have r:=fD cb ja gm (g26.def X G);have o:=U1 cb (g27.def X G);have i:y9 l.prog w K mg base 1 "_law_height" 2 fO:=aH (g28.def X G);have t:y9 l.prog w K mg base 1 "_law_sign" 1 oO:=Y5 b_int (g29.def X G);have p:=cF cb (g30.def X G);have u:=Y0 dh ie gh t i jc je eu gm (g31.def X G);exact YZ (o_law r T o ja u p dh gh je bh qr qt<|RL (st:=aN) l32 e32 k32) truth
end
end K42
namespace PySem.W.Fast
def tw16961474552552727254:=0
def tw14206268467227358438:=0
def tw16632787778020706534:=0
def tw18367938955004927851:=0
def tw2429638973899680136:=0
def tw13553364770736985822:=0
def tw17831668209677429497:=0
def tw933963009923934528:=0
def tw17482486931503043224:=0
def tw5386808676819690633:=0
def tw11159151059386352934:=0
def tw2249999556675166415:=0
def tw12963980245609229612:=0
def tw17857182383778662666:=0
def tw10634642760008750885:=0
def tw9938482626302293583:=0
def tw512406870205446293:=0
def tw13693597930631461403:=0
def tw5289253308953625512:=0
def tw15030184854348935609:=0
def tw2948862440824926821:=0
def tw18132157300426887595:=0
def tw11781024750243991675:=0
def tw7872765254834851455:=0
def tw10373130352374526952:=0
def tw5273881711788392114:=0
def tw16281175044421498167:=0
def tw13258458378338633063:=0
def tw1696859884811901921:=0
def tw4860966897750229544:=0
def tw10500711975869101287:=0
def tw5969839496435562914:=0
def tw7329554226692266966:=0
def tw13847881871253245409:=0
def tw3382471953406035420:=0
def tw11505132382948053518:=0
def tw9432437285055026957:=0
def tw1766235643136621514:=0
def tw7346275648219705690:=0
def tw7962677229550671809:=0
def tw10368841572249521644:=0
def tw6900147029103654423:=0
def tw4570409685692913529:=0
def tw17526529201272335488:=0
def tw9449867290502080283:=0
def tw12767680803953615697:=0
def tw8003679960034725722:=0
def tw14099597083909680226:=0
def tw8934387455942347635:=0
def tw2375696508891326090:=0
def tw4960766220739516073:=0
def tw9816975609620649223:=0
def tw10203439845571277088:=0
def tw6979736694173364621:=0
def tw12607089787132166516:=0
def tw2595991782652356194:=0
def tw4467934265414690061:=0
def tw17275188747290024849:=0
def tw16977666510186394645:=0
def tw17797430880622100348:=0
def tw4962613182186149042:=0
def tw18394116739483519834:=0
def tw14600368616728232956:=0
def tw8658183500997948249:=0
def tw6138992506518416831:=0
def tw2813110273687599096:=0
def tw15431165741998467418:=0
def tw18398931148983561211:=0
def tw57743813590870334:=0
def tw11291490664878101661:=0
def tw9335901819191918797:=0
def tw13883353908875103110:=0
def tw13237535471942900956:=0
def tw9928624654829707271:=0
def tw10660557121614650491:=0
def tw12474674520656045774:=0
def tw6144114313428978794:=0
def tw9531119416347752719:=0
def tw2682124385579026379:=0
def tw18382414797063053095:=0
def tw15642056000811465858:=0
def tw15336671390313136994:=0
def tw16758028165473534939:=0
def tw6346260714429633325:=0
def tw8206824445338928603:=0
def tw3784637676643632070:=0
def tw5430253261852668309:=0
def tw15322410130566739392:=0
def tw7215299632223666418:=0
def tw15855313189268618476:=0
def tw3713643854115264119:=0
def tw5539816673777242154:=0
def tw15136694253099608958:=0
def tw14768157903653597458:=0
def tw17303151976521109968:=0
def tw2184735404436406035:=0
def tw6317744396021218940:=0
def tw18412744223024610240:=0
def tw4806608326726766072:=0
def tw3912541771885562413:=0
def tw678720890903565501:=0
def tw10713944107994218858:=0
def tw8632870271287566479:=0
def tw6165559885404055565:=0
def tw6355975987007993891:=0
def tw11727883085897808691:=0
def tw17873808383597968409:=0
def tw12158911277041708622:=0
def tw18152055424952959431:=0
def tw12210124136636368524:=0
def tw12917198974724984406:=0
def tw13268084735425021088:=0
def tw6207034793636707847:=0
def tw8746691445639511317:=0
def tw9592950581333818620:=0
def tw10675534691516743705:=0
def tw15755181205327732594:=0
def tw326422007682489411:=0
def tw6789550101820791689:=0
def tw1427358811342699258:=0
def tw9380033744489195676:=0
def tw6445695985729508620:=0
def tw10693341080720372455:=0
def tw14491392307669930675:=0
def tw568034196350199526:=0
def tw17543449037468824021:=0
def tw10103020879080845185:=0
def tw11268406720801270753:=0
def tw11433002004189191111:=0
def tw11768672638163712285:=0
def tw13638577984613069007:=0
def tw14021010643802206183:=0
def tw14141384523989688466:=0
def tw1420206977142236942:=0
def tw14388069479463776077:=0
def tw14527059038781853617:=0
def tw16646606938958109085:=0
def tw17087256819749039536:=0
def tw17376370393265445336:=0
def tw176049631765668534:=0
def tw2394217207524684580:=0
def tw2708142560305761377:=0
def tw2761924083399252843:=0
def tw3210004681617738505:=0
def tw3618923738887073530:=0
def tw3653553718632803509:=0
def tw4035605106174755731:=0
def tw4328715522112931370:=0
def tw4765158257799889924:=0
def tw5989122839045956477:=0
def tw630105079064110342:=0
def tw7098818862886100940:=0
def tw741320131410552027:=0
def tw7511038252975318467:=0
def tw8229350209222444546:=0
end PySem.W.Fast
open PySem PySem.W PyProof.Rows
set_option maxRecDepth 100000 in
theorem PySem.Challenge.cw_stakebodies_k42_whole_any_viewpoint_holds : PySem.Challenge.rw_stakebodies_k42_whole_any_viewpoint.Holds := by
 w_on;o_law;k_head;(case hw=>w_witness2)
 k_fill
 letI tabs9:DL.Tabs:=⟨[(176,K42.tbK)]⟩
 refine DL.VA (l:=PySem.Challenge.rw_stakebodies_k42_whole_any_viewpoint) (k:=13) rfl rfl ⟨rfl,by decide,by decide⟩ (λw h Y=>⟨PySem.W.km_in_of Y,PySem.W.km_tabs_of Y⟩) (DL.WX (c:=180) (by k_mem) (λw=>by kernel_rfl)) (aAF.mpr ⟨aAW,aDk⟩) (λw=>by kernel_rfl) ?F
 case F=>
  intro w mg fa h KX G hmg;refine' K42.all_mk KX G hmg ?_ ?_ ?_ ?_ ?_ ?_ ?_ ?_ ?_ ?_ ?_ ?_ ?_ ?_ ?_ ?_ ?_ ?_ ?_ ?_ ?_ ?_ ?_ ?_ ?_ ?_ ?_ ?_ ?_ ?_ ?_ ?_ ?a32 ?l32 ?e32 ?k32 ?z_abs ?z_len ?z_any ?z_min ?z_list ?z_reversed ?z_zip ?z_sorted ?z_set ?z_sum ?z_range ?z_int ?ca_NO_WAY ?cl_NO_WAY (aAN.mpr rfl) K42.truth
  all_goals first|(refine' DL.vq ?a ?l ?c ?k;(case a=>k_is);(case l=>k_is);(case c=>k_is);(case k=>k_is))|(refine' DL.WC ?a ?l ?c ?k rfl ?n;(case a=>k_is);(case l=>k_is);(case c=>k_is);(case k=>k_is);(case n=>kernel_rfl))|k_is|skip
end
