import PyProof.Rows.All
import Wide.All
import OpenK.AllK
import Wide.FinOn
import Lean
import PyProof.EqAt
import PyProof.EqKinds
import PyProof.TupleCall
import PyProof.NeKinds
import KE.RegKIsAll
import PyProof.ExcClass3
import PySem.SetTable
import PySem.Value
import PyProof.Rows.SortShellK
import OpenK.KOwn
import KE.KNestM
import PyProof.Rows.StrWeight2
import PyProof.CollectIter
import PyProof.SetKind
import PyProof.Walks
import PyProof.ForAny
import PyProof.FactsAll.set_1
import PyProof.FactsAll.set_2
import PyProof.ZipIter
import KE.KRevIter
import PyProof.ListNew
import PyProof.ConsumeS
import KE.KIsAll
import PySem.Challenge.RW_stakebodies_k11_dimension
set_option Elab.async false
set_option linter.all false
set_option backward.eqns.nonrecursive false
set_option maxRecDepth 100000
set_option maxHeartbeats 4000000
theorem h9{c:Prop}{h:Decidable c}(k:c){α:Sort _}{t e:α}:ite c t e=t:=if_pos k
theorem ic{c:Prop}{h:Decidable c}(k:¬c){α:Sort _}{t e:α}:ite c t e=e:=if_neg k
theorem iu{α:Sort _}{β:Sort _}{a b:α}(f:α->β)(h:a=b):f a=f b:=congrArg f h
abbrev jb:=PySem.W.Frag
abbrev jd:PySem.Str:="__debug__"
abbrev ka:PySem.Str:="__classdict__"
open PySem renaming Value → av, starEach → a9, Shared → bb, wpAny → bc, Addr → bp, model → bt, mainGlobals → cf, Program → cp, Around → cq, World → cu, Expr → cv, Heap → cy, backTo → cz, Stmt → dm, eval → dq, bootBuiltins → dt, cLine → dy, FuncData → dA, assignEach → dC, compareOp → d3, cellsFrom → d5, swapsWith → et, foldedSetIterable → eN, binaryOp → eQ, NameKind → eR, rawInt → e9, sliceBounds → fg, holding → fh, SetTable → fm, codeAmong → fo, codeAny → f6, assign → f7, pyNext → gk, IsPair → gs, behindInMarks → gu, attributeBase → gv, argBest → gy, Scope → gW, updateSeq → hE, pickOrder → hF, Model → hV, wpAny_bind → aAa, wpAny_pure → aAb, wpAny_Call_Name_kw → aAQ, wpAny_holding → aAR, wpAny_call_entry → aBs, wpAny_specialOf → aBt, wpAny_truthy_bool → aBy, codeAny_builtin → aBE, wpAny_mono → aBG, wpAny_newObj_type → aBH, wpAny_seqItems → aBM, plainId_quiet → aBY, wpAny_setField_rec → aBZ, wpAny_updateSeq → aCb, wpAny_setState_of → aCj, builtinLookup_eq_fast → aCp, wpAny_forIn_list → aCw, wpAny_callSpecial?_slot → aCy, wpAny_execs_cons → aCK, wpAny_field → aCQ, wpAny_passesOwn → aCV, wpAny_nextOf_list_item → aDk, wpAny_callSpecialIfBoundUnlessNone?_slot → aDp, codeAny_mono → aDu, typeLookup_type → aDx, wpAny_pyIter_list → aDz, wpAny_isInstance → aDL, wpAny_rule → aDO, wpAny_typeOf → aDP, wpAny_comprehension_free → aDQ, wpAny_execs_nil → aDV, wpAny_letGo → aEg, wpAny_isTrue_Compare1 → aEp, codeAny_call_builtin → aEx, wpAny_attempt → aEy, wpAny_loadPart' → aEC, pushCells_keeps → aEE, wpAny_setEntries_of → aEG, slot_dict_contains → aEX, isSubtype_type → aEZ, wpAny_tryCatch → aFa, wpAny_Assign_Name → aFh, slot_list_getitem → aFk, wpAny_pyIter_slot → aFm, wpAny_loadPart_at → aFn, sizeLine_eq → aFo, wpAny_standAt → aFp, noFill_tuple_add → aFw, beq_builtin_none → aFy, wpAny_askSetting → aFz, concat_meets → aFN, wpAny_call → aFR, wpAny_newTuple → aGc, wpAny_Expr_any → aGd
open PySem.Heap renaming get?_push_of_some → aAc, lt_size → aAf, get?_push_size → aAm, get?_update_other → aAC, get?_update_self → aBf, size_push → aBz, get?_none_of_le → aEw
open List renaming mem_cons → aAd, mem_cons_of_mem → aAe, length_map → aAh, getElem?_eq_getElem → aAj, size_toArray → aAl, mem_map → aAo, map_cons → aAp, mem_of_getElem? → aAt, length_cons → aAv, getD_eq_getElem?_getD → aAw, mem_filter → aAx, getElem?_eq_some_iff → aAy, pairwise_cons → aAz, getElem?_append_right → aAA, mem_append_right → aAH, getElem?_map → aAI, length_append → aAK, reverse_cons → aAM, not_mem_nil → aAN, nodup_cons → aAS, getElem?_append_left → aAT, range → aAU, mem_append → aAX, cons_append → aAY, mem_singleton → aAZ, lookup_cons → aBa, getLast?_cons_cons → aBe, filter_sublist → aBg, getElem?_set_self → aBh, dropLast_concat → aBi, mem_range → aBm, mem_cons_self → aBn, getElem_of_mem → aBo, getElem?_replicate → aBq, length_nil → aBr, getElem?_zip_eq_some → aBw, mem_filterMap → aBB, lookup_cons_self → aBD, sum_cons → aBF, mem_append_left → aBI, map_map → aBJ, append_nil → aBL, map_append → aBO, length_take → aBP, pairwise_map → aBS, zip_cons_cons → aBW, set_cons_succ → aCc, set_cons_zero → aCd, mem_flatMap → aCe, all_eq_true → aCf, nodup_iff_pairwise_ne → aCg, filterMap_cons → aCi, pairwise_iff_getElem → aCk, getElem?_eq_none_iff → aCm, length_replicate → aCo, filterMap_cons_some → aCu, mem_reverse → aCv, getElem?_set_ne → aCx, nil_append → aCC, length_reverse → aCE, replicate_succ → aCF, replicate_zero → aCG, getElem_mem → aCL, getElem?_toArray → aCN, replicate → aCO, mem_of_getLast? → aCS, nodup_append → aCT, forIn_cons → aCY, filterMap_cons_none → aCZ, filter_cons_of_pos → aDc, filter_cons_of_neg → aDd, mem_map_of_mem → aDe, getElem?_cons_zero → aDf, eq_nil_of_length_eq_zero → aDh, nodup_nil → aDi, length_pos_of_mem → aDj, filterMap_map → aDm, map → aDo, length_filter_le → aDr, mem_iff_getElem? → aDs, map_nil → aDw, length_range → aDB, perm_ext_iff_of_nodup → aDC, drop_eq_getElem_cons → aDG, length_drop → aDJ, map_congr_left → aDM, pairwise_singleton → aDS, of_mem_zip → aDT, set → aEb, take_of_length_le → aEf, forIn_nil → aEh, pairwise_reverse → aEi, dropLast_eq_take → aEo, any_eq_true → aEq, zipIdx_cons → aEs, getElem_map → aEt, length_set → aED, zipIdx_nil → aEF, exists_cons_of_ne_nil → aEK, head?_reverse → aEQ, getLast?_cons → aER, length_erase_of_mem → aFc, ext_getElem? → aFf, append_assoc → aFl, eraseIdx_cons_succ → aFq, all_cons → aFr, getElem?_cons_succ → aFs, map_reverse → aFx, range_succ_eq_map → aFC, length_singleton → aFG, take_append_drop → aFI, foldl_cons → aFJ, getElem?_eq_none → aFO, mem_erase_of_ne → aFT, mem_of_mem_take → aFU, mem_of_mem_drop → aFV, length_dropLast → aFY, drop_zero → aGf, length → aGg, map_take → aGp
open False renaming elim → aAg
open Nat renaming le_refl → aAi, ne_of_lt → aAk, le_trans → aAq, lt_of_lt_of_le → aAr, zero_le → aAG, lt_irrefl → aBj, lt_succ_of_lt → aBA, lt_of_le_of_lt → aCq, le_of_succ_le → aCB, le_of_lt → aDb, lt_or_eq_of_le → aDn, ne_of_gt → aDt, lt_succ_self → aDK, reduceAdd → aEc, reduceSub → aEd, zero_add → aEj, le_of_eq → aEn, le_of_not_lt → aEr, le_add_right → aEu, not_lt_zero → aEA, mod_lt → aFe, le_of_lt_succ → aFg, gcd_dvd_left → aFv, min_eq_right → aFB, le_antisymm → aFH, min_eq_left → aFL, lt_trans → aGA, succ_pos → aGB
open Int renaming mul_eq_zero → aAn, mul_nonpos_of_nonneg_of_nonpos → aAs, mul_neg_of_pos_of_neg → aAB, mul_le_mul_of_nonneg_left → aAE, le_of_lt → aAL, mul_le_mul_of_nonneg_right → aAO, mul_nonneg → aBc, mul_pos → aBd, mul_pos_of_neg_of_neg → aBv, mul_zero → aBR, toNat_natCast → aBT, le_refl → aBV, lt_or_gt_of_ne → aDl, neg_mul_neg → aDq, eq_of_mul_eq_mul_left → aDE, lt_or_le → aDN, mul_nonneg_of_nonpos_of_nonpos → aDR, mul_ediv_cancel' → aEv, toNat → aEH, mul_lt_mul_of_pos_left → aEL, le_of_mul_le_mul_right → aEM, fdiv_eq_ediv_of_nonneg → aEP, natAbs_eq_zero → aES, ofNat_dvd_left → aET, le_of_mul_le_mul_left → aEY, neg_nonneg_of_nonpos → aFb, add_zero → aFF, mul_assoc → aGl, gcd → aGw, mul_comm → aGy, zero_mul → aGz
open Bool renaming false_eq_true → aAu, and_eq_true → aAF, false_ne_true → aAV, not_true → aDy, eq_iff_iff → aDX, and_false → aGe
open Array renaming getElem?_toList → aAD, getElem?_eq_getElem → aAJ, length_toList → aBb, getElem?_eq_some_iff → aCh, forIn_toList → aCt, getElem?_eq_none → aCI, replicate → aEB, perm_iff_toList_perm → aEN, getD → aFd, toList → aFM, getElem_toList → aGb, toList_append → aGk
open PySem.Builtin.Tuple renaming tupleHashOf → aAP, tupleExact → aCW, tupleItemsOf → aDD
open PySem.Builtin.Int renaming intBits → aAW
open PySem.Around renaming under_plainId → aBk, frames_deeper → aFW
open PyProof.Rows renaming callWith_type1 → aBl, wpS_bind → aBp, callWith_builtin1 → aBK, wpS_pure → aCl, slot_tuple_getitem → aCA, wpS_forRange → aEk, listItems_at → aEm, envOfC → aEJ, pairsOf_size → aEU, KK_mirror_equal → aFK, mirror_perm → aGh, wpS_reverse → aGi
open PySem.PassesOwn renaming never → aBu
open PySem.Obj renaming mapSeq → aBx, putSet → aEz
open Or renaming inr → aBC, inl → aCs
open PySem.Builtin.SmallTypes renaming nextOf → aBN, ownedTupleIsFree → aBQ, ownedTupleHandOut → aDI
open Ne renaming symm → aBU
open PySem.NameKind renaming cell → aBX
open PySem.Builtin.List renaming listExtendWith → aCa, listLengthHint → aCD, listItems → aCH, listTooLong → aCX, listSameRef → aDa, listTouch → aFE
open ForInStep renaming yield → aCn
open PySem.Value renaming type → aCr, bool → aCJ, ref → aCU, builtin → aDA, int → aGF
open PySem.Builtin.Range renaming rangeSize → aCz, small → aGj
open PySem.F renaming plain_min_loop → aCM, plain_extend_loop → aDg, slot_zip_next → aEa, entry_min_loop → aFA
open PySem.Builtin.Slice renaming slicePlaces → aCP, sliceAdjust → aDF, sliceApplied → aEO
open Classical renaming byContradiction → aCR, propDecidable → aDZ
open PySem.Str renaming ofString → aDv
open PySem.SetTable renaming below → aDH, bits → aDU, fits → aGo, insertAt → aGx, tooFull → aGD
open PySem.Calls renaming spliced_cons → aDW, spliced_nil → aFi, callWith_builtin → aFD, evalArgs_plain → aFX
open PySem.SeqAt.EqAt renaming same → aDY, int_int → aEV, of_refs → aEW, int_tuple → aFZ, tuple_int → aGa, int_str → aGm, str_int → aGn
open Option renaming map_eq_some_iff → aEe, isSome_iff_exists → aFj
open PySem.Builtin.Builtins renaming bindParams → aEI
open PySem.Moved renaming trans → aFt
open PySem.Builtin.Frozenset renaming slot0 → aFu
open List.cons renaming injEq → aFP
open Prod renaming ext → aFQ
open List.Pairwise renaming filter → aFS, nil → aGq
open Sum renaming inl → aGr, inr → aGs
open Option.some renaming injEq → aGt
open True renaming intro → aGu
open PySem.Heap.SameBut renaming refl → aGv
open PySem.pickOrder renaming go → aGC
open Array.Perm renaming refl → aGE
abbrev D3:=PySem.Value->PySem.Shared->Prop
abbrev K6:=List (PySem.Addr×PySem.Obj)
abbrev W6:=PySem.Str->Option PySem.Value
abbrev vT:=Bool->PySem.Shared->Prop
noncomputable section
namespace G
structure V where
 x:Int
 y:Int
 z:Int
deriving DecidableEq
instance:Add V:=⟨λu v=>⟨u.x+v.x,u.y+v.y,u.z+v.z⟩⟩
instance:Sub V:=⟨λu v=>⟨u.x-v.x,u.y-v.y,u.z-v.z⟩⟩
instance:Neg V:=⟨λu=>⟨-u.x,-u.y,-u.z⟩⟩
instance:HMul Int V V:=⟨λk u=>⟨k*u.x,k*u.y,k*u.z⟩⟩
instance:OfNat V 0:=⟨⟨0,0,0⟩⟩
@[simp]def OZ (u v:V):(u+v).x=u.x+v.x:=rfl
@[simp]def MR (u v:V):(u+v).y=u.y+v.y:=rfl
@[simp]def MH (u v:V):(u+v).z=u.z+v.z:=rfl
@[simp]def JC (u v:V):(u-v).x=u.x-v.x:=rfl
@[simp]def PU (u v:V):(u-v).y=u.y-v.y:=rfl
@[simp]def JT (u v:V):(u-v).z=u.z-v.z:=rfl
@[simp]def tq (u:V):(-u).x=-u.x:=rfl
@[simp]def fw (u:V):(-u).y=-u.y:=rfl
@[simp]def mx (u:V):(-u).z=-u.z:=rfl
@[simp]def oO (k:Int)(u:V):(k*u).x=k*u.x:=rfl
@[simp]def oR (k:Int)(u:V):(k*u).y=k*u.y:=rfl
@[simp]def oC (k:Int)(u:V):(k*u).z=k*u.z:=rfl
@[simp]def bZ:(0:V).x=0:=rfl
@[simp]def cS:(0:V).y=0:=rfl
@[simp]def bX:(0:V).z=0:=rfl
def ext {u v:V}(a:u.x=v.x)(b:u.y=v.y)(d:u.z=v.z):u=v:=by cases u;cases v;simp_all
def mY {u v:V}:u=v↔u.x=v.x/\u.y=v.y/\u.z=v.z:=⟨λh=>by subst h;exact⟨rfl,rfl,rfl⟩,λ⟨a,b,c⟩=>ext a b c⟩
def c5 (u v:V):Int:=u.x*v.x+u.y*v.y+u.z*v.z
def cr (u v:V):V:=⟨u.y*v.z-u.z*v.y,u.z*v.x-u.x*v.z,u.x*v.y-u.y*v.x⟩
def i4 (a u v:V):Int:=c5 a (cr u v)
@[simp]def UM (u v:V):(cr u v).x=u.y*v.z-u.z*v.y:=rfl
@[simp]def SU (u v:V):(cr u v).y=u.z*v.x-u.x*v.z:=rfl
@[simp]def UE (u v:V):(cr u v).z=u.x*v.y-u.y*v.x:=rfl
def AJ (a u v w:V):i4 a u v*w+i4 a v w*u+i4 a w u*v=i4 u v w*a:=by apply ext<;>simp[i4,c5]<;>grind
def WA (f a u v w:V):i4 a u v*c5 f w+i4 a v w*c5 f u+i4 a w u*c5 f v=i4 u v w*c5 f a:=by simp[i4,c5];grind
def j9 (a u v:V):i4 a v u=-i4 a u v:=by simp[i4,c5];grind
def C0 (a u:V):i4 a u u=0:=by simp[i4,c5];grind
def Z0 (a u v w:V):i4 a (u+v) w=i4 a u w+i4 a v w:=by simp[i4,c5];grind
def Z3 (a u v w:V):i4 a u (v+w)=i4 a u v+i4 a u w:=by simp[i4,c5];grind
def OO (a u v w:V):i4 a u (v-w)=i4 a u v-i4 a u w:=by simp[i4,c5];grind
def xK (a:V)(k:Int)(u v:V):i4 a u (k*v)=k*i4 a u v:=by simp[i4,c5];grind
def cQ (u v:V):c5 u v=c5 v u:=by simp[c5];grind
def w4 (f u v:V):c5 f (u+v)=c5 f u+c5 f v:=by simp[c5];grind
def d8 (f u v:V):c5 f (u-v)=c5 f u-c5 f v:=by simp[c5];grind
def i6 (f:V)(k:Int)(v:V):c5 f (k*v)=k*c5 f v:=by simp[c5];grind
def L5 (f:V)(k:Int)(v:V):c5 (k*f) v=k*c5 f v:=by simp[c5];grind
def D5 (f:V):c5 f 0=0:=by simp[c5]
def T1 (a u v:V):c5 (cr a u) v=i4 a u v:=by simp[i4,c5];grind
def u8 {u:V}(h:u≠0):0<c5 u u:=by
 have f:u.x≠0\/u.y≠0\/u.z≠0:=by
  by_cases a:u.x=0
  .by_cases b:u.y=0
   .by_cases c:u.z=0
    .exact absurd (ext a b c) h
    .exact .inr (.inr c)
   .exact .inr (.inl b)
  .exact .inl a
 have e:∀t:Int,0<=t*t:=λt=>by
  rcases Int.le_total 0 t with q|q
  .exact aBc q q
  .have:=aBc (aFb q) (aFb q);rwa [aDq]at this
 have d:∀t:Int,t≠0->0<t*t:=λt g=>by
  have:=e t;have:t*t≠0:=λz=>by rcases aAn.mp z with q|q<;>exact g q
  omega
 have a:=e u.x;have b:=e u.y;have c:=e u.z;unfold c5;rcases f with q|q|q
 .have:=d _ q;omega
 .have:=d _ q;omega
 .have:=d _ q;omega
def w8 (h:n≠0)(a:c5 n u=0)(b:c5 n v=0)(d:c5 n w=0):i4 u v w=0:=by
 have e:i4 u v w*c5 n n=0:=by have:=WA n n u v w;rw[a,b,d]at this;simp at this;omega
 rcases aAn.mp e with q|q
 .exact q
 .have:=u8 h;omega
def u3 (v:V):(0:Int)*v=0:=ext (by simp) (by simp) (by simp)
def nS (v:V):v+0=v:=ext (by simp) (by simp) (by simp)
def fT (v:V):0+v=v:=ext (by simp) (by simp) (by simp)
structure Cone (Pos:V->Prop):Prop where
 add:∀{u v},Pos u->Pos v->Pos (u+v)
 mul:∀{k:Int} {u},0<k->Pos u->Pos (k*u)
 irr:¬Pos 0
section
variable{Pos:V->Prop} (C:Cone Pos)
include C
theorem Cone.comb {p q:Int}{u w:V}(a:0<p)(e:0<=q)(b:Pos w)(d:Pos u):Pos (p*w+q*u):=by
 by_cases h:q=0
 .subst h;rw[u3,nS];exact C.mul a b
 .exact C.add (C.mul a b) (C.mul (by lia) d)
theorem Cone.sgn {k:Int}{v:V}(b:Pos v)(h:Pos (k*v)):0<k:=by
 by_cases d:0<k
 .exact d
 .exfalso;by_cases f:k=0
  .subst f;rw[u3]at h;exact C.irr h
  .have a:=C.add h (C.mul (k:=-k) (by lia) b);have e:k*v+-k*v=0:=ext (by simp;grind) (by simp;grind) (by simp;grind);rw[e]at a;exact C.irr a
theorem Cone.tr {a u v w:V}(b:Pos u)(d:Pos v)(f:Pos w)(g:i4 u v w=0)(i:0<i4 a u v)(j:0<=i4 a v w):0<i4 a u w:=by
 refine C.sgn d (k:=i4 a u w) ?_;have e:i4 a u w*v=i4 a u v*w+i4 a v w*u:=by have h:=AJ a u v w;rw[g,u3,j9 a u w]at h;have l:=iu V.x h;have m:=iu V.y h;have n:=iu V.z h;simp at l m n;exact ext (by simp;grind) (by simp;grind) (by simp;grind)
 rw[e];exact C.comb i j f b
theorem Cone.tr' {a u v w:V}(b:Pos u)(d:Pos v)(f:Pos w)(g:i4 u v w=0)(i:0<=i4 a u v)(j:0<i4 a v w):0<i4 a u w:=by
 refine C.sgn d (k:=i4 a u w) ?_;have e:i4 a u w*v=i4 a v w*u+i4 a u v*w:=by have h:=AJ a u v w;rw[g,u3,j9 a u w]at h;have l:=iu V.x h;have m:=iu V.y h;have n:=iu V.z h;simp at l m n;exact ext (by simp;grind) (by simp;grind) (by simp;grind)
 rw[e];exact C.comb j i b f
end
structure ConeM (a:V)(Pos:V->Prop):Prop extends Cone Pos where
 inv:∀{u} (k:Int),Pos u->Pos (u+k*a)
def ConeM.tr {a:V}{Pos:V->Prop}(C:ConeM a Pos){u v w:V}(b:Pos u)(d:Pos v)(f:Pos w)(g:0<i4 a u v)(i:0<=i4 a v w):0<i4 a u w:=by
 refine C.sgn d (k:=i4 a u w) ?_;have e:i4 a u w*v=(i4 a u v*w+i4 a v w*u)+(-i4 u v w)*a:=by have h:=AJ a u v w;rw[j9 a u w]at h;have j:=iu V.x h;have l:=iu V.y h;have m:=iu V.z h;simp at j l m;exact ext (by simp;grind) (by simp;grind) (by simp;grind)
 rw[e];exact C.inv _ (C.comb g i f b)
def i3 (w:V):Prop:=0<w.x\/(w.x=0/\(0<w.y\/(w.y=0/\0<w.z)))
instance(w:V):Decidable (i3 w):=inferInstanceAs (Decidable<|_\/_)
def A4:Cone i3 where
 add:=λ{u v} e f=>by unfold i3 at*;simp;lia
 mul:=λ{k u} a h=>by
  unfold i3 at*
  simp;rcases h with h|⟨h,b|⟨b,d⟩⟩
  .exact .inl (aBd a h)
  .exact .inr ⟨by rw[h];simp,.inl (aBd a b)⟩
  .exact .inr ⟨by rw[h];simp,.inr ⟨by rw[b];simp,aBd a d⟩⟩
 irr:=by unfold i3;simp
def M8 (w:V):Prop:=i3 (-w)
def BE:-(0:V)=0:=rfl
def Y5:Cone M8 where
 add:=λ{u v} a b=>by have e:-(u+v)=-u+-v:=ext (by simp;lia) (by simp;lia) (by simp;lia);unfold M8 at*;rw[e];exact A4.add a b
 mul:=λ{k u} d h=>by have e:-(k*u)=k*(-u):=ext (by simp;grind) (by simp;grind) (by simp;grind);unfold M8 at*;rw[e];exact A4.mul d h
 irr:=by unfold M8;rw[BE];exact A4.irr
def UG (w:V):i3 w\/w=0\/M8 w:=by
 unfold M8 i3;rw[mY];simp
 lia
def n6 (v:V):v-v=0:=ext (by simp) (by simp) (by simp)
def dM (a u:V):i4 a u 0=0:=by simp[i4,c5]
def J8 (a u v:V):i4 a u (-v)=-i4 a u v:=by simp[i4,c5];grind
def Z4 (a u v:V):i4 a (-u) v=-i4 a u v:=by simp[i4,c5];grind
structure Row (n:V)(Pos:V->Prop)(T:V->Prop):Prop where
 cone:Cone Pos
 nz:n≠0
 pl:∀X Y,T X->T Y->c5 n (X-Y)=0
 tot:∀X Y,T X->T Y->X=Y\/Pos (X-Y)\/Pos (Y-X)
def Lft (n:V)(Pos:V->Prop)(a b X:V):Prop:=0<=i4 n (b-a) (X-a)/\(i4 n (b-a) (X-a)=0->(X=a\/Pos (X-a))/\(X=b\/Pos (b-X)))
def turn (n P Q R:V):Int:=i4 n (Q-P) (R-Q)
def W2 (n P:V):List V->List V
 |b::a::r=>if turn n a b P<=0 then W2 n P (a::r)else b::a::r
 |r=>r
def v5 (n:V)(ps:List V):List V:=ps.foldl (λc P=>P::W2 n P c) []
def D4:List V->List (V×V)
 |b::a::r=>(a,b)::D4 (a::r)
 |_=>[]
def rE (n:V):List V->Prop
 |b::a::d::r=>0<i4 n (a-d) (b-a)/\rE n (a::d::r)
 |_=>True
def rE.tail (h:rE n (b::r)):rE n r:=by
 match r,h with
 |[],_=>trivial
 |[_],_=>trivial
 |_::_::_,h=>exact h.2
def N4 (h:e∈D4 r):e∈D4 (b::r):=by
 match r,h with
 |a::r,h=>exact aAe _ h
section
variable{n:V} {Pos:V->Prop} {T:V->Prop} (F:Row n Pos T)
include F
structure ChOk (n:V)(Pos:V->Prop)(done:V->Prop)(c:List V):Prop where
 mem:∀X∈c,done X
 ed:∀e∈D4 c,Pos (e.2-e.1)/\∀X,done X->Lft n Pos e.1 e.2 X
 bend:rE n c
 last:∀X,done X->∀z,c.getLast?=some z->X=z\/Pos (X-z)
theorem Row.ad0 {done:V->Prop}(f:∀X,done X->T X)(m:Pos x)(o:c5 n x=0):∀(c:List V),(∀X∈c,done X)->(∀e∈D4 c,Pos (e.2-e.1))->rE n c->(∀b a r,c=b::a::r->0<i4 n (b-a) x)->∀e∈D4 c,0<i4 n (e.2-e.1) x
 |[],_,_,_,_,e,d=>by cases d
 |[_],_,_,_,_,e,d=>by cases d
 |[b,a],_,_,_,h,e,d=>by simp[D4]at d;subst d;exact h b a [] rfl
 |b::a::p::r,g,j,s,h,e,d=>by
  have i:=h b a _ rfl;rcases aAd.mp d with q|q
  .subst q;exact i
  .refine Row.ad0 f m o (a::p::r) (λX t=>g X (aAe _ t)) (λe d=>j e (N4 d)) s.tail ?_ e q;intro w y z k;injection k with k l;injection l with l A;subst k l;have u:=j (p,a) (N4 (by simp[D4]));have v:=j (a,b) (by simp[D4]);exact F.cone.tr u v m (w8 F.nz (F.pl _ _ (f _ (g _ (by simp))) (f _ (g _ (by simp)))) (F.pl _ _ (f _ (g _ (by simp))) (f _ (g _ (by simp)))) o) s.1 (aAL i)
theorem Row.weak (d:Pos u)(a:Pos v)(f:Pos w)(k:c5 n u=0)(l:c5 n v=0)(m:c5 n w=0)(o:0<=i4 n u v)(p:0<=i4 n v w):0<=i4 n u w:=by
 have b:=w8 F.nz k l m;by_cases q:0<i4 n u v
 .exact aAL (F.cone.tr d a f b q p)
 .by_cases r:0<i4 n v w
  .exact aAL (F.cone.tr' d a f b o r)
  .have s:i4 n u v=0:=by lia
   have t:i4 n v w=0:=by lia
   have h:=AJ n u v w;rw[s,t,b,u3,u3,u3,fT,fT]at h;by_cases z:i4 n w u=0
   .rw[j9];lia
   .exfalso;have e:v=0:=by have g:=iu V.x h;have i:=iu V.y h;have j:=iu V.z h;simp at g i j;exact ext ((aAn.mp g).resolve_left z) ((aAn.mp i).resolve_left z) ((aAn.mp j).resolve_left z)
    rw[e]at a;exact F.cone.irr a
theorem Row.ad4 {done:V->Prop}(hd:∀X,done X->T X)(v:T P)(m:∀X,done X->Pos (P-X)):∀(c:List V),ChOk n Pos done c->c≠[]->
  (∀X q,c.head?=some q->done X->(X=q\/Pos (X-q))->0<=i4 n (P-q) (X-q))->
  ∃q r,W2 n P c=q::r/\ChOk n Pos done (q::r)/\(∀X,done X->(X=q\/Pos (X-q))->0<=i4 n (P-q) (X-q))/\∀a w,r=a::w->0<turn n a q P
 |[],_,h,_=>absurd rfl h
 |[b],ok,_,o=>⟨b,[],rfl,ok,λX d h=>o X b rfl d h,λa w e=>by cases e⟩
 |b::a::r,ok,_,o=>by
  by_cases A:turn n a b P<=0
  .have e:W2 n P (b::a::r)=W2 n P (a::r):=by rw[W2,h9 A]
   rw[e];have i:=ok.mem b (by simp);have s:=ok.mem a (by simp);have O:=ok.ed (a,b) (by simp[D4]);refine Row.ad4 hd v m (a::r) ⟨λX d=>ok.mem X (aAe _ d),λe he=>ok.ed e (N4 he),ok.bend.tail,λX d z t=>ok.last X d z (by rw[aBe];exact t)⟩ (by simp) ?_;intro X q hq d B;have C:a=q:=Option.some.inj hq;subst C;have hu:Pos (b-a):=O.1;have hp:Pos (P-b):=m b i;have Q:Pos (P-a):=m a s;have U:c5 n (b-a)=0:=F.pl _ _ (hd _ i) (hd _ s);have pp:c5 n (P-b)=0:=F.pl _ _ v (hd _ i);have E:c5 n (P-a)=0:=F.pl _ _ v (hd _ s);unfold turn at A;have H:0<=i4 n (P-b) (b-a):=by rw[j9];lia
   rcases F.tot X b (hd X d) (hd b i)with z|z|z
   .
    subst z;have f:P-a=(P-X)+(X-a):=ext (by simp;lia) (by simp;lia) (by simp;lia);rw[f,Z0,C0];lia
   .
    have I:=o X b rfl d (.inr z);have px:c5 n (X-b)=0:=F.pl _ _ (hd _ d) (hd _ i);have j:Pos (P-X):=m X d;have J:i4 n (P-a) (X-a)*(P-b)=i4 n (P-b) (X-b)*(P-a)+i4 n (P-b) (b-a)*(P-X):=by
     have k:=AJ n (b-a) (X-b) (P-b);rw[w8 F.nz U px pp,u3]at k;have f:P-a=(b-a)+(P-b):=ext (by simp;lia) (by simp;lia) (by simp;lia);have e2:X-a=(b-a)+(X-b):=ext (by simp;lia) (by simp;lia) (by simp;lia);have e3:P-X=(P-b)-(X-b):=ext (by simp;lia) (by simp;lia) (by simp;lia);rw[f,e2,e3];generalize b-a=u at*
     generalize X-b=x at*
     generalize P-b=p at*
     rw[Z0,Z3,Z3,C0];have I:=iu V.x k;have Y:=iu V.y k;have t:=iu V.z k;rw[j9 n p x]at k I Y t;simp at I Y t;have s1:=j9 n p x;have s2:=j9 n p u;have s3:=j9 n u x;apply ext<;>simp<;>grind
    by_cases zz:0<=i4 n (P-a) (X-a)
    .exact zz
    .exfalso;have L:Pos ((-i4 n (P-a) (X-a))*(P-b)):=F.cone.mul (by lia) hp;have N:Pos (-i4 n (P-a) (X-a)*(P-b)+(i4 n (P-b) (X-b)*(P-a)+i4 n (P-b) (b-a)*(P-X))):=by
      by_cases y1:i4 n (P-b) (X-b)=0
      .rw[y1,u3,fT];by_cases y2:i4 n (P-b) (b-a)=0
       .rw[y2,u3,nS];exact L
       .exact F.cone.add L (F.cone.mul (by lia) j)
      .exact F.cone.add L (F.cone.comb (by lia) H Q j)
     rw[<-J]at N;have e0:-i4 n (P-a) (X-a)*(P-b)+i4 n (P-a) (X-a)*(P-b)=0:=by apply ext<;>simp<;>grind
     rw[e0]at N;exact F.cone.irr N
   .
    rcases B with g|g
    .subst g;rw[n6,dM];exact aBV _
    .have hl:=(O.2 X d).1;have l:0<=i4 n (P-a) (b-a):=by have f:P-a=(P-b)+(b-a):=ext (by simp;lia) (by simp;lia) (by simp;lia);rw[f,Z0,C0];lia
     exact F.weak Q hu g E U (F.pl _ _ (hd _ d)<|hd _ s) l hl
  .have e:W2 n P (b::a::r)=b::a::r:=by rw[W2,ic A]
   refine⟨b,a::r,e,ok,λX d h=>o X b rfl d h,λa' w e'=>?_⟩;injection e' with f _;subst f
   lia
theorem Row.push {done:V->Prop}(hd:∀X,done X->T X)(C:T P)(s:∀X,done X->Pos (P-X))(ok:ChOk n Pos done c)(I:c≠[])(J:∀X q,c.head?=some q->done X->X=q\/Pos (q-X)):
  ChOk n Pos (λX=>done X\/X=P) (P::W2 n P c):=by
 obtain⟨q,r,e,f,u,j⟩:=F.ad4 hd C s c ok I (λX q u d h=>by
  rcases h with h|h
  .subst h;rw[n6,dM];exact aBV _
  .exfalso;rcases J X q u d with z|z
   .subst z;rw[n6]at h;exact F.cone.irr h
   .have:=F.cone.add h z;have v:X-q+(q-X)=0:=ext (by simp;lia) (by simp;lia) (by simp;lia);rw[v]at this;exact F.cone.irr this)
 rw[e];have l:=f.mem q (by simp);have i:Pos (P-q):=s q l;have m:c5 n (P-q)=0:=F.pl _ _ C (hd _ l);refine⟨λX d=>?_,λg w=>?_,?_,λX d z t=>?_⟩
 .rcases aAd.mp d with h|h
  .exact .inr h
  .exact .inl (f.mem X h)
 .rcases aAd.mp w with h|h
  .subst h;refine⟨i,λX d=>?_⟩;rcases d with d|d
   .rcases F.tot X q (hd _ d) (hd _ l)with z|z|z
    .subst z;exact⟨by rw[n6,dM];exact aBV _,λ_=>⟨.inl rfl,.inr i⟩⟩
    .exact⟨u X d (.inr z),λ_=>⟨.inr z,.inr (s X d)⟩⟩
    .
     have:0<i4 n (P-q) (X-q):=by
      match r,j,f with
      |[],_,f=>
       rcases f.last X d q rfl with y|y
       .subst y;rw[n6]at z;exact absurd z F.cone.irr
       .exfalso;have:=F.cone.add y z;have v:X-q+(q-X)=0:=ext (by simp;lia) (by simp;lia) (by simp;lia);rw[v]at this;exact F.cone.irr this
      |a::o,j,f=>
       have x:=j a o rfl;unfold turn at x;have L:=f.mem a (by simp);have E:=f.ed (a,q) (by simp[D4]);have H:=(E.2 X d).1;have p:X-a=(q-a)-(q-X):=ext (by simp;lia) (by simp;lia) (by simp;lia);dsimp only at H;rw[p,OO,C0]at H;have N:0<=i4 n (q-X) (q-a):=by rw[j9];lia
       have:=F.cone.tr' (a:=n) z E.1 i (w8 F.nz (F.pl _ _ (hd _ l)<|hd _ d) (F.pl _ _ (hd _ l)<|hd _ L) m) N x;have A:X-q=-(q-X):=ext (by simp;lia) (by simp;lia) (by simp;lia);rw[A,J8,j9];lia
     exact⟨aAL this,λz=>by dsimp only at z;lia⟩
   .subst d;exact⟨by rw[C0];exact aBV _,λ_=>⟨.inr i,.inl rfl⟩⟩
  .
   have k:=f.ed g h;refine⟨k.1,λX d=>?_⟩;rcases d with d|d
   .exact k.2 X d
   .subst d;have x:=F.ad0 hd i m (q::r) f.mem (λe w=>(f.ed e w).1) f.bend (λb a o O=>by injection O with p A;subst p;exact j a o A) g h
    have Q:=(k.2 q l).1;have:0<i4 n (g.2-g.1) (X-g.1):=by have p:X-g.1=(q-g.1)+(X-q):=ext (by simp;lia) (by simp;lia) (by simp;lia);rw[p,Z3];lia
    exact⟨aAL this,λz=>by lia⟩
 .match r,j,f with
  |[],_,_=>trivial
  |a::o,j,f=>exact⟨j a o rfl,f.bend⟩
 .rcases d with d|d
  .exact f.last X d z (by rw[aBe]at t;exact t)
  .subst d;have B:(q::r).getLast?=some z:=by rw[aBe]at t;exact t
   exact .inr (s z<|f.mem z<|aCS B)
end
section
variable{n:V} {Pos:V->Prop} {T:V->Prop} (F:Row n Pos T)
include F
theorem ChOk.congr {done a:V->Prop}(ok:ChOk n Pos done c)(h:∀X,done X↔a X):ChOk n Pos a c:=
 ⟨λX b=>(h X).mp (ok.mem X b),λe d=>⟨(ok.ed e d).1,λX b=>(ok.ed e d).2 X ((h X).mpr b)⟩,ok.bend,λX b=>ok.last X ((h X).mpr b)⟩
theorem Row.fold:∀(rest:List V) (done:V->Prop) (c:List V),ChOk n Pos done c->c≠[]->(∀X q,c.head?=some q->done X->X=q\/Pos (q-X))->(∀X,done X->T X)->(∀X∈rest,T X)->
  (∀X Y,done X->Y∈rest->Pos (Y-X))->rest.Pairwise (λa b=>Pos (b-a))->
  ChOk n Pos (λX=>done X\/X∈rest) (rest.foldl (λc P=>P::W2 n P c) c)/\rest.foldl (λc P=>P::W2 n P c) c≠[]/\(∀X q,(rest.foldl (λc P=>P::W2 n P c) c).head?=some q->(done X\/X∈rest)->X=q\/Pos (q-X))
 |[],done,c,ok,h,i,j,k,g,m=>⟨ChOk.congr F ok λX=>by simp,h,λX q f d=>by
   rcases d with d|d
   .exact i X q f d
   .cases d⟩
 |P::rest,done,c,ok,h,i,j,k,g,m=>by
  have o:=k P (by simp);have s:=F.push j o (λX d=>g X P d (by simp)) ok h i;have p:=aAz.mp m;obtain⟨t,u,v⟩:=Row.fold rest (λX=>done X\/X=P) (P::W2 n P c) s (by simp) (λX q f d=>by
    have l:P=q:=Option.some.inj f;subst l;rcases d with d|d
    .exact .inr (g X P d (by simp))
    .exact .inl d) (λX d=>by
    rcases d with d|d
    .exact j X d
    .subst d;exact o) (λX d=>k X (aAe _ d)) (λX Y d r=>by
    rcases d with d|d
    .exact g X Y d (aAe _ r)
    .subst d;exact p.1 Y r) p.2
  have e:∀X,((done X\/X=P)\/X∈rest)↔(done X\/X∈P::rest):=λX=>by simp[or_assoc]
  exact⟨ChOk.congr F t e,u,λX q f d=>v X q f ((e X).mpr d)⟩
theorem Row.ad1 (k:ps≠[])(h:∀X∈ps,T X)(l:ps.Pairwise (λa b=>Pos (b-a))):
  ChOk n Pos (λX=>X∈ps) (v5 n ps)/\v5 n ps≠[]/\(∀X q,(v5 n ps).head?=some q->X∈ps->X=q\/Pos (q-X)):=by
 match ps,k with
 |p::rest,_=>
  have i:=aAz.mp l;have ok:ChOk n Pos (λX=>X=p) [p]:=⟨λX d=>by simpa using d,λe m=>by simp[D4]at m,trivial,λX d z j=>by simp at j;subst j;exact .inl d⟩
  obtain⟨o,r,s⟩:=F.fold rest (λX=>X=p) [p] ok (by simp) (λX q f d=>by have g:p=q:=Option.some.inj f;subst g;exact .inl d) (λX d=>by subst d;exact h _ (by simp)) (λX d=>h X (aAe _ d)) (λX Y d t=>by subst d;exact i.1 Y t) i.2
  have e:∀X,(X=p\/X∈rest)↔X∈p::rest:=λX=>by simp
  refine⟨ChOk.congr F o e,r,λX q f d=>s X q f ((e X).mpr d)⟩
end
def t6 (n:V)(a:List V):List V:=(v5 n a).reverse.dropLast++(v5 n a.reverse).reverse.dropLast
def t8:List V->List (V×V)
 |a::b::r=>(a,b)::t8 (b::r)
 |_=>[]
theorem kP:∀(l:List V) (a b:V),t8 (l++[a]++[b])=t8 (l++[a])++[(a,b)]
 |[],a,b=>rfl
 |[x],a,b=>rfl
 |x::y::l,a,b=>by have:=kP (y::l) a b;simp only[aAY,t8]at this⊢;rw[this]
theorem fK:∀c:List V,t8 c.reverse=(D4 c).reverse
 |[]=>rfl
 |[_]=>rfl
 |b::a::r=>by
  have d:=fK (a::r);rw[aAM,aAM]at*
  rw[kP,d,D4,aAM]
theorem kK:∀(l:List V) (a:V) (m:List V),t8 (l++a::m)=t8 (l++[a])++t8 (a::m)
 |[],a,m=>by cases m<;>rfl
 |[x],a,m=>rfl
 |x::y::l,a,m=>by have:=kK (y::l) a m;simp only[aAY,t8]at this⊢;rw[this]
def W5 (l:List V):List (V×V):=l.zip (l.tail++l.take 1)
theorem mG:∀(l:List V) (z:V),l.zip (l.tail++[z])=t8 (l++[z])
 |[],z=>rfl
 |[a],z=>rfl
 |a::b::r,z=>by have:=mG (b::r) z;simp only[List.tail_cons,aAY,t8,aBW]at this⊢;rw[this]
def aR:W5 (a::l)=t8 (a::l++[a]):=mG (a::l) a
def LD (i:v5 n a=M::c)(j:v5 n a.reverse=m::d)(g:(M::c).getLast?=some m)(k:(m::d).getLast?=some M)(l:c≠[]):
  W5 (t6 n a)=(D4 (v5 n a)).reverse++(D4 (v5 n a.reverse)).reverse:=by
 rw[<-fK,<-fK];unfold t6;rw[i,j,aAM,aAM,aBi,aBi];have b:∃e,c.reverse=m::e:=by
  have:c.getLast?=some m:=by
   match c,l with
   |x::c,_=>rw[aBe]at g;exact g
  rw[<-aEQ]at this;match o:c.reverse,this with
  |x::r,this=>exact⟨r,by rw[show x=m from Option.some.inj this]⟩
 obtain⟨e,b⟩:=b;have f:∃h,d.reverse++[m]=M::h:=by
  have:(m::d).reverse.head?=some M:=by rw[aEQ];exact k
  rw[aAM]at this;match o:d.reverse++[m],this with
  |x::r,this=>exact⟨r,by rw[show x=M from Option.some.inj this]⟩
 obtain⟨h,f⟩:=f;have p:c.reverse++d.reverse=m::(e++d.reverse):=by rw[b];rfl
 rw[p,aR];have q:m::(e++d.reverse)++[m]=c.reverse++(d.reverse++[m]):=by rw[b];simp
 rw[q,f,kK]
def p6 (a b:V):-(a-b)=b-a:=ext (by simp;lia) (by simp;lia) (by simp;lia)
def o7:M8 (a-b)↔i3 (b-a):=by unfold M8;rw[p6]
def I0 (h:i3 (a-a)):False:=by rw[n6]at h;exact A4.irr h
def q8 (h:i3 (a-b))(h':i3 (b-a)):False:=by have:=A4.add h h';have d:a-b+(b-a)=0:=ext (by simp;lia) (by simp;lia) (by simp;lia);rw[d]at this;exact A4.irr this
def K1 (a b:V):a=b\/i3 (a-b)\/i3 (b-a):=by
 rcases UG (a-b)with h|h|h
 .exact .inr (.inl h)
 .refine .inl (ext ?_ ?_ ?_)
  .have:=iu V.x h;simp at this;lia
  .have:=iu V.y h;simp at this;lia
  .have:=iu V.z h;simp at this;lia
 .exact .inr (.inr (o7.mp h))
def yk (P Q X:V):Prop:=(i3 (Q-P)->(X=P\/i3 (X-P))/\(X=Q\/i3 (Q-X)))/\(i3 (P-Q)->(X=P\/i3 (P-X))/\(X=Q\/i3 (X-Q)))
structure EdgeOf (n:V)(T:V->Prop)(P Q:V):Prop where
 p:T P
 q:T Q
 ne:P≠Q
 left:∀X,T X->0<=i4 n (Q-P) (X-P)
 btw:∀X,T X->i4 n (Q-P) (X-P)=0->yk P Q X
section
variable{n:V} {T:V->Prop}
def EdgeOf.next (h:EdgeOf n T P Q)(h':EdgeOf n T P R):Q=R:=by
 have l:=h.left R h'.q;have i:=h'.left Q h.q;rw[j9]at i;have j:i4 n (Q-P) (R-P)=0:=by lia
 have k:i4 n (R-P) (Q-P)=0:=by rw[j9];lia
 have f:=h.btw R h'.q j;have g:=h'.btw Q h.q k;rcases K1 Q P with e|e|e
 .exact absurd e.symm h.ne
 .have b:=f.1 e;have d:i3 (R-P):=b.1.resolve_left (aBU h'.ne);rcases b.2 with q|q
  .exact q.symm
  .rcases(g.1 d).2 with a|a
   .exact a
   .exact(q8 q a).elim
 .have b:=f.2 e;have d:i3 (P-R):=b.1.resolve_left (aBU h'.ne);rcases b.2 with q|q
  .exact q.symm
  .rcases(g.2 d).2 with a|a
   .exact a
   .exact(q8 q a).elim
def oB (n P Q X:V):i4 n (Q-P) (X-P)=i4 n (Q-P) (X-Q):=by have e:X-P=(X-Q)+(Q-P):=ext (by simp;lia) (by simp;lia) (by simp;lia);rw[e,Z3,C0];lia
def EdgeOf.prev (h:EdgeOf n T P R)(h':EdgeOf n T Q R):P=Q:=by
 have k:=h.left Q h'.p;have l:=h'.left P h.p;have m:i4 n (R-Q) (P-Q)=-i4 n (R-P) (Q-P):=by simp[i4,c5];grind
 have i:i4 n (R-P) (Q-P)=0:=by lia
 have j:i4 n (R-Q) (P-Q)=0:=by lia
 have f:=h.btw Q h'.p i;have g:=h'.btw P h.p j;rcases K1 R P with e|e|e
 .exact absurd e.symm h.ne
 .have b:=f.1 e;have d:i3 (R-Q):=b.2.resolve_left h'.ne;rcases b.1 with q|q
  .exact q.symm
  .rcases(g.1 d).1 with a|a
   .exact a
   .exact(q8 q a).elim
 .have b:=f.2 e;have d:i3 (Q-R):=b.2.resolve_left h'.ne;rcases b.1 with q|q
  .exact q.symm
  .rcases(g.2 d).1 with a|a
   .exact a
   .exact(q8 q a).elim
end
theorem oT {Pos:V->Prop}(X:V):∀(c:List V),(∀Y∈c,X=Y\/Pos (X-Y)\/Pos (Y-X))->(∀q,c.head?=some q->X=q\/Pos (q-X))->(∀z,c.getLast?=some z->X=z\/Pos (X-z))->c≠[]->
  (∀u,Pos u->Pos (-u)->False)->X∈c\/∃a b,(a,b)∈D4 c/\Pos (X-a)/\Pos (b-X)
 |[],_,_,_,h,_=>absurd rfl h
 |[q],_,d,f,_,g=>by
  rcases d q rfl with e|e
  .exact .inl (by simp[e])
  .rcases f q rfl with e'|e'
   .exact .inl (by simp[e'])
   .exact(g _ e (by rw[p6];exact e')).elim
 |b::a::r,i,d,f,_,g=>by
  rcases d b rfl with e|e
  .exact .inl (by simp[e])
  .rcases i a (by simp)with y|y|y
   .exact .inl (by simp[y])
   .exact .inr ⟨a,b,by simp[D4],y,e⟩
   .rcases oT X (a::r) (λY j=>i Y (aAe _ j)) (λq k=>by have:a=q:=Option.some.inj k;subst this;exact .inr y) (λz l=>f z (by rw[aBe];exact l)) (by simp) g with h|⟨m,n,h,o⟩
    .exact .inl (aAe _ h)
    .exact .inr ⟨m,n,N4 h,o⟩
def Row.ad5 {Pos:V->Prop}{T:V->Prop}(F:Row n Pos T)(g:T a)(h:T b)(d:T P)(i:T Q)(j:Pos (P-a))(k:Pos (b-P))(l:Pos (Q-P))(m:0<=i4 n (b-a) (P-a))(f:0<i4 n (Q-P) (a-P))(o:0<=i4 n (Q-P) (b-P)):False:=by
 have p:i4 n (Q-P) (a-P)=i4 n (P-a) (Q-P):=by have e:a-P=-(P-a):=(p6 _ _).symm;rw[e,J8,j9];lia
 rw[p]at f;have:=F.cone.tr j l k (w8 F.nz (F.pl _ _ d g) (F.pl _ _ i d)<|F.pl _ _ h d) f o;have q:b-a=(b-P)+(P-a):=ext (by simp;lia) (by simp;lia) (by simp;lia);rw[q,Z0,C0,j9]at m
 lia
structure Sheet (n:V)(ts:List V):Prop where
 nz:n≠0
 pl:∀X∈ts,∀Y∈ts,c5 n (X-Y)=0
 ord:ts.Pairwise (λa b=>i3 (b-a))
 two:∃X∈ts,∃Y∈ts,X≠Y
section
variable{n:V} {ts:List V} (S:Sheet n ts)
include S
theorem Sheet.row:Row n i3 (λX=>X∈ts):=⟨A4,S.nz,λX Y a b=>S.pl X a Y b,λX Y _ _=>K1 X Y⟩
theorem Sheet.ae6:Row n M8 (λX=>X∈ts):=⟨Y5,S.nz,λX Y a b=>S.pl X a Y b,λX Y _ _=>by
 rcases K1 X Y with h|h|h
 .exact .inl h
 .exact .inr (.inr (o7.mpr h))
 .exact .inr (.inl (o7.mpr h))⟩
theorem Sheet.ne:ts≠[]:=by obtain⟨X,a,_⟩:=S.two;intro e;rw[e]at a;cases a
theorem Sheet.ab1:ChOk n i3 (λX=>X∈ts) (v5 n ts)/\v5 n ts≠[]/\(∀X q,(v5 n ts).head?=some q->X∈ts->X=q\/i3 (q-X)):=
 S.row.ad1 S.ne (λ_ h=>h) S.ord
theorem Sheet.ab2:ChOk n M8 (λX=>X∈ts) (v5 n ts.reverse)/\v5 n ts.reverse≠[]/\(∀X q,(v5 n ts.reverse).head?=some q->X∈ts->X=q\/M8 (q-X)):=by
 have h:=S.ae6.ad1 (ps:=ts.reverse) (by simpa using S.ne) (λX h=>by simpa using h) (by rw[aEi];exact S.ord.imp λh=>o7.mpr h)
 obtain⟨a,b,d⟩:=h;exact⟨ChOk.congr S.ae6 a λX=>by simp,b,λX q e f=>d X q e (by simpa using f)⟩
theorem Sheet.ae1 (h:(a,b)∈D4 (v5 n ts))(i:a∈ts)(j:b∈ts):EdgeOf n (λX=>X∈ts) a b/\i3 (b-a):=by obtain⟨d,f⟩:=S.ab1.1.ed _ h;dsimp only at d f;refine⟨⟨i,j,λe=>by subst e;exact I0 d,λX g=>(f X g).1,λX g z=>⟨λ_=>(f X g).2 z,λy=>(q8 d y).elim⟩⟩,d⟩
theorem Sheet.ad9 (h:(a,b)∈D4 (v5 n ts.reverse))(j:a∈ts)(k:b∈ts):EdgeOf n (λX=>X∈ts) a b/\i3 (a-b):=by obtain⟨i,f⟩:=S.ab2.1.ed _ h;dsimp only at i f;have d:=o7.mp i;refine⟨⟨j,k,λe=>by subst e;exact I0 d,λX g=>(f X g).1,λX g z=>⟨λy=>(q8 d y).elim,λ_=>?_⟩⟩,d⟩;obtain⟨l,m⟩:=(f X g).2 z;exact⟨l.imp id o7.mp,m.imp id o7.mp⟩
theorem K7 (h:(a,b)∈D4 c):a∈c/\b∈c:=by
 induction c with
 |nil=>cases h
 |cons x c d=>
  match c,h,d with
  |[],h,_=>cases h
  |y::r,h,d=>
   rcases aAd.mp h with e|e
   .cases e;simp
   .have:=d e;exact⟨aAe _ this.1,aAe _ this.2⟩
theorem Sheet.ends:∃m M c d,m∈ts/\M∈ts/\i3 (M-m)/\(∀X∈ts,X=m\/i3 (X-m))/\(∀X∈ts,X=M\/i3 (M-X))/\v5 n ts=M::c/\v5 n ts.reverse=m::d/\(M::c).getLast?=some m/\(m::d).getLast?=some M/\c≠[]/\d≠[]:=by
 obtain⟨j,t,u⟩:=S.ab1;obtain⟨l,v,w⟩:=S.ab2;obtain⟨M,c,a⟩:=aEK t;obtain⟨m,d,b⟩:=aEK v;have o:M∈ts:=j.mem M (by rw[a];simp);have r:m∈ts:=l.mem m (by rw[b];simp);have p:∀X∈ts,X=M\/i3 (M-X):=λX f=>u X M (by rw[a];rfl) f;have g:∀X∈ts,X=m\/i3 (X-m):=λX f=>(w X m (by rw[b];rfl) f).imp id o7.mp;obtain⟨z,h⟩:∃z,(M::c).getLast?=some z:=by simp[aER]
 obtain⟨y,i⟩:∃z,(m::d).getLast?=some z:=by simp[aER]
 have x:z=m:=by
  have A:z∈ts:=j.mem z (by rw[a];exact aCS h);rcases j.last m r z (by rw[a];exact h)with e|e
  .exact e.symm
  .rcases g z A with e'|e'
   .exact e'
   .exact(q8 e e').elim
 have B:y=M:=by
  have C:y∈ts:=l.mem y (by rw[b];exact aCS i);rcases l.last M o y (by rw[b];exact i)with e|e
  .exact e.symm
  .rcases p y C with e'|e'
   .exact e'
   .exact(q8 (o7.mp e) e').elim
 subst x B;have q:i3 (y-z):=by
  obtain⟨X,f,Y,E,ne⟩:=S.two;rcases g y o with e|e
  .exfalso;subst e;have k:∀W∈ts,W=y:=λW s=>by
    rcases g W s with e|e
    .exact e
    .rcases p W s with e'|e'
     .exact e'
     .exact(q8 e e').elim
   exact ne ((k X f).trans (k Y E).symm)
  .exact e
 refine⟨z,y,c,d,r,o,q,g,p,a,b,h,i,λe=>?_,λe=>?_⟩
 .subst e;have:y=z:=by simpa using h
  subst this;exact I0 q
 .subst e;have:z=y:=by simpa using i
  subst this;exact I0 q
theorem Sheet.pair (h:(P,Q)∈W5 (t6 n ts)):EdgeOf n (λX=>X∈ts) P Q:=by
 obtain⟨m,M,c,d,i,j,k,l,o,a,b,e,f,g,p⟩:=S.ends;rw[LD a b e f g,aAX,aCv,aCv]at h;rcases h with h|h
 .have:=K7 S h;exact(S.ae1 h (S.ab1.1.mem _ this.1)<|S.ab1.1.mem _ this.2).1
 .have:=K7 S h;exact(S.ad9 h (S.ab2.1.mem _ this.1)<|S.ab2.1.mem _ this.2).1
theorem dQ (h:P∈l):∃Q,(P,Q)∈W5 l:=by
 obtain⟨i,b,e⟩:=aBo h;have d:l.length=(l.tail++l.take 1).length:=by
  match l,b with
  |a::l,_=>simp
 refine⟨(l.tail++l.take 1)[i]'(by lia),?_⟩;unfold W5;refine List.mem_of_getElem (i:=i) (h:=by rw[List.length_zip];lia) ?_;rw[List.getElem_zip,e]
theorem Sheet.ab9 (h:EdgeOf n (λX=>X∈ts) P Q):P∈t6 n ts:=by
 obtain⟨m,M,c,d,T,U,mM,C,E,A,B,h3,h4,hc,hd⟩:=S.ends;obtain⟨o,H,I⟩:=S.ab1;obtain⟨i,J,L⟩:=S.ab2;unfold t6;rw[aAX,A,B,aAM,aAM,aBi,aBi,aCv,aCv];rcases K1 Q P with e|e|e
 .exact absurd e.symm h.ne
 .
  left;rcases oT (Pos:=i3) P (v5 n ts) (λY _=>K1 P Y) (λq s=>I P q s h.p) (λz t=>o.last P h.p z t) H (λu a b=>by have:=A4.add a b;have v:u+-u=0:=ext (by simp;lia) (by simp;lia) (by simp;lia);rw[v]at this;exact A4.irr this)with r|⟨a,b,r,g,w⟩
  .rw[A]at r;rcases aAd.mp r with q|q
   .subst q;rcases E Q h.q with y|y
    .exact absurd y.symm h.ne
    .exact(q8 e y).elim
   .exact q
  .exfalso;have j:=K7 S r;have f:=o.mem _ j.1;have k:=o.mem _ j.2;have N:=h.left a f;have x:i4 n (Q-P) (a-P)≠0:=λz=>by
    rcases((h.btw a f z).1 e).1 with y|y
    .subst y;exact I0 g
    .exact q8 g y
   exact S.row.ad5 f k h.p h.q g w e ((o.ed _ r).2 P h.p).1 (by lia) (h.left b k)
 .right;rcases oT (Pos:=M8) P (v5 n ts.reverse) (λY _=>S.ae6.tot P Y h.p (by rename_i O;exact i.mem Y O)) (λq s=>L P q s h.p) (λz t=>i.last P h.p z t) J (λu a b=>by have:=Y5.add a b;have v:u+-u=0:=ext (by simp;lia) (by simp;lia) (by simp;lia);rw[v]at this;exact Y5.irr this)with r|⟨a,b,r,g,w⟩
  .rw[B]at r;rcases aAd.mp r with q|q
   .subst q;rcases C Q h.q with y|y
    .exact absurd y.symm h.ne
    .exact(q8 e y).elim
   .exact q
  .exfalso;have j:=K7 S r;have f:=i.mem _ j.1;have k:=i.mem _ j.2;have N:=h.left a f;have l:=o7.mp g;have x:i4 n (Q-P) (a-P)≠0:=λz=>by
    rcases((h.btw a f z).2 e).1 with y|y
    .subst y;exact I0 l
    .exact q8 l y
   exact S.ae6.ad5 f k h.p h.q g w (o7.mpr e) ((i.ed _ r).2 P h.p).1 (by lia) (h.left b k)
theorem Sheet.aa1:(P,Q)∈W5 (t6 n ts)↔EdgeOf n (λX=>X∈ts) P Q:=by
 refine⟨S.pair,λh=>?_⟩;obtain⟨R,a⟩:=dQ S (S.ab9 h);have:=(S.pair a).next h
 subst this;exact a
end
theorem M5 {Pos:V->Prop}(C:Cone Pos):∀(c:List V),(∀e∈D4 c,Pos (e.2-e.1))->c.Pairwise (λb a=>Pos (b-a))
 |[],_=>aGq
 |[x],_=>aDS _ _
 |b::a::r,h=>by
  have d:=M5 C (a::r) (λe g=>h e (N4 g));have f:=h (a,b) (by simp[D4]);refine aAz.mpr ⟨λy i=>?_,d⟩;rcases aAd.mp i with e|e
  .subst e;exact f
  .have:=(aAz.mp d).1 y e;have s:=C.add f this;have j:b-a+(a-y)=b-y:=ext (by simp;lia) (by simp;lia) (by simp;lia);dsimp only at s
   rwa [j]at s
theorem jD:∀{h:V} {c:List V} {X:V},X∈c->∃b,(X,b)∈D4 (h::c)
 |h,[],X,d=>by cases d
 |h,a::r,X,d=>by
  rcases aAd.mp d with e|e
  .subst e;exact⟨h,by simp[D4]⟩
  .obtain⟨b,f⟩:=jD (h:=a) e;exact⟨b,N4 f⟩
section
variable{n:V} {ts:List V} (S:Sheet n ts)
include S
theorem Sheet.aa3 (h:X∈t6 n ts):X∈ts:=by obtain⟨Q,a⟩:=dQ S h;exact(S.pair a).p
theorem Sheet.aa5:(t6 n ts).Nodup:=by
 obtain⟨m,M,c,d,E,H,I,J,L,f,g,N,O,Q,T⟩:=S.ends;obtain⟨i,U,Y⟩:=S.ab1;obtain⟨j,n2,t2⟩:=S.ab2;unfold t6;rw[f,g,aAM,aAM,aBi,aBi];have p:=M5 A4 (v5 n ts) λe k=>(i.ed e k).1;have q:=M5 Y5 (v5 n ts.reverse) λe k=>(j.ed e k).1;rw[f]at p;rw[g]at q;have v:=(aAz.mp p).2;have w:=(aAz.mp q).2;rw[aCT];refine⟨?_,?_,?_⟩
 .rw[aCg,aEi];exact v.imp λ{a b} h e=>by subst e;exact I0 h
 .rw[aCg,aEi];exact w.imp λ{a b} h e=>by subst e;exact I0 (o7.mp h)
 .intro x r y s e;subst e;rw[aCv]at r s;obtain⟨b,l⟩:=jD (h:=M) r;obtain⟨b',o⟩:=jD (h:=m) s;rw[<-f]at l;rw[<-g]at o;have t:=K7 S l;have u:=K7 S o;obtain⟨z,A⟩:=S.ae1 l (i.mem _ t.1) (i.mem _ t.2);obtain⟨B,C⟩:=S.ad9 o (j.mem _ u.1) (j.mem _ u.2);have:=z.next B;subst this;exact q8 A C
theorem Sheet.ac4:∃m r,t6 n ts=m::r/\m∈ts/\∀X∈ts,X=m\/i3 (X-m):=by
 obtain⟨m,M,c,d,f,k,l,g,o,h,i,e,p,j,q⟩:=S.ends;have a:∃b,c.reverse=m::b:=by
  have:c.getLast?=some m:=by
   match c,j with
   |x::c,_=>rw[aBe]at e;exact e
  rw[<-aEQ]at this;match s:c.reverse,this with
  |x::r,this=>exact⟨r,by rw[show x=m from Option.some.inj this]⟩
 obtain⟨b,a⟩:=a;refine⟨m,b++d.reverse,?_,f,g⟩;unfold t6;rw[h,i,aAM,aAM,aBi,aBi,a];rfl
theorem mF (h:Q∈l):∃P,(P,Q)∈W5 l:=by
 match l,h with
 |a::r,h=>
  have b:Q∈r++[a]:=by simpa[or_comm]using h
  obtain⟨i,d,e⟩:=aBo b;have f:i<(a::r).length:=by simpa using d
  refine⟨(a::r)[i],?_⟩;show _∈(a::r).zip (r++[a]);refine List.mem_of_getElem (i:=i) (h:=by rw[List.length_zip];simp;omega) ?_;rw[List.getElem_zip,e]
theorem mD (h:(P,Q)∈W5 l):P∈l/\Q∈l:=by
 have b:=aDT h;refine⟨b.1,?_⟩;match l,b.2 with
 |a::r,z=>simpa[or_comm]using z
theorem Sheet.strict (h:EdgeOf n (λX=>X∈ts) P Q)(A:X∈t6 n ts)(t:X≠P)(u:X≠Q):0<i4 n (Q-P) (X-P):=by
 have d:=S.aa3 A;have H:=h.left X d;by_cases z:i4 n (Q-P) (X-P)=0
 .exfalso;have b:=h.btw X d z;obtain⟨Y,C⟩:=dQ S A;have g:=S.pair C;have v:=g.left P h.p;have m:=g.left Q h.q;rcases K1 Q P with e|e|e
  .exact h.ne e.symm
  .have o:=b.1 e;have f:=o.1.resolve_left t;have i:=o.2.resolve_left u;have E:i4 n (X-P) (Q-X)=0:=by have a:Q-P=(Q-X)+(X-P):=ext (by simp;lia) (by simp;lia) (by simp;lia);rw[a,Z0,C0,j9]at z;lia
   have r:0<=i4 n (X-P) (Y-X):=by have a:P-X=-(X-P):=(p6 _ _).symm;rw[a,J8]at v;rw[j9];lia
   rcases K1 Y X with y|y|y
   .exact g.ne y.symm
   .have I:=S.row.weak f y i (S.pl _ d _ h.p) (S.pl _ g.q _ d) (S.pl _ h.q _ d) r m;by_cases j:0<i4 n (X-P) (Y-X)
    .have:=A4.tr f y i (w8 S.nz (S.pl _ d _ h.p) (S.pl _ g.q _ d)<|S.pl _ h.q _ d) j m
     lia
    .have l:i4 n (Y-X) (P-X)=0:=by have a:P-X=-(X-P):=(p6 _ _).symm;rw[a,J8,j9];lia
     rcases((g.btw P h.p l).1 y).1 with k|k
     .exact t k.symm
     .exact q8 k f
   .have s:i3 (X-Y):=y;have B:0<=i4 n (X-Y) (X-P):=by have a:Y-X=-(X-Y):=(p6 _ _).symm;rw[a,J8,j9]at r;lia
    have w:0<=i4 n (Q-X) (X-Y):=by have a:Y-X=-(X-Y):=(p6 _ _).symm;rw[a,Z4,j9]at m;lia
    by_cases j:0<i4 n (Q-X) (X-Y)
    .have:=A4.tr i s f (w8 S.nz (S.pl _ h.q _ d) (S.pl _ d _ g.q)<|S.pl _ d _ h.p) j B;rw[j9]at this;lia
    .have l:i4 n (Y-X) (Q-X)=0:=by have a:Y-X=-(X-Y):=(p6 _ _).symm;rw[a,Z4,j9];lia
     rcases((g.btw Q h.q l).2 s).1 with k|k
     .exact u k.symm
     .exact q8 k i
  .have o:=b.2 e;have f:=o.1.resolve_left t;have i:=o.2.resolve_left u;have E:i4 n (P-X) (X-Q)=0:=by have a:Q-P=-((P-X)+(X-Q)):=ext (by simp;lia) (by simp;lia) (by simp;lia);have x:X-P=-(P-X):=(p6 _ _).symm;rw[a,x,Z4,J8,Z0,C0,j9]at z;lia
   rcases K1 Y X with y|y|y
   .exact g.ne y.symm
   .
    have w:0<=i4 n (X-Q) (Y-X):=by have a:Q-X=-(X-Q):=(p6 _ _).symm;rw[a,J8,j9]at m;lia
    by_cases j:0<i4 n (X-Q) (Y-X)
    .have:=A4.tr i y f (w8 S.nz (S.pl _ d _ h.q) (S.pl _ g.q _ d)<|S.pl _ h.p _ d) j v;rw[j9]at this;lia
    .have l:i4 n (Y-X) (Q-X)=0:=by have a:Q-X=-(X-Q):=(p6 _ _).symm;rw[a,J8,j9];lia
     rcases((g.btw Q h.q l).1 y).1 with k|k
     .exact u k.symm
     .exact q8 k i
   .have s:i3 (X-Y):=y;have B:0<=i4 n (P-X) (X-Y):=by have a:Y-X=-(X-Y):=(p6 _ _).symm;rw[a,Z4,j9]at v;lia
    have w:0<=i4 n (X-Y) (X-Q):=by have a:Y-X=-(X-Y):=(p6 _ _).symm;have x:Q-X=-(X-Q):=(p6 _ _).symm;rw[a,x,Z4,J8]at m;lia
    by_cases j:0<i4 n (P-X) (X-Y)
    .have:=A4.tr f s i (w8 S.nz (S.pl _ h.p _ d) (S.pl _ d _ g.q)<|S.pl _ d _ h.q) j w
     lia
    .have l:i4 n (Y-X) (P-X)=0:=by have a:Y-X=-(X-Y):=(p6 _ _).symm;rw[a,Z4,j9];lia
     rcases((g.btw P h.p l).2 s).1 with k|k
     .exact t k.symm
     .exact q8 k f
 .lia
end
def iN {a:V}(h:a≠0):a.x≠0\/a.y≠0\/a.z≠0:=by
 by_cases p:a.x=0
 .by_cases q:a.y=0
  .by_cases r:a.z=0
   .exact absurd (ext p q r) h
   .exact .inr (.inr r)
  .exact .inr (.inl q)
 .exact .inl p
def v7 {a w:V}(d:a≠0)(h:cr a w=0):∃k m:Int,0<k/\k*w=m*a:=by
 have f:=iu V.x h;have g:=iu V.y h;have i:=iu V.z h;simp at f g i;have b:∀k m:Int,k≠0->k*w=m*a->∃k m:Int,0<k/\k*w=m*a:=λk m o e=>by
  by_cases p:0<k
  .exact⟨k,m,p,e⟩
  .refine⟨-k,-m,by lia,?_⟩;have j:=iu V.x e;have l:=iu V.y e;have n:=iu V.z e;simp at j l n;apply ext<;>simp<;>grind
 rcases iN d with p|p|p
 .exact b a.x w.x p (by apply ext<;>simp<;>grind)
 .exact b a.y w.y p (by apply ext<;>simp<;>grind)
 .exact b a.z w.z p (by apply ext<;>simp<;>grind)
def ConeM.ad2 {Pos:V->Prop}(C:ConeM a Pos)(d:a≠0)(f:Pos w):cr a w≠0:=λh=>by
 obtain⟨k,m,g,e⟩:=v7 d h;have b:=C.inv (-m) (C.mul g f);rw[e]at b;have i:m*a+-m*a=0:=by apply ext<;>simp<;>grind
 rw[i]at b;exact C.irr b
def F1 (a A:V):List V->V->V->V×V
 |[],d,b=>(d,b)
 |P::e,d,b=>if d=0\/0<c5 d (P-A)then F1 a A e (cr a (P-A)) P else F1 a A e d b
def SK (a A:V)(Pos:V->Prop)(seen:V->Prop)(d b:V):Prop:=
 (d=0/\∀P,seen P->cr a (P-A)=0)\/(seen b/\Pos (b-A)/\d=cr a (b-A)/\∀P,seen P->i4 a (b-A) (P-A)<=0)
def gH (h:cr a w=0)(u:V):i4 a u w=0:=by
 have e:i4 a u w=-c5 (cr a w) u:=by simp[i4,c5];grind
 rw[e,h];simp[c5]
theorem qU {Pos:V->Prop}(C:ConeM a Pos)(s:a≠0):∀(j:List V) (seen:V->Prop) (f d:V),SK a A Pos seen f d->(∀P,seen P->Pos (P-A)\/cr a (P-A)=0)->(∀P∈j,Pos (P-A)\/cr a (P-A)=0)->
  SK a A Pos (λP=>seen P\/P∈j) (F1 a A j f d).1 (F1 a A j f d).2
 |[],seen,f,d,h,_,_=>by
  show SK a A Pos _ f d;rcases h with⟨i,g⟩|⟨i,g,k,l⟩
  .exact .inl ⟨i,λP b=>g P (by simpa using b)⟩
  .exact .inr ⟨.inl i,g,k,λP b=>l P (by simpa using b)⟩
 |Q::j,seen,f,d,h,t,u=>by
  have m:=u Q (by simp);have n:SK a A Pos (λP=>seen P\/P=Q) (if f=0\/0<c5 f (Q-A)then(cr a<|Q-A)else f) (if f=0\/0<c5 f (Q-A)then Q else d):=by
   rcases h with⟨i,g⟩|⟨i,g,k,l⟩
   .rw[h9 (.inl i),h9 (.inl i)];by_cases z:cr a (Q-A)=0
    .exact .inl ⟨z,λP b=>by
      rcases b with b|b
      .exact g P b
      .subst b;exact z⟩
    .refine .inr ⟨.inr rfl,m.resolve_right z,rfl,λP b=>?_⟩;rcases b with b|b
     .rw[gH (g P b)];exact aBV _
     .subst b;rw[C0];exact aBV _
   .have v:f≠0:=by rw[k];exact C.ad2 s g
    have o:c5 f (Q-A)=i4 a (d-A) (Q-A):=by rw[k,T1]
    by_cases z:0<c5 f (Q-A)
    .rw[h9 (.inr z),h9 (.inr z)];have w:Pos (Q-A):=by
      rcases m with q|q
      .exact q
      .rw[o,gH q]at z;lia
     refine .inr ⟨.inr rfl,w,rfl,λP b=>?_⟩;rcases b with b|b
     .by_cases x:i4 a (Q-A) (P-A)<=0
      .exact x
      .exfalso;have p:Pos (P-A):=by
        rcases t P b with q|q
        .exact q
        .rw[gH q]at x;lia
       have:=C.tr g w p (by rw[<-o];exact z) (by lia);have:=l P b
       lia
     .subst b;rw[C0];exact aBV _
    .rw[ic (by rintro(q|q);exact v q;exact z q),ic (by rintro(q|q);exact v q;exact z q)];refine .inr ⟨.inl i,g,k,λP b=>?_⟩;rcases b with b|b
     .exact l P b
     .subst b;rw[<-o];lia
  have r:=qU C s j (λP=>seen P\/P=Q) _ _ n (λP b=>by
   rcases b with b|b
   .exact t P b
   .subst b;exact m) (λP b=>u P (aAe _ b))
  have e:F1 a A (Q::j) f d=F1 a A j (if f=0\/0<c5 f (Q-A)then(cr a<|Q-A)else f) (if f=0\/0<c5 f (Q-A)then Q else d):=by rw[F1];split<;>rfl
  rw[e];have y:(λP=>(seen P\/P=Q)\/P∈j)=(λP=>seen P\/P∈Q::j):=by funext P;simp[or_assoc]
  rw[<-y];exact r
def JX {Pos:V->Prop}(C:ConeM a Pos)(e:a≠0)(g:∀P∈j,Pos (P-A)\/cr a (P-A)=0)(i:∃P∈j,Pos (P-A)):
  (F1 a A j 0 A).2∈j/\Pos ((F1 a A j 0 A).2-A)/\∀P∈j,i4 a ((F1 a A j 0 A).2-A) (P-A)<=0:=by
 have h:=qU C e j (λ_=>False) 0 A (.inl ⟨rfl,λ_ h=>h.elim⟩) (λ_ h=>h.elim) g;rcases h with⟨f,b⟩|⟨f,b,m,k⟩
 .obtain⟨P,d,l⟩:=i;exact absurd (b P<|.inr d) (C.ad2 e l)
 .exact⟨by simpa using f,b,λP d=>k P (.inr d)⟩
def x9 (v:V):Nat:=Nat.gcd (Nat.gcd v.x.natAbs v.y.natAbs) v.z.natAbs
def jU (v:V)(g:Int):V:=⟨v.x/g,v.y/g,v.z/g⟩
def cM (n:V):Prop:=x9 n=1
def mV (k:Int)(v:V):x9 (k*v)=k.natAbs*x9 v:=by unfold x9;simp[Int.natAbs_mul,Nat.gcd_mul_left]
def IC (h:x9 v=0):v=0:=by unfold x9 at h;have a:=Nat.gcd_eq_zero_iff.mp h;have b:=Nat.gcd_eq_zero_iff.mp a.1;exact ext (aES.mp b.1) (aES.mp b.2) (aES.mp a.2)
def MW (v:V):(x9 v:Int)∣v.x/\(x9 v:Int)∣v.y/\(x9 v:Int)∣v.z:=by
 unfold x9;refine⟨?_,?_,?_⟩
 .exact aET.mpr (Nat.dvd_trans (aFv _ _)<|aFv _ _)
 .exact aET.mpr (Nat.dvd_trans (aFv _ _)<|Nat.gcd_dvd_right _ _)
 .exact aET.mpr (Nat.gcd_dvd_right _ _)
def jM (h:c≠0):0<(x9 c:Int)/\c=(x9 c:Int)*jU c (x9 c)/\cM (jU c (x9 c)):=by
 have i:x9 c≠0:=λz=>h (IC z);have a:0<(x9 c:Int):=by lia
 obtain⟨b,d,f⟩:=MW c;have e:c=(x9 c:Int)*jU c (x9 c):=by
  apply ext
  .show _=_*(c.x/_);rw[aEv b]
  .show _=_*(c.y/_);rw[aEv d]
  .show _=_*(c.z/_);rw[aEv f]
 refine⟨a,e,?_⟩;have:=iu x9 e;rw[mV]at this;simp only[Int.natAbs_natCast]at this;unfold cM;have g:x9 c*1=x9 c*x9 (jU c<|x9 c):=by lia
 exact(Nat.eq_of_mul_eq_mul_left (by lia) g).symm
def cM.ne (h:cM n):n≠0:=λe=>by subst e;unfold cM at h;exact absurd h (by decide)
def vD {n m:V}{k l:Int}(g:cM n)(h:cM m)(i:0<k)(j:0<l)(e:k*n=l*m):n=m:=by
 have:=iu x9 e;rw[mV,mV,g,h]at this;have a:k=l:=by lia
 subst a;have b:=iu V.x e;have d:=iu V.y e;have f:=iu V.z e;simp at b d f;exact ext (aDE (by lia) b) (aDE (by lia) d) (aDE (by lia) f)
def j7 (P Q R:V):V×Int:=let n:=jU (cr (Q-P)<|R-P) (x9<|cr (Q-P)<|R-P);(n,c5 n P)
structure IsFace (j:List V)(n:V)(d:Int):Prop where
 prim:cM n
 sup:∀X∈j,c5 n X<=d
 three:∃A∈j,∃B∈j,∃C∈j,c5 n A=d/\c5 n B=d/\c5 n C=d/\cr (B-A) (C-A)≠0
def C9 (a:c5 n u=0)(b:c5 n v=0):cr n (cr u v)=0:=by simp[c5]at a b;apply ext<;>simp<;>grind
def cA (f:c≠0)(a:cr n c=0)(b:cr m c=0):cr n m=0:=by
 have h:cr c n=0:=by have:=iu V.x a;have:=iu V.y a;have:=iu V.z a;simp at*;apply ext<;>simp<;>grind
 have i:cr c m=0:=by have:=iu V.x b;have:=iu V.y b;have:=iu V.z b;simp at*;apply ext<;>simp<;>grind
 obtain⟨k,p,r,j⟩:=v7 f h;obtain⟨l,q,s,o⟩:=v7 f i;have e:(k*l)*cr n m=0:=by
  have:(k*l)*cr n m=cr (k*n) (l*m):=by apply ext<;>simp<;>grind
  rw[this,j,o];apply ext<;>simp<;>grind
 have d:k*l≠0:=λz=>by rcases aAn.mp z with q|q<;>lia
 have a:=iu V.x e;have b:=iu V.y e;have g:=iu V.z e;simp only[oO,oR,oC,bZ,cS,bX]at a b g;exact ext ((aAn.mp a).resolve_left d) ((aAn.mp b).resolve_left d) ((aAn.mp g).resolve_left d)
def gB {j:List V}{n m:V}{d e:Int}(g:cM n)(a:cM m)(sn:∀X∈j,c5 n X<=d)(h:∀X∈j,c5 m X<=e){A B C Z:V}(H:c5 n A=d)(I:c5 n B=d)(J:c5 n C=d)(i:c5 m A=e)(o:c5 m B=e)(r:c5 m C=e)
  (s:cr (B-A) (C-A)≠0) (t:Z∈j) (hz:c5 n Z<d):n=m/\d=e:=by
 have u:cr n (cr (B-A)<|C-A)=0:=C9 (by rw[d8];lia) (by rw[d8];lia);have w:cr m (cr (B-A)<|C-A)=0:=C9 (by rw[d8];lia) (by rw[d8];lia);have p:=cA s w u;obtain⟨k,l,b,f⟩:=v7 a.ne p;have x:0<l:=by
  have q:=iu (λv=>c5 v (Z-A)) f;rw[L5,L5]at q;have y:c5 n (Z-A)<0:=by rw[d8];lia
  have L:c5 m (Z-A)<=0:=by rw[d8];have:=h Z t;lia
  have N:k*c5 n (Z-A)<0:=aAB b y;by_cases z:0<l
  .exact z
  .exfalso;have:0<=l*c5 m (Z-A):=by
    have:=aBc (show 0<=-l by lia) (show 0<=-c5 m (Z-A)by lia)
    rwa [aDq]at this
   lia
 have E:=vD g a b x f;subst E;exact⟨rfl,by lia⟩
def b8 (A B:V)(j:List V):V×Int:=j7 A B (F1 (B-A) A j 0 A).2
def w6 (n:V)(d:Int)(j:List V):List V:=j.filter λX=>decide (c5 n X=d)
def c8:X∈w6 n d j↔X∈j/\c5 n X=d:=by simp[w6]
def nF (h:cr (Q-P) (R-P)≠0):∃g:Int,0<g/\cr (Q-P) (R-P)=g*(j7 P Q R).1/\cM (j7 P Q R).1/\(j7 P Q R).2=c5 (j7 P Q R).1 P:=by obtain⟨a,b,d⟩:=jM h;exact⟨_,a,b,d,rfl⟩
def V2 {Pos:V->Prop}(C:ConeM (B-A) Pos)(d:B-A≠0)(o:∀P∈j,Pos (P-A)\/cr (B-A) (P-A)=0)(p:∃P∈j,Pos (P-A)):
  ∃(a:V) (g:Int),a∈j/\Pos (a-A)/\0<g/\cr (B-A) (a-A)=g*(b8 A B j).1/\cM (b8 A B j).1/\(b8 A B j).2=c5 (b8 A B j).1 A/\
   (∀P∈j,c5 (b8 A B j).1 P<=(b8 A B j).2)/\c5 (b8 A B j).1 B=(b8 A B j).2/\c5 (b8 A B j).1 a=(b8 A B j).2/\
   (∀P∈j,c5 (b8 A B j).1 P=(b8 A B j).2->i4 (B-A) (a-A) (P-A)=0):=by
 obtain⟨q,f,r⟩:=JX C d o p;have s:=C.ad2 d f;obtain⟨g,i,k,t,l⟩:=nF s;have b:∀w:V,g*c5 (b8 A B j).1 w=i4 (B-A) ((F1 (B-A) A j 0 A).2-A) w:=λw=>by have:c5 (cr (B-A)<|(F1 (B-A) A j 0 A).2-A) w=i4 (B-A) ((F1 (B-A) A j 0 A).2-A) w:=T1 _ _ _;rw[<-this,k,L5];rfl
 have v:(b8 A B j).2=c5 (b8 A B j).1 A:=l;have m:∀w:V,i4 (B-A) ((F1 (B-A) A j 0 A).2-A) w=0->c5 (b8 A B j).1 w=0:=λw u=>by have:=b w;rw[u]at this;exact(aAn.mp this).resolve_left (by lia)
 refine⟨_,g,q,f,i,k,t,l,λP n=>?_,?_,?_,λP n e=>?_⟩
 .have h:=r P n;rw[<-b]at h;have:c5 (b8 A B j).1 (P-A)<=0:=by
   by_cases z:c5 (b8 A B j).1 (P-A)<=0
   .exact z
   .have:=aBd i (show 0<c5 (b8 A B j).1 (P-A)by lia)
    lia
  rw[d8]at this
  lia
 .have:=m (B-A) (by simp[i4,c5];grind);rw[d8]at this;lia
 .have:=m ((F1 (B-A) A j 0 A).2-A) (C0 _ _);rw[d8]at this;lia
 .rw[<-b,d8];have:c5 (b8 A B j).1 P-c5 (b8 A B j).1 A=0:=by lia
  rw[this];simp
def wF {Pos:V->Prop}(C:ConeM a Pos)(d:a≠0)(e:Pos o)(f:Pos w)(h:i4 a o w=0):0<c5 (cr a o) (cr a w):=by
 by_cases z:0<c5 (cr a o) (cr a w)
 .exact z
 .exfalso;have g:=C.ad2 d e;have i:=u8 g;have j:Pos (c5 (cr a o) (cr a o)*w+(-c5 (cr a o) (cr a w))*o):=C.comb i (by lia) f e;refine C.ad2 d j ?_;have b:cr (cr a o) (cr a w)=i4 a o w*a:=by simp[i4,c5];apply ext<;>simp<;>grind
  rw[h,u3]at b;have k:cr a (c5 (cr a o) (cr a o)*w+(-c5 (cr a o) (cr a w))*o)=c5 (cr a o) (cr a o)*cr a w+(-c5 (cr a o) (cr a w))*cr a o:=by apply ext<;>simp<;>grind
  rw[k];have l:∀p q:V,c5 p p*q+(-c5 p q)*p=cr p (cr q p):=λp q=>by simp[c5];apply ext<;>simp<;>grind
  rw[l];have m:cr (cr a w) (cr a o)=0:=by have n:=iu V.x b;have r:=iu V.y b;have s:=iu V.z b;simp only[UM,SU,UE,bZ,cS,bX]at n r s;apply ext<;>simp only[UM,SU,UE,bZ,cS,bX]<;>grind
  rw[m];apply ext<;>simp
def yk.symm (h:yk P Q X):yk Q P X:=⟨λa=>⟨(h.2 a).2,(h.2 a).1⟩,λa=>⟨(h.1 a).2,(h.1 a).1⟩⟩
def rP (i:n≠0)(d:c5 n (a-b)=0):ConeM (a-b) (λw=>c5 n w<0\/(c5 n w=0/\0<i4 n (b-a) w))where
 add:=λ{u v} j l=>by
  rw[w4,Z3]
  lia
 mul:=λ{k u} f h=>by
  rw[i6,xK];rcases h with h|⟨h,g⟩
  .exact .inl (aAB f h)
  .exact .inr ⟨by rw[h];simp,aBd f g⟩
 irr:=by rw[D5,dM];lia
 inv:=λ{u} k h=>by
  have e:i4 n (b-a) (a-b)=0:=by have:a-b=-(b-a):=(p6 _ _).symm;rw[this,J8,C0];rfl
  rw[w4,Z3,i6,xK,d,e];simpa using h
def U4 (a:n≠0)(g:c5 n u=0)(i:c5 n w=0)(h:i4 n u w=0):cr u w=0:=by
 have j:cr n (cr u w)=0:=C9 g i;obtain⟨k,m,p,e⟩:=v7 a j;have q:=iu (c5 n) e;rw[i6,i6]at q;have:c5 n (cr u w)=0:=h;rw[this]at q;have l:m=0:=by
  have:=u8 a;have o:m*c5 n n=0:=by lia
  rcases aAn.mp o with z|z
  .exact z
  .lia
 rw[l,u3]at e;have b:=iu V.x e;have d:=iu V.y e;have f:=iu V.z e;simp only[oO,oR,oC,bZ,cS,bX]at b d f;exact ext ((aAn.mp b).resolve_left (by lia)) ((aAn.mp d).resolve_left (by lia)) ((aAn.mp f).resolve_left (by lia))
def yS (h:cr u w=0):cr (-u) w=0:=by have a:=iu V.x h;have b:=iu V.y h;have d:=iu V.z h;simp only[UM,SU,UE,bZ,cS,bX]at a b d;apply ext<;>simp<;>grind
def rG (E:n≠0)(T:∀X∈j,c5 n X<=d)(hz:∃Z∈j,c5 n Z<d)(h:EdgeOf n (λX=>X∈w6 n d j) a b):
  IsFace j (b8 b a j).1 (b8 b a j).2/\EdgeOf (b8 b a j).1 (λX=>X∈w6 (b8 b a j).1 (b8 b a j).2 j) b a:=by
 obtain⟨H,da⟩:=c8.mp h.p;obtain⟨pb,db⟩:=c8.mp h.q;have o:c5 n (a-b)=0:=by rw[d8];lia
 have t:c5 n (b-a)=0:=by rw[d8];lia
 have C:=rP (n:=n) E o;have r:a-b≠0:=λe=>h.ne (by have U:=iu V.x e;have Y:=iu V.y e;have q3:=iu V.z e;simp at U Y q3;exact ext (by lia) (by lia) (by lia))
 have u:∀P∈j,(c5 n (P-b)<0\/(c5 n (P-b)=0/\0<i4 n (b-a) (P-b)))\/cr (a-b) (P-b)=0:=λP I=>by
  have h1:=T P I;by_cases z:c5 n P<d
  .exact .inl (.inl (by rw[d8];lia))
  .have e:c5 n P=d:=by lia
   have tP:P∈w6 n d j:=c8.mpr ⟨I,e⟩;have l:=h.left P tP;rw[oB]at l;have J:c5 n (P-b)=0:=by rw[d8];lia
   by_cases y:0<i4 n (b-a) (P-b)
   .exact .inl (.inr ⟨J,y⟩)
   .have y0:i4 n (b-a) (P-b)=0:=by lia
    have:=yS (U4 E t J y0);rw[p6]at this;exact .inr this
 obtain⟨Z,hZ,hz⟩:=hz;obtain⟨f,g,o1,v,g0,L,gp,N,w,O,sO,Q⟩:=V2 C r u ⟨Z,hZ,.inl (by rw[d8];lia)⟩;refine⟨⟨gp,w,b,pb,a,H,f,o1,N.symm,O,sO,C.ad2 r v⟩,⟨c8.mpr ⟨pb,N.symm⟩,c8.mpr ⟨H,O⟩,λe=>h.ne e.symm,λX A=>?_,λX A e=>?_⟩⟩
 .obtain⟨i,B⟩:=c8.mp A;have z:=Q X i B;have s:g*i4 (b8 b a j).1 (a-b) (X-b)=c5 (cr (a-b)<|f-b) (cr (a-b)<|X-b):=by rw[L];unfold i4;rw[L5]
  have:0<=c5 (cr (a-b)<|f-b) (cr (a-b)<|X-b):=by
   rcases u X i with q|q
   .exact aAL (wF C r v q z)
   .rw[q,D5];exact aBV _
  rw[<-s]at this;by_cases zz:0<=i4 (b8 b a j).1 (a-b) (X-b)
  .exact zz
  .have:=aAB g0 (show i4 (b8 b a j).1 (a-b) (X-b)<0 by lia)
   lia
 .obtain⟨i,B⟩:=c8.mp A;have z:=Q X i B;have s:g*i4 (b8 b a j).1 (a-b) (X-b)=c5 (cr (a-b)<|f-b) (cr (a-b)<|X-b):=by rw[L];unfold i4;rw[L5]
  rw[e]at s;rcases u X i with q|q
  .have:=wF C r v q z;rw[<-s]at this;simp at this
  .
   have dX:c5 n X=d:=by obtain⟨k,m,hk,e⟩:=v7 r q;have q:=iu (c5 n) e;rw[i6,i6,o]at q;have:c5 n (X-b)=0:=(aAn.mp (show k*c5 n (X-b)=0 by lia)).resolve_left (by lia);rw[d8]at this;lia
   refine(h.btw X (c8.mpr ⟨i,dX⟩) ?_).symm;rw[oB];have:cr (b-a) (X-b)=0:=by
    have:=yS q
    rwa [p6]at this
   unfold i4;rw[this,D5]
def A6:List V->Option V
 |[]=>none
 |w::a=>if w≠0 then some w else A6 a
def p8 (h:A6 ws=some w):w∈ws/\w≠0:=by
 induction ws with
 |nil=>cases h
 |cons v ws a=>
  unfold A6 at h;split at h
  .rename_i b;cases h;exact⟨by simp,b⟩
  .have:=a h;exact⟨aAe _ this.1,this.2⟩
def F4 (h:A6 ws=none):∀w∈ws,w=0:=by
 induction ws with
 |nil=>intro w a;cases a
 |cons v ws b=>
  unfold A6 at h;split at h
  .cases h
  .rename_i d;intro w a;rcases aAd.mp a with e|e
   .subst e;exact Decidable.not_not.mp d
   .exact b h w e
def t9:List V->Nat
 |[]=>0
 |p::d=>
  let a:=(p::d).map (· -p)
  match A6 a with
  |none=>0
  |some b=>match A6 (a.map<|cr b)with
   |none=>1
   |some e=>if a.any (λw=>decide (c5 e w≠0))then 3 else 2
def k8 (j:List V):Prop:=∃A∈j,∃B∈j,∃C∈j,∃D∈j,i4 (B-A) (C-A) (D-A)≠0
def jL (h:t9 j=3):k8 j:=by
 match j,h with
 |p::w,h=>
  unfold t9 at h;dsimp only at h;split at h
  .cases h
  .rename_i b f;split at h
   .cases h
   .rename_i g i;split at h
    .rename_i e;obtain⟨k,x⟩:=p8 f;obtain⟨d,y⟩:=p8 i;obtain⟨z,d,l⟩:=aAo.mp d;rw[aEq]at e;obtain⟨m,n,o⟩:=e;obtain⟨B,q,r⟩:=aAo.mp k;obtain⟨C,s,t⟩:=aAo.mp d;obtain⟨D,u,v⟩:=aAo.mp n;refine⟨p,by simp,B,q,C,s,D,u,?_⟩;rw[r,t,v];have a:c5 g m≠0:=by simpa using o
     rw[<-l,T1]at a;exact a
    .cases h
def wC (h:t9 j≠3):¬k8 j:=by
 rintro⟨A,k,B,l,C,m,D,o,v⟩;match j,h,k,l,m,o with
 |p::f,h,k,l,m,o=>
  unfold t9 at h;dsimp only at h;have r:∀X∈p::f,X-p∈(p::f).map (· -p):=λX b=>aAo.mpr ⟨X,b,rfl⟩;have d:∀n:V,n≠0->(∀X∈p::f,c5 n (X-p)=0)->False:=λn w s=>by
   have q:∀X∈p::f,c5 n (X-A)=0:=λX b=>by have g:=s X b;have i:=s A k;rw[d8]at*;lia
   exact v (w8 w (q B l) (q C m)<|q D o)
  split at h
  .rename_i g;have z:=F4 g;refine d ⟨1,0,0⟩ (λe=>by have:=iu V.x e;simp at this) λX b=>?_;rw[z _ (r X b)];exact D5 _
  .rename_i a g;obtain⟨L,y⟩:=p8 g;split at h
   .rename_i i;have z:=F4 i;have E:∀X∈p::f,cr a (X-p)=0:=λX b=>z _ (aAo.mpr ⟨_,r X b,rfl⟩);obtain⟨u,H,N⟩:∃u:V,cr a u≠0/\True:=by
     rcases iN y with q|q|q
     .exact⟨⟨0,1,0⟩,λe=>q (by have:=iu V.z e;simpa using this),trivial⟩
     .exact⟨⟨1,0,0⟩,λe=>q (by have:=iu V.z e;simpa using this),trivial⟩
     .exact⟨⟨0,1,0⟩,λe=>q (by have:=iu V.x e;simpa using this),trivial⟩
    refine d (cr a u) H λX b=>?_;rw[T1,gH (E X b)]
   .rename_i t i;obtain⟨O,I⟩:=p8 i;split at h
    .exact h rfl
    .rename_i J;refine d t I λX b=>?_;by_cases z:c5 t (X-p)=0
     .exact z
     .exact absurd (aEq.mpr ⟨X-p,r X b,by simpa using z⟩) J
def wT (h:t9 j<2):∀X∈j,∀Y∈j,∀Z∈j,cr (Y-X) (Z-X)=0:=by
 match j,h with
 |[],_=>intro X b;cases b
 |p::d,h=>
  unfold t9 at h;dsimp only at h;have m:∀X∈p::d,X-p∈(p::d).map (· -p):=λX b=>aAo.mpr ⟨X,b,rfl⟩;intro X b Y n Z q;split at h
  .rename_i i;have z:=F4 i;have e:∀W∈p::d,W=p:=λW l=>by have:=z _ (m W l);have f:=iu V.x this;have g:=iu V.y this;have r:=iu V.z this;simp at f g r;exact ext (by lia) (by lia) (by lia)
   rw[e X b,e Y n,n6];apply ext<;>simp
  .rename_i a i;obtain⟨H,s⟩:=p8 i;split at h
   .rename_i t;have z:=F4 t;have o:∀X∈p::d,cr a (X-p)=0:=λX b=>z _ (aAo.mpr ⟨_,m X b,rfl⟩);have k:∀U∈p::d,∀W∈p::d,cr (U-W) a=0:=λU u W l=>by have f:=o U u;have g:=o W l;have v:=iu V.x f;have w:=iu V.y f;have A:=iu V.z f;have B:=iu V.x g;have C:=iu V.y g;have E:=iu V.z g;simp at v w A B C E;apply ext<;>simp<;>grind
    exact cA s (k Y n X b) (k Z q X b)
   .split at h<;>lia
def rY (h:2<=t9 j):∃X∈j,∃Y∈j,∃Z∈j,cr (Y-X) (Z-X)≠0:=by
 match j,h with
 |[],h=>exact absurd h (by simp[t9])
 |p::o,h=>
  unfold t9 at h;dsimp only at h;split at h
  .lia
  .rename_i a d;obtain⟨e,q⟩:=p8 d;split at h
   .lia
   .rename_i r f;obtain⟨b,g⟩:=p8 f;obtain⟨s,b,i⟩:=aAo.mp b;obtain⟨B,k,l⟩:=aAo.mp e;obtain⟨C,m,n⟩:=aAo.mp b;exact⟨p,by simp,B,k,C,m,by rw[l,n,i];exact g⟩
def k8.off (h:k8 j)(f:n≠0):∃Z∈j,c5 n Z≠d:=by
 obtain⟨A,g,B,i,C,k,D,l,m⟩:=h;by_cases a:c5 n A=d
 .by_cases b:c5 n B=d
  .by_cases c:c5 n C=d
   .by_cases e:c5 n D=d
    .exact absurd (w8 f (by rw[d8];lia) (by rw[d8];lia) (by rw[d8];lia)) m
    .exact⟨D,l,e⟩
   .exact⟨C,k,c⟩
  .exact⟨B,i,b⟩
 .exact⟨A,g,a⟩
def k8.below (h:k8 j)(b:n≠0)(f:∀X∈j,c5 n X<=d):∃Z∈j,c5 n Z<d:=by obtain⟨Z,a,e⟩:=h.off (d:=d) b;exact⟨Z,a,by have:=f Z a;lia⟩
def kk:V:=⟨0,0,1⟩
def f9 (m:V)(j:List V):V×V:=
 let u:=b8 m (m+kk) j
 let a:=w6 u.1 u.2 j
 if t9 a=2 then(m,m+kk)else(a.getD 0 0,a.getD 1 0)
def DN:ConeM kk (λw=>0<w.x\/(w.x=0/\0<w.y))where
 add:=λ{u v} d e=>by simp;lia
 mul:=λ{k u} a h=>by
  simp;rcases h with h|⟨h,b⟩
  .exact .inl (aBd a h)
  .exact .inr ⟨by rw[h];simp,aBd a b⟩
 irr:=by simp
 inv:=λ{u} k h=>by simpa[kk]using h
def CB (h:c5 n a=0):ConeM a (λw=>c5 n w<0)where
 add:=λ{u v} e f=>by rw[w4];lia
 mul:=λ{k u} b h=>by rw[i6];exact aAB b h
 irr:=by rw[D5];lia
 inv:=λ{u} k d=>by rw[w4,i6,h];simpa using d
def K8 (m k:V):m+k-m=k:=ext (by simp;lia) (by simp;lia) (by simp;lia)
def oD (T:k8 j)(ho:j.Pairwise (λa b=>i3 (b-a)))(hm:m∈j)(hl:∀X∈j,X=m\/i3 (X-m)):
  IsFace j (b8 (f9 m j).1 (f9 m j).2 j).1 (b8 (f9 m j).1 (f9 m j).2 j).2:=by
 have C:ConeM (m+kk-m) (λw=>0<w.x\/(w.x=0/\0<w.y)):=by rw[K8];exact DN
 have au:m+kk-m≠0:=by rw[K8];intro e;have:=iu V.z e;simp[kk]at this
 have U:∀P∈j,(0<(P-m).x\/((P-m).x=0/\0<(P-m).y))\/cr (m+kk-m) (P-m)=0:=λP H=>by
  rw[K8];rcases hl P H with e|e
  .right;subst e;rw[n6];apply ext<;>simp
  .unfold i3 at e;rcases e with e|⟨e1,e|⟨e2,e3⟩⟩
   .exact .inl (.inl e)
   .exact .inl (.inr ⟨e1,e⟩)
   .right;apply ext
    .simp[kk];simp at e2;lia
    .simp[kk];simp at e1;lia
    .simp[kk]
 have hx:∃P∈j,0<(P-m).x\/((P-m).x=0/\0<(P-m).y):=by
  by_cases z:∃P∈j,0<(P-m).x\/((P-m).x=0/\0<(P-m).y)
  .exact z
  .exfalso;obtain⟨Z,f,e⟩:=T.off (n:=⟨1,0,0⟩) (d:=m.x) (λe=>by have:=iu V.x e;simp at this);have w:=(U Z f).resolve_left λq=>z ⟨Z,f,q⟩;rw[K8]at w;have:=iu V.y w;simp[kk]at this;simp[c5]at e
   lia
 obtain⟨l,g,o1,o2,g0,ge,L,gd,h,sB,sO,sP⟩:=V2 C au U hx;have i:m∈w6 (b8 m (m+kk) j).1 (b8 m (m+kk) j).2 j:=c8.mpr ⟨hm,gd.symm⟩;have o:l∈w6 (b8 m (m+kk) j).1 (b8 m (m+kk) j).2 j:=c8.mpr ⟨o1,sO⟩;have N:m≠l:=λe=>by subst e;rw[n6]at o2;simp at o2
 by_cases h2:t9 (w6 (b8 m (m+kk) j).1 (b8 m (m+kk) j).2 j)=2
 .have e:f9 m j=(m,m+kk):=by unfold f9;simp only[h2,if_true]
  rw[e];obtain⟨X,I,Y,J,Z,f,hc⟩:=rY (j:=w6 (b8 m (m+kk) j).1 (b8 m (m+kk) j).2 j) (by lia);have I:=c8.mp I;have J:=c8.mp J;have f:=c8.mp f;exact⟨L,h,X,I.1,Y,J.1,Z,f.1,I.2,J.2,f.2,hc⟩
 .
  have h1:t9 (w6 (b8 m (m+kk) j).1 (b8 m (m+kk) j).2 j)≠3:=λz=>by obtain⟨A,hA,B,hB,C,hC,D,hD,hd⟩:=jL z;have hA:=c8.mp hA;have hB:=c8.mp hB;have hC:=c8.mp hC;have hD:=c8.mp hD;exact hd (w8 L.ne (by rw[d8];lia) (by rw[d8];lia) (by rw[d8];lia))
  have ar:t9 (w6 (b8 m (m+kk) j).1 (b8 m (m+kk) j).2 j)<2:=by
   have:t9 (w6 (b8 m (m+kk) j).1 (b8 m (m+kk) j).2 j)<=3:=by
    generalize w6 (b8 m (m+kk) j).1 (b8 m (m+kk) j).2 j=t;unfold t9;split
    .lia
    .dsimp only;split
     .lia
     .split
      .lia
      .split<;>lia
   lia
  have p:=wT ar;have e:f9 m j=((w6 (b8 m (m+kk) j).1 (b8 m (m+kk) j).2 j).getD 0 0,(w6 (b8 m (m+kk) j).1 (b8 m (m+kk) j).2 j).getD 1 0):=by unfold f9;simp only[h2,if_false]
  rw[e];have ord:(w6 (b8 m (m+kk) j).1 (b8 m (m+kk) j).2 j).Pairwise (λa b=>i3 (b-a)):=aFS _ ho;have k:∀X,X∈w6 (b8 m (m+kk) j).1 (b8 m (m+kk) j).2 j↔X∈j/\c5 (b8 m (m+kk) j).1 X=(b8 m (m+kk) j).2:=λX=>c8;generalize w6 (b8 m (m+kk) j).1 (b8 m (m+kk) j).2 j=t at*
  match t,i,o with
  |[],i,_=>cases i
  |[x],i,o=>simp at i o;exact absurd (i.trans o.symm) N
  |x::y::r,i,o=>
   dsimp only[List.getD_cons_zero,List.getD_cons_succ];have s:i3 (y-x):=(aAz.mp ord).1 y (by simp);have ox:=(k x).mp (by simp);have oy:=(k y).mp (by simp);have u:y-x≠0:=λz=>by rw[z]at s;exact A4.irr s
   have na:c5 (b8 m (m+kk) j).1 (y-x)=0:=by rw[d8];lia
   have C2:=CB na;obtain⟨Z,f,hz⟩:=T.below L.ne h;obtain⟨v,g2,p1,p2,p0,pe,pp,pd,E,O,Q,sP2⟩:=V2 C2 u (j:=j) (λP H=>by
    have:=h P H;by_cases q:c5 (b8 m (m+kk) j).1 P<(b8 m (m+kk) j).2
    .exact .inl (by rw[d8];lia)
    .exact .inr (p x (by simp) y (by simp) P ((k P).mpr ⟨H,by lia⟩))) ⟨Z,f,by rw[d8];lia⟩
   exact⟨pp,E,x,ox.1,y,oy.1,v,p1,pd.symm,O,Q,C2.ad2 u p2⟩
def J0 {a b:V}(h:a-b=0):a=b:=by have d:=iu V.x h;have e:=iu V.y h;have f:=iu V.z h;simp at d e f;exact ext (by lia) (by lia) (by lia)
def IsFace.aa2 (f:j.Pairwise (λa b=>i3 (b-a)))(h:IsFace j n d):Sheet n (w6 n d j)where
 nz:=h.prim.ne
 pl:=λX g Y i=>by have:=(c8.mp g).2;have:=(c8.mp i).2;rw[d8];lia
 ord:=aFS _ f
 two:=by obtain⟨A,k,B,l,C,m,a,b,c,e⟩:=h.three;refine⟨A,c8.mpr ⟨k,a⟩,B,c8.mpr ⟨l,b⟩,λz=>e ?_⟩;subst z;rw[n6];apply ext<;>simp
def IsFace.ac7 {j:List V}{n:V}{d:Int}(h:IsFace j n d){a b:V}(f:EdgeOf n (λX=>X∈w6 n d j) a b):∃X∈w6 n d j,0<i4 n (b-a) (X-a):=by
 by_cases z:∃X∈w6 n d j,0<i4 n (b-a) (X-a)
 .exact z
 .exfalso;have w:=h.prim.ne;obtain⟨pa,da⟩:=c8.mp f.p;obtain⟨pb,db⟩:=c8.mp f.q;have g:c5 n (b-a)=0:=by rw[d8];lia
  have E:b-a≠0:=λe=>f.ne (J0 e).symm;have k:∀X∈j,c5 n X=d->cr (b-a) (X-a)=0:=λX i m=>by have s:=c8.mpr ⟨i,m⟩;have l:=f.left X s;have l':¬0<i4 n (b-a) (X-a):=λq=>z ⟨X,s,q⟩;exact U4 w g (by rw[d8];lia) (by lia)
  obtain⟨A,t,B,H,C,I,u,J,L,e⟩:=h.three;have v:∀X∈j,c5 n X=d->∀Y∈j,c5 n Y=d->cr (X-Y) (b-a)=0:=λX i m Y N O=>by have o:=k X i m;have r:=k Y N O;have Q:=iu V.x o;have T:=iu V.y o;have U:=iu V.z o;have b1:=iu V.x r;have b2:=iu V.y r;have b3:=iu V.z r;simp at Q T U b1 b2 b3;apply ext<;>simp<;>grind
  exact e (cA E (v B H J A t u)<|v C I L A t u)
def YY (o:k8 j)(f:IsFace j n d)(g:IsFace j m e)(i:EdgeOf n (λX=>X∈w6 n d j) a b)(h:EdgeOf m (λX=>X∈w6 m e j) b a)(k:X∈w6 n d j)(l:0<i4 n (b-a) (X-a)):c5 m X<e:=by
 obtain⟨r,s⟩:=c8.mp k;have B:=g.sup X r;by_cases z:c5 m X=e
 .exfalso;obtain⟨C,t⟩:=c8.mp i.p;obtain⟨pb,u⟩:=c8.mp i.q;obtain⟨_,v⟩:=c8.mp h.q;obtain⟨_,w⟩:=c8.mp h.p;obtain⟨Z,x,y⟩:=o.below f.prim.ne f.sup;have A:cr (b-a) (X-a)≠0:=λq=>by unfold i4 at l;rw[q,D5]at l;lia
  obtain⟨rfl,rfl⟩:=gB f.prim g.prim f.sup g.sup t u s v w z A x y;have:=h.left X k;have E:i4 n (a-b) (X-b)=-i4 n (b-a) (X-a):=by simp[i4,c5];grind
  lia
 .lia
def zA:List V->V
 |[]=>0
 |X::l=>X+zA l
theorem pH (n:V):∀l:List V,c5 n (zA l)=(l.map (c5 n)).sum
 |[]=>D5 n
 |X::l=>by simp only[zA,aAp,aBF];rw[w4,pH n l]
theorem BC {α:Type}(f g:α->Int):∀l:List α,(∀x∈l,f x<=g x)->(l.map f).sum<=(l.map g).sum
 |[],_=>aBV _
 |x::l,h=>by
  simp only[aAp,aBF];have:=h x (by simp);have:=BC f g l (λy a=>h y (aAe _ a))
  lia
theorem CT {α:Type}(f g:α->Int):∀l:List α,(∀x∈l,f x<=g x)->(∃x∈l,f x<g x)->(l.map f).sum<(l.map g).sum
 |[],_,⟨x,b,_⟩=>by cases b
 |x::l,h,⟨y,a,d⟩=>by
  simp only[aAp,aBF];have i:=h x (by simp);have j:=BC f g l (λy a=>h y (aAe _ a));rcases aAd.mp a with e|e
  .subst e;lia
  .have:=CT f g l (λy a=>h y (aAe _ a)) ⟨y,e,d⟩
   lia
theorem Y9 {α:Type}(c:Int):∀l:List α,(l.map λ_=>c).sum=(l.length:Int)*c
 |[]=>by simp
 |x::l=>by simp only[aAp,aBF,aAv];rw[Y9 c l];push_cast;grind
def B7 (j:List V)(X:V):V:=(j.length:Int)*X-zA j
def S5 (j:List V)(n:V)(d:Int):Int:=(j.length:Int)*d-c5 n (zA j)
def vN (j:List V)(n X:V):c5 n (B7 j X)=(j.length:Int)*c5 n X-c5 n (zA j):=by unfold B7;rw[d8,i6]
def dI (a:k8 j)(b:n≠0)(h:∀X∈j,c5 n X<=d):0<S5 j n d:=by
 unfold S5;rw[pH,<-Y9];have:=CT (c5 n) (λ_=>d) j h (a.below b h)
 lia
def len_pos (a:k8 j):0<(j.length:Int):=by
 obtain⟨A,b,_⟩:=a;have:0<j.length:=aDj b
 lia
def X5 (h:c5 n X=d):c5 n (B7 j X)=S5 j n d:=by rw[vN,h];rfl
def pG (h:c5 n X<=d):c5 n (B7 j X)<=S5 j n d:=by
 rw[vN];unfold S5;have:=aAE h (show(0:Int)<=j.length by lia)
 lia
def LJ (a:0<(j.length:Int))(h:c5 n X<d):c5 n (B7 j X)<S5 j n d:=by
 rw[vN];unfold S5;have:=aEL h a
 lia
def SV (j:List V)(a b X:V):i4 (B7 j a) (B7 j b) (B7 j X)=(j.length:Int)*(j.length:Int)*c5 (B7 j a) (cr (b-a) (X-a)):=by unfold B7;generalize(j.length:Int)=N;generalize zA j=s;simp[i4,c5];grind
def wE (h:cr w c=0)(x y:V):c5 w y*c5 c x=c5 w x*c5 c y:=by
 have e:c5 w y*c5 c x-c5 w x*c5 c y=c5 (cr w c) (cr y x):=by simp[c5];grind
 rw[h]at e;have:c5 0 (cr y x)=0:=by simp[c5]
 lia
def DP (e:k8 j)(f:IsFace j n d)(k:c5 n a=d)(r:c5 n b=d)(s:c5 n X=d)(h:0<i4 n (b-a) (X-a)):0<i4 (B7 j a) (B7 j b) (B7 j X):=by
 rw[SV];have g:=len_pos e;refine aBd (aBd g g) ?_;have i:=f.prim.ne;have p:cr n (cr (b-a)<|X-a)=0:=C9 (by rw[d8];lia) (by rw[d8];lia);have q:=wE p n (B7 j a);have l:0<c5 n (B7 j a):=by rw[X5 k];exact dI e i f.sup
 have m:0<c5 (cr (b-a)<|X-a) n:=by rw[cQ];exact h
 have t:=aBd l m;have o:=u8 i;rw[cQ (B7 j a)];by_cases z:0<c5 (cr (b-a)<|X-a) (B7 j a)
 .exact z
 .exfalso;have:c5 n n*c5 (cr (b-a)<|X-a) (B7 j a)<=0:=by have:=aAE (show c5 (cr (b-a)<|X-a) (B7 j a)<=0 by lia) (aAL o);simpa using this
  lia
def UJ (f:k8 j)(g:IsFace j n d)(k:IsFace j m e)(h:EdgeOf n (λX=>X∈w6 n d j) a b)(l:EdgeOf m (λX=>X∈w6 m e j) b a)(Q:c5 m B*S5 j n d<=c5 n B*S5 j m e):0<=i4 (B7 j a) (B7 j b) B:=by
 obtain⟨X,o,t⟩:=g.ac7 h;have x:=YY f g k h l o t;obtain⟨T,u⟩:=c8.mp o;obtain⟨U,v⟩:=c8.mp h.p;obtain⟨pb,w⟩:=c8.mp h.q;obtain⟨_,A⟩:=c8.mp l.q;obtain⟨_,C⟩:=c8.mp l.p;have c0:=dI f g.prim.ne g.sup;have Y:=dI f k.prim.ne k.sup;have E:=DP f g v w u t;by_cases z:0<=i4 (B7 j a) (B7 j b) B
 .exact z
 .exfalso;have i:∀y,c5 (S5 j n d*m-S5 j m e*n) y=S5 j n d*c5 m y-S5 j m e*c5 n y:=λy=>by rw[cQ,d8,i6,i6,cQ y m,cQ y n]
  have H:c5 (S5 j n d*m-S5 j m e*n) (B7 j a)=0:=by rw[i,X5 v,X5 A];grind
  have I:c5 (S5 j n d*m-S5 j m e*n) (B7 j b)=0:=by rw[i,X5 w,X5 C];grind
  have J:c5 (S5 j n d*m-S5 j m e*n) (B7 j X)<0:=by
   rw[i,X5 u];have L:=LJ (len_pos f) x;have:=aEL L c0;have e1:S5 j m e*S5 j n d=S5 j n d*S5 j m e:=aGy _ _
   lia
  have p:=wE (C9 H I) (B7 j X) B;have N:c5 (cr (B7 j a)<|B7 j b) (B7 j X)=i4 (B7 j a) (B7 j b) (B7 j X):=T1 _ _ _;have O:c5 (cr (B7 j a)<|B7 j b) B=i4 (B7 j a) (B7 j b) B:=T1 _ _ _;rw[N,O]at p;have r:0<c5 (S5 j n d*m-S5 j m e*n) (B7 j X)*i4 (B7 j a) (B7 j b) B:=aBv J (by lia);rw[<-p]at r;have s:0<c5 (S5 j n d*m-S5 j m e*n) B:=by
   by_cases q:0<c5 (S5 j n d*m-S5 j m e*n) B
   .exact q
   .have:=aAO (show c5 (S5 j n d*m-S5 j m e*n) B<=0 by lia) (aAL E);simp at this;lia
  rw[i]at s;have e4:c5 m B*S5 j n d=S5 j n d*c5 m B:=aGy _ _;have e5:c5 n B*S5 j m e=S5 j m e*c5 n B:=aGy _ _
  lia
def AU {a b c d e f:Int}(g:0<b)(h:0<d)(i:0<f)(j:a*d<=c*b)(k:c*f<=e*d):a*f<=e*b:=by
 have m:=aAO j (aAL i);have n:=aAO k (aAL g);have l:(a*f)*d<=(e*b)*d:=by grind
 exact aEM l h
theorem DC {α:Type}(p q:α->Int):∀(l:List α),l≠[]->(∀x∈l,0<q x)->∃x∈l,∀y∈l,p y*q x<=p x*q y
 |[],h,_=>absurd rfl h
 |[x],_,_=>⟨x,by simp,λy d=>by simp at d;subst d;exact aBV _⟩
 |x::y::l,_,b=>by
  obtain⟨z,f,h⟩:=DC p q (y::l) (by simp) (λw a=>b w (aAe _ a));by_cases c:p x*q z<=p z*q x
  .refine⟨z,aAe _ f,λw a=>?_⟩;rcases aAd.mp a with e|e
   .subst e;exact c
   .exact h w e
  .refine⟨x,by simp,λw a=>?_⟩;rcases aAd.mp a with e|e
   .subst e;exact aBV _
   .exact AU (b w a) (b z<|aAe _ f) (b x (by simp)) (h w e) (by lia)
theorem fq (h:V->Int):∀(x:V) (l:List V),0<=h x->(∀z,(x::l).getLast?=some z->h z<=0)->l≠[]->∃u v,(u,v)∈t8 (x::l)/\0<=h u/\h v<=0
 |x,[],_,_,b=>absurd rfl b
 |x,y::r,d,a,_=>by
  by_cases c:h y<=0
  .exact⟨x,y,by simp[t8],d,c⟩
  .match r,a with
   |[],a=>exact absurd (a y rfl) c
   |z::r,a=>obtain⟨u,v,m,p⟩:=fq h y (z::r) (by lia) (λw e=>a w (by rw[aBe];exact e)) (by simp);exact⟨u,v,by simp only[t8]at m⊢;exact aAe _ m,p⟩
theorem kI:∀(l:List V) (x z w:V),(x::l).getLast?=some z->(z,w)∈t8 (x::l++[w])
 |[],x,z,w,h=>by simp at h;subst h;simp[t8]
 |y::l,x,z,w,h=>by rw[aBe]at h;have:=kI l y z w h;simp only[aAY,t8]at this⊢;exact aAe _ this
theorem pC:∀(l:List V) (x w:V),∀e∈t8 (x::l),e∈t8 (x::l++[w])
 |[],x,w,e,h=>by simp[t8]at h
 |y::l,x,w,e,h=>by
  simp only[aAY,t8]at h⊢;rcases aAd.mp h with q|q
  .subst q;simp
  .exact aAe _ (pC l y w e q)
def fH (g:j.Pairwise (λa b=>i3 (b-a)))(f:IsFace j n d):∃r s t l,t6 n (w6 n d j)=r::s::t::l:=by
 have S:=f.aa2 g;obtain⟨r,l,e,_⟩:=S.ac4;match l,e with
 |[],e=>
  have h:(r,r)∈W5 (t6 n<|w6 n d j):=by rw[e];simp[W5]
  exact absurd rfl (S.pair h).ne
 |[s],e=>
  have i:(r,s)∈W5 (t6 n<|w6 n d j):=by rw[e];simp[W5]
  have k:(s,r)∈W5 (t6 n<|w6 n d j):=by rw[e];simp[W5]
  have m:=S.pair i;have o:=S.pair k;obtain⟨X,p,q⟩:=f.ac7 m;have:=o.left X p;have u:i4 n (r-s) (X-s)=-i4 n (s-r) (X-r):=by simp[i4,c5];grind
  lia
 |s::t::l,e=>exact⟨r,s,t,l,e⟩
def GE (N:k8 j)(ho:j.Pairwise (λa b=>i3 (b-a)))(fs:List (V×Int))(au:fs≠[])(hf:∀f∈fs,IsFace j f.1 f.2)(hc:∀f∈fs,∀a b,EdgeOf f.1 (λX=>X∈w6 f.1 f.2 j) a b->∃g∈fs,EdgeOf g.1 (λX=>X∈w6 g.1 g.2 j) b a)(E:IsFace j n d):(n,d)∈fs:=by
 obtain⟨B,hBd⟩:∃B,B=zA ((w6 n d j).map (B7 j)):=⟨_,rfl⟩;have dB:∀m,c5 m B=((w6 n d j).map λX=>c5 m (B7 j X)).sum:=λm=>by rw[hBd,pH,aBJ];rfl
 have cn:=dI N E.prim.ne E.sup;have ub:∀m e,(∀X∈j,c5 m X<=e)->c5 m B<=((w6 n d j).length:Int)*S5 j m e:=λm e hm=>by rw[dB,<-Y9];exact BC _ _ _ λX i=>pG (hm X (c8.mp i).1)
 have eB:c5 n B=((w6 n d j).length:Int)*S5 j n d:=by rw[dB,<-Y9];congr 1;exact aDM λX i=>X5 (c8.mp i).2
 obtain⟨⟨m,e⟩,hm,htop⟩:=DC (λf:V×Int=>c5 f.1 B) (λf=>S5 j f.1 f.2) fs au λf h=>dI N (hf f h).prim.ne (hf f h).sup;have k:=hf _ hm;have O:∀a b,EdgeOf m (λX=>X∈w6 m e j) a b->0<=i4 (B7 j a) (B7 j b) B:=λa b hab=>by obtain⟨g,hg,hg2⟩:=hc _ hm a b hab;exact UJ N k (hf g hg) hab hg2 (htop g hg)
 have S:=k.aa2 ho;obtain⟨r,s,t,l,er⟩:=fH ho k;have nd:=S.aa5;have pr:=λ{P Q}=>S.aa1 (P:=P) (Q:=Q);rw[er]at pr nd;have rm:r∈t6 m (w6 m e j):=by rw[er];simp
 have on:∀X∈r::s::t::l,c5 m X=e:=λX i=>by rw[<-er]at i;exact(c8.mp<|S.aa3 i).2
 obtain⟨z,hz⟩:∃z,(s::t::l).getLast?=some z:=by simp[aER]
 have c1:(r,s)∈W5 (r::s::t::l):=by rw[aR];simp[t8]
 have c2:(z,r)∈W5 (r::s::t::l):=by rw[aR];exact kI _ _ _ _ (by rw[aBe];exact hz)
 have w1:=O _ _ (pr.mp c1);have w2:=O _ _ (pr.mp c2);obtain⟨u,v,T,hu,hv⟩:=fq (λX=>i4 (B7 j r) (B7 j X) B) s (t::l) w1 (λy hy=>by
  have:y=z:=Option.some.inj (hy.symm.trans hz);subst this;have e1:i4 (B7 j r) (B7 j y) B=-i4 (B7 j y) (B7 j r) B:=by simp[i4,c5];grind
  lia) (by simp)
 have c3:(u,v)∈W5 (r::s::t::l):=by rw[aR];have:=pC (t::l) s r _ T;simp only[aAY,t8]at this⊢;exact aAe _ this
 have g3:=pr.mp c3;have U:u∈s::t::l/\v∈s::t::l:=by
  have:=T;have hh:∀(l:List V) (p q:V),(p,q)∈t8 l->p∈l/\q∈l:=λl=>by
   induction l with
   |nil=>intro p q h;simp[t8]at h
   |cons x l ih=>
    intro p q h;match l,h,ih with
    |[],h,_=>simp[t8]at h
    |y::l,h,ih=>
     simp only[t8]at h;rcases aAd.mp h with c|c
     .cases c;simp
     .have:=ih p q c;exact⟨aAe _ this.1,aAe _ this.2⟩
  exact hh _ _ _ T
 have nr:=(aAS.mp nd).1;have ru:r≠u:=λq=>by subst q;exact nr U.1
 have rv:r≠v:=λq=>by subst q;exact nr U.2
 have st:=S.strict g3 rm ru rv;have du:=on u (aAe _ U.1);have dv:=on v (aAe _ U.2);have dr:=on r (by simp);have D0:=DP N k du dv dr st;have w3:=O _ _ g3;have o:=AJ B (B7 j r) (B7 j u) (B7 j v);have a1:i4 B (B7 j u) (B7 j v)=i4 (B7 j u) (B7 j v) B:=by simp[i4,c5];grind
 have a2:i4 B (B7 j v) (B7 j r)=-i4 (B7 j r) (B7 j v) B:=by simp[i4,c5];grind
 have a3:i4 B (B7 j r) (B7 j u)=i4 (B7 j r) (B7 j u) B:=by simp[i4,c5];grind
 have a4:i4 (B7 j r) (B7 j u) (B7 j v)=i4 (B7 j u) (B7 j v) (B7 j r):=by simp[i4,c5];grind
 rw[a1,a2,a3,a4]at o;obtain⟨H,hal⟩:∃H,H=i4 (B7 j u) (B7 j v) B:=⟨_,rfl⟩;obtain⟨I,yp⟩:∃I,I=-i4 (B7 j r) (B7 j v) B:=⟨_,rfl⟩;obtain⟨J,hga⟩:∃J,J=i4 (B7 j r) (B7 j u) B:=⟨_,rfl⟩;obtain⟨w,hDe⟩:∃w,w=i4 (B7 j u) (B7 j v) (B7 j r):=⟨_,rfl⟩;rw[<-hal,<-yp,<-hga,<-hDe]at o;have al0:0<=H:=by lia
 have be0:0<=I:=by lia
 have ga0:0<=J:=by lia
 have De0:0<w:=by lia
 have cd:∀f:V,w*c5 f B=J*c5 f (B7 j v)+H*c5 f (B7 j r)+I*c5 f (B7 j u):=λf=>by
  have:=iu (c5 f) o;rw[w4,w4,i6,i6,i6,i6]at this
  lia
 have q1:=cd m;rw[X5 dr,X5 du,X5 dv]at q1;have q2:=cd n;have cm:=dI N k.prim.ne k.sup;have pt:∀X∈r::s::t::l,X∈j:=λX i=>by rw[<-er]at i;exact(c8.mp<|S.aa3 i).1
 have r1:=pG (j:=j) (E.sup r (pt r (by simp)));have r2:=pG (j:=j) (E.sup u<|pt u<|aAe _ U.1);have r3:=pG (j:=j) (E.sup v<|pt v<|aAe _ U.2);have s1:=aAE r1 al0;have s2:=aAE r2 be0;have s3:=aAE r3 ga0;obtain⟨L,hL⟩:∃L:Int,L=((w6 n d j).length:Int):=⟨_,rfl⟩;have ub1:=ub m e k.sup;rw[<-hL]at eB ub1;have k1:w*L<=H+I+J:=by
  have:(w*L)*S5 j n d<=(H+I+J)*S5 j n d:=by
   rw[eB]at q2;have e1:w*L*S5 j n d=w*(L*S5 j n d):=aGl _ _ _;have e2:(H+I+J)*S5 j n d=H*S5 j n d+I*S5 j n d+J*S5 j n d:=by grind
   lia
  exact aEM this cn
 have k2:w*c5 m B=(H+I+J)*S5 j m e:=by rw[q1];grind
 have k3:(w*L)*S5 j m e<=w*c5 m B:=by rw[k2];exact aAO k1 (aAL cm)
 have k4:L*S5 j m e<=c5 m B:=by rw[aGl]at k3;exact aEY k3 De0
 have all:∀X∈w6 n d j,c5 m X=e:=λX i=>by
  have le:c5 m X<=e:=k.sup X (c8.mp i).1;by_cases z:c5 m X=e
  .exact z
  .exfalso;have:=CT (λX=>c5 m (B7 j X)) (λ_=>S5 j m e) (w6 n d j) (λY hY=>pG (k.sup Y (c8.mp hY).1)) ⟨X,i,LJ (len_pos N) (by lia)⟩;rw[<-dB,Y9,<-hL]at this
   lia
 obtain⟨A,hA,B',hB',C,hC,ea,eb,ec,hcr⟩:=E.three;obtain⟨Z,hZ,hz⟩:=N.below E.prim.ne E.sup;obtain⟨rfl,rfl⟩:=gB E.prim k.prim E.sup k.sup ea eb ec (all A<|c8.mpr ⟨hA,ea⟩) (all B'<|c8.mpr ⟨hB',eb⟩) (all C<|c8.mpr ⟨hC,ec⟩) hcr hZ hz;exact hm
def f8 (j:List V)(f:V×Int):List V:=t6 f.1 (w6 f.1 f.2 j)
structure LInv (j:List V)(p0:V×V)(fs:List (V×Int))(walked:V×V->Prop)(waiting:List (V×V)):Prop where
 face:∀f∈fs,IsFace j f.1 f.2
 nd:fs.Nodup
 wk:∀e,walked e↔∃f∈fs,e∈W5 (f8 j f)
 cl:∀f∈fs,∀a b,(a,b)∈W5 (f8 j f)->(∃g∈fs,(b,a)∈W5 (f8 j g))\/(b,a)∈waiting
 wt:∀p∈waiting,(∃f∈fs,(p.2,p.1)∈W5 (f8 j f))\/(fs=[]/\p=p0)
 ne:fs=[]->waiting=[p0]
structure Good (j:List V)(m:V):Prop where
 solid:k8 j
 ord:j.Pairwise (λa b=>i3 (b-a))
 mem:m∈j
 least:∀X∈j,X=m\/i3 (X-m)
section
variable{j:List V} {m:V} (G:Good j m) {fs:List (V×Int)} {walked:V×V->Prop} {waiting rest:List (V×V)} {p:V×V}
include G
theorem BH:LInv j (f9 m j) [] (λ_=>False) [f9 m j]where
 face:=λf h=>by cases h
 nd:=aDi
 wk:=λe=>⟨λh=>h.elim,λ⟨f,h,_⟩=>by cases h⟩
 cl:=λf h=>by cases h
 wt:=λq h=>.inr ⟨rfl,by simpa using h⟩
 ne:=λ_=>rfl
theorem JM (h:LInv j (f9 m j) fs walked waiting)(k:waiting=rest++[p])(l:walked p):LInv j (f9 m j) fs walked rest:=by
 have i:∀q,q∈waiting↔q=p\/q∈rest:=λq=>by rw[k];simp[or_comm]
 obtain⟨n,d,o⟩:=(h.wk p).mp l;have r:fs≠[]:=λe=>by subst e;cases d
 refine⟨h.face,h.nd,h.wk,λf s a b g=>?_,λq t=>h.wt q ((i q).mpr (.inr t)),λe=>absurd e r⟩;rcases h.cl f s a b g with q|q
 .exact .inl q
 .rcases(i (b,a)).mp q with z|z
  .subst z;exact .inl ⟨n,d,o⟩
  .exact .inr z
theorem yC (h:LInv j (f9 m j) fs walked waiting)(e:p∈waiting)(g:¬walked p):IsFace j (b8 p.1 p.2 j).1 (b8 p.1 p.2 j).2/\b8 p.1 p.2 j∉fs/\(fs≠[]->p∈W5 (f8 j (b8 p.1 p.2 j))):=by
 rcases h.wt p e with⟨f,i,k⟩|⟨l,n⟩
 .have a:=h.face f i;have S:=a.aa2 G.ord;have o:=S.aa1.mp k;obtain⟨b,q⟩:=rG a.prim.ne a.sup (G.solid.below a.prim.ne a.sup) o;have r:=b.aa2 G.ord;have d:p∈W5 (f8 j<|b8 p.1 p.2 j):=r.aa1.mpr q;exact⟨b,λz=>g ((h.wk p).mpr ⟨_,z,d⟩),λ_=>d⟩
 .subst l n;exact⟨oD G.solid G.ord G.mem G.least,by simp,λz=>absurd rfl z⟩
theorem MJ (h:LInv j (f9 m j) fs walked waiting)(o:waiting=rest++[p])(s:¬walked p){walked':V×V->Prop}(t:∀e,walked' e↔walked e\/e∈W5 (f8 j (b8 p.1 p.2 j)))(l:∀q,q∈waiting'↔q∈rest\/(q.2,q.1)∈W5 (f8 j (b8 p.1 p.2 j))):
  LInv j (f9 m j) (fs++[b8 p.1 p.2 j]) walked' waiting':=by
 have n:∀q,q∈waiting↔q=p\/q∈rest:=λq=>by rw[o];simp[or_comm]
 obtain⟨u,v,w⟩:=yC G h ((n p).mpr (.inl rfl)) s;refine⟨λf d=>?_,?_,λe=>?_,λf d a b k=>?_,λq x=>?_,λe=>by simp at e⟩
 .rcases aAX.mp d with z|z
  .exact h.face f z
  .have:f=b8 p.1 p.2 j:=by simpa using z
   subst this;exact u
 .rw[aCT];exact⟨h.nd,by simp,λa A b B=>λe=>by
   have:b=b8 p.1 p.2 j:=by simpa using B
   subst e this;exact v A⟩
 .rw[t,h.wk];constructor
  .rintro(⟨f,d,i⟩|i)
   .exact⟨f,aBI _ d,i⟩
   .exact⟨_,aAH _ (by simp),i⟩
  .rintro⟨f,d,i⟩;rcases aAX.mp d with z|z
   .exact .inl ⟨f,z,i⟩
   .have:f=b8 p.1 p.2 j:=by simpa using z
    subst this;exact .inr i
 .rcases aAX.mp d with z|z
  .rcases h.cl f z a b k with⟨g,C,e⟩|q
   .exact .inl ⟨g,aBI _ C,e⟩
   .rcases(n (b,a)).mp q with y|y
    .have E:fs≠[]:=λe=>by subst e;cases z
     exact .inl ⟨b8 p.1 p.2 j,aAH _ (by simp),by rw[y];exact w E⟩
    .exact .inr ((l _).mpr (.inl y))
  .have:f=b8 p.1 p.2 j:=by simpa using z
   subst this;exact .inr ((l _).mpr (.inr k))
 .rcases(l q).mp x with z|z
  .rcases h.wt q ((n q).mpr (.inr z))with⟨f,d,e⟩|⟨H,I⟩
   .exact .inl ⟨f,aBI _ d,e⟩
   .have:=h.ne H;exfalso;rw[o]at this;have r:=iu aGg this;simp at r;subst r;cases z
  .exact .inl ⟨_,aAH _ (by simp),z⟩
theorem OC (h:LInv j (f9 m j) fs walked []):fs≠[]/\∀n d,(n,d)∈fs↔IsFace j n d:=by
 have l:fs≠[]:=λe=>by have:=h.ne e;cases this
 refine⟨l,λn d=>⟨λi=>h.face _ i,λi=>?_⟩⟩;refine GE G.solid G.ord fs l h.face (λf i a b k=>?_) i;have S:=(h.face f i).aa2 G.ord;rcases h.cl f i a b (S.aa1.mpr k)with⟨g,o,e⟩|q
 .exact⟨g,o,((h.face g o).aa2 G.ord).aa1.mp e⟩
 .cases q
end
def GM (h:IsFace j n d):∃A∈j,∃B∈j,∃C∈j,cr (B-A) (C-A)≠0/\j7 A B C=(n,d):=by
 obtain⟨A,r,B,f,C,i,a,b,c,e⟩:=h.three;have m:∀B∈j,∀C∈j,c5 n B=d->c5 n C=d->cr (B-A) (C-A)≠0->0<c5 n (cr (B-A)<|C-A)->j7 A B C=(n,d):=λB f C i b c e pos=>by
  obtain⟨g,w,E,H,I⟩:=nF e;have p:cr n (cr (B-A)<|C-A)=0:=C9 (by rw[d8];lia) (by rw[d8];lia);obtain⟨k,l,s,o⟩:=v7 h.prim.ne p;have J:0<l:=by
   have q:=iu (c5 n) o;rw[i6,i6]at q;have:=aBd s pos;have L:=u8 h.prim.ne;by_cases z:0<l
   .exact z
   .have:=aAO (show l<=0 by lia) (aAL L);simp at this;lia
  rw[E]at o;have N:(k*g)*(j7 A B C).1=l*n:=by rw[<-o];apply ext<;>simp<;>grind
  have t:=vD H h.prim (aBd s w) J N;refine aFQ t ?_;rw[I,t];exact a
 by_cases z:0<c5 n (cr (B-A)<|C-A)
 .exact⟨A,r,B,f,C,i,e,m B f C i b c e z⟩
 .have u:cr (C-A) (B-A)=-cr (B-A) (C-A):=by apply ext<;>simp<;>grind
  have v:cr (C-A) (B-A)≠0:=λq=>e (by rw[u]at q;have O:=iu V.x q;have Q:=iu V.y q;have T:=iu V.z q;simp only[tq,fw,mx,bZ,cS,bX]at O Q T;exact ext (by simp only[bZ];lia) (by simp only[cS];lia) (by simp only[bX];lia))
  have U:c5 n (cr (B-A)<|C-A)≠0:=λq=>e (U4 h.prim.ne (by rw[d8];lia) (by rw[d8];lia) q);refine⟨A,r,C,i,B,f,v,m C i B f c b v ?_⟩;have:c5 n (cr (C-A)<|B-A)=-c5 n (cr (B-A)<|C-A):=by rw[u];simp[c5];grind
  lia
def cands (j:List V):List (V×Int):=j.flatMap λA=>j.flatMap λB=>j.map λC=>j7 A B C
theorem D7 {α:Type}[DecidableEq α]:∀{l m:List α},l.Nodup->(∀x∈l,x∈m)->l.length<=m.length
 |[],_,_,_=>aAG _
 |x::l,m,h,a=>by
  have b:=a x (by simp);have d:=aAS.mp h;have:=D7 (l:=l) (m:=m.erase x) d.2 (λy f=>by
   have ne:y≠x:=λe=>by subst e;exact d.1 f
   exact(aFT ne).mpr (a y<|aAe _ f))
  rw[aFc b]at this;have:0<m.length:=aDj b;simp only[aAv]
  lia
section
variable{j:List V} (hs:k8 j) (ho:j.Pairwise (λa b=>i3 (b-a)))
include hs ho
theorem fB (e:IsFace j n d)(h:EdgeOf n (λX=>X∈w6 n d j) a b):
 IsFace j (b8 b a j).1 (b8 b a j).2/\EdgeOf (b8 b a j).1 (λX=>X∈w6 (b8 b a j).1 (b8 b a j).2 j) b a:=rG e.prim.ne e.sup (hs.below e.prim.ne e.sup) h
theorem aX (e:IsFace j n d)(f:EdgeOf n (λX=>X∈w6 n d j) a b)(g:EdgeOf n (λX=>X∈w6 n d j) b a):False:=by
 obtain⟨X,h,i⟩:=e.ac7 f;have:=g.left X h;have k:i4 n (a-b) (X-b)=-i4 n (b-a) (X-a):=by simp[i4,c5];grind
 lia
theorem bE (a:IsFace j n d)(o:X∈f8 j (n,d)):∃g h:V×Int,IsFace j g.1 g.2/\IsFace j h.1 h.2/\(n,d)≠g/\(n,d)≠h/\g≠h/\c5 n X=d/\c5 g.1 X=g.2/\c5 h.1 X=h.2:=by
 have S:=a.aa2 ho;obtain⟨Y,t⟩:=dQ S o;obtain⟨W,r⟩:=mF S o;have b:=S.aa1.mp t;have i:=S.aa1.mp r;obtain⟨l,f⟩:=fB hs ho a b;obtain⟨u,k⟩:=fB hs ho a i;have m:W≠Y:=λe=>by subst e;exact aX hs ho a b i
 refine⟨_,_,l,u,λe=>?_,λe=>?_,λe=>?_,(c8.mp b.p).2,(c8.mp f.q).2,(c8.mp k.p).2⟩
 .rw[<-e]at f;exact aX hs ho a b f
 .rw[<-e]at k;exact aX hs ho a i k
 .
  have st:=S.strict b (mD S r).1 (i.ne) m;have v:=(c8.mp i.p).2;have w:=(c8.mp b.p).2;have x:=(c8.mp b.q).2;have y:=(c8.mp f.p).2;have z:=(c8.mp f.q).2;have s:=(c8.mp k.q).2;rw[<-e]at s;have A:cr (Y-X) (W-X)≠0:=λq=>by unfold i4 at st;rw[q,D5]at st;lia
  obtain⟨Z,B,C⟩:=hs.below a.prim.ne a.sup;obtain⟨E,H⟩:=gB a.prim l.prim a.sup l.sup w x v z y s A B C;have:(n,d)=b8 Y X j:=aFQ E H;rw[<-this]at f;exact aX hs ho a b f
theorem HM (s:IsFace j n d)(g:IsFace j m e)(h:EdgeOf n (λX=>X∈w6 n d j) a b)(ga:c5 m a=e)(gb:c5 m b=e):(m,e)=(n,d)\/(m,e)=b8 b a j:=by
 obtain⟨pa,da⟩:=c8.mp h.p;obtain⟨pb,db⟩:=c8.mp h.q;obtain⟨I,J⟩:=fB hs ho s h;have hab:c5 n (a-b)=0:=by rw[d8];lia
 have C:=rP (n:=n) s.prim.ne hab;have au:a-b≠0:=λq=>h.ne (J0 q);obtain⟨P,pP,eP,hP⟩:∃P∈j,c5 m P=e/\cr (a-b) (P-b)≠0:=by
  by_cases z:∃P∈j,c5 m P=e/\cr (a-b) (P-b)≠0
  .exact z
  .exfalso;obtain⟨A,hA,B,hB,D,hD,eA,eB,eD,hc⟩:=g.three;have k:∀X∈j,c5 m X=e->cr (a-b) (X-b)=0:=λX hX dX=>by
    by_cases q:cr (a-b) (X-b)=0
    .exact q
    .exact absurd ⟨X,hX,dX,q⟩ z
   have k2:∀X∈j,c5 m X=e->∀Y∈j,c5 m Y=e->cr (X-Y) (a-b)=0:=λX hX dX Y hY dY=>by have t:=k X hX dX;have f:=k Y hY dY;have a1:=iu V.x t;have a2:=iu V.y t;have a3:=iu V.z t;have J:=iu V.x f;have b2:=iu V.y f;have b3:=iu V.z f;simp at a1 a2 a3 J b2 b3;apply ext<;>simp<;>grind
   exact hc (cA au (k2 B hB eB A hA eA)<|k2 D hD eD A hA eA)
 have mab:c5 m (a-b)=0:=by rw[d8];lia
 have mP:c5 m (P-b)=0:=by rw[d8];lia
 have par:cr m (cr (a-b)<|P-b)=0:=C9 mab mP;obtain⟨k,l,hk,L⟩:=v7 g.prim.ne par;have dl:∀w,k*i4 (a-b) (P-b) w=l*c5 m w:=λw=>by have:=iu (λv=>c5 v w) L;simp only[L5,T1]at this;exact this
 have l0:l≠0:=λq=>hP (by rw[q,u3]at L;have t:=iu V.x L;have f:=iu V.y L;have q3:=iu V.z L;simp only[oO,oR,oC,bZ,cS,bX]at t f q3;exact ext ((aAn.mp t).resolve_left (by lia)) ((aAn.mp f).resolve_left (by lia)) ((aAn.mp q3).resolve_left (by lia)))
 have N:∀Q∈j,c5 m (Q-b)<=0:=λQ hQ=>by rw[d8];have:=g.sup Q hQ;lia
 obtain⟨Z,hZ,hz⟩:=hs.below s.prim.ne s.sup;by_cases hl:0<l
 .
  right;obtain⟨O,hO,eO⟩:∃O∈w6 (b8 b a j).1 (b8 b a j).2 j,0<i4 (b8 b a j).1 (a-b) (O-b):=I.ac7 J;obtain⟨pO,dO⟩:=c8.mp hO;obtain⟨_,e1b⟩:=c8.mp J.p;obtain⟨_,e1a⟩:=c8.mp J.q;have t1:i4 (a-b) (P-b) (O-b)<=0:=by
   have q:=dl (O-b);have:=aAE (N O pO) (aAL hl);rw[aBR]at this;by_cases z:i4 (a-b) (P-b) (O-b)<=0
   .exact z
   .have:=aBd hk (show 0<i4 (a-b) (P-b) (O-b)by lia);lia
  have i:cr (b8 b a j).1 (cr (a-b)<|O-b)=0:=C9 (by rw[d8];lia) (by rw[d8];lia);obtain⟨k',u,T,o⟩:=v7 I.prim.ne i;have r:∀w,k'*i4 (a-b) (O-b) w=u*c5 (b8 b a j).1 w:=λw=>by have:=iu (λv=>c5 v w) o;simp only[L5,T1]at this;exact this
  have gm:0<u:=by
   have q:=iu (c5 (b8 b a j).1) o;rw[i6,i6]at q;have f:0<c5 (b8 b a j).1 (cr (a-b)<|O-b):=eO;have:=aBd T f;have hn:=u8 I.prim.ne;by_cases z:0<u
   .exact z
   .have:=aAO (show u<=0 by lia) (aAL hn);simp at this;lia
  have t2:i4 (a-b) (O-b) (P-b)<=0:=by
   have q:=r (P-b);have h0:c5 (b8 b a j).1 (P-b)<=0:=by rw[d8];have:=I.sup P pP;lia
   have:=aAE h0 (aAL gm);rw[aBR]at this;by_cases z:i4 (a-b) (O-b) (P-b)<=0
   .exact z
   .have:=aBd T (show 0<i4 (a-b) (O-b) (P-b)by lia);lia
  have t3:i4 (a-b) (O-b) (P-b)=0:=by rw[j9]at t1;lia
  have U:=r (P-b);rw[t3,aBR]at U;have onP':c5 (b8 b a j).1 P=(b8 b a j).2:=by have:=(aAn.mp U.symm).resolve_left (by lia);rw[d8]at this;lia
  obtain⟨Z',E,H⟩:=hs.below g.prim.ne g.sup;obtain⟨t,f⟩:=gB g.prim I.prim g.sup I.sup gb ga eP e1b e1a onP' hP E H;exact aFQ t f
 .
  left;have kg:l<0:=by lia
  obtain⟨O,hO,eO⟩:=s.ac7 h;obtain⟨pO,dO⟩:=c8.mp hO;rw[oB]at eO;have t1:0<=i4 (a-b) (P-b) (O-b):=by
   have q:=dl (O-b);have h2:0<=l*c5 m (O-b):=by
    have:=aBc (show 0<=-l by lia) (show 0<=-c5 m (O-b)by have:=N O pO;lia)
    rwa [aDq]at this
   by_cases z:0<=i4 (a-b) (P-b) (O-b)
   .exact z
   .have:=aAB hk (show i4 (a-b) (P-b) (O-b)<0 by lia);lia
  have i:cr n (cr (b-a)<|O-b)=0:=C9 (by rw[d8];lia) (by rw[d8];lia);obtain⟨k',u,T,o⟩:=v7 s.prim.ne i;have r:∀w,k'*i4 (b-a) (O-b) w=u*c5 n w:=λw=>by have:=iu (λv=>c5 v w) o;simp only[L5,T1]at this;exact this
  have gm:0<u:=by
   have q:=iu (c5 n) o;rw[i6,i6]at q;have f:0<c5 n (cr (b-a)<|O-b):=eO;have:=aBd T f;have hn:=u8 s.prim.ne;by_cases z:0<u
   .exact z
   .have:=aAO (show u<=0 by lia) (aAL hn);simp at this;lia
  have t2:i4 (b-a) (O-b) (P-b)<=0:=by
   have q:=r (P-b);have h0:c5 n (P-b)<=0:=by rw[d8];have:=s.sup P pP;lia
   have:=aAE h0 (aAL gm);rw[aBR]at this;by_cases z:i4 (b-a) (O-b) (P-b)<=0
   .exact z
   .have:=aBd T (show 0<i4 (b-a) (O-b) (P-b)by lia);lia
  have e3:i4 (b-a) (O-b) (P-b)=i4 (a-b) (P-b) (O-b):=by simp[i4,c5];grind
  have t3:i4 (b-a) (O-b) (P-b)=0:=by lia
  have U:=r (P-b);rw[t3,aBR]at U;have onn:c5 n P=d:=by have:=(aAn.mp U.symm).resolve_left (by lia);rw[d8]at this;lia
  obtain⟨Z',E,H⟩:=hs.below g.prim.ne g.sup;obtain⟨t,f⟩:=gB g.prim s.prim g.sup s.sup gb ga eP db da onn hP E H;exact aFQ t f
end
def yT (k:k8 j)(l:m∈j)(o:∀X∈j,X=m\/i3 (X-m)):
  cM (b8 m (m+kk) j).1/\m∈w6 (b8 m (m+kk) j).1 (b8 m (m+kk) j).2 j/\∃a∈w6 (b8 m (m+kk) j).1 (b8 m (m+kk) j).2 j,m≠a:=by
 have C:ConeM (m+kk-m) (λw=>0<w.x\/(w.x=0/\0<w.y)):=by rw[K8];exact DN
 have p:m+kk-m≠0:=by rw[K8];intro e;have:=iu V.z e;simp[kk]at this
 have b:∀P∈j,(0<(P-m).x\/((P-m).x=0/\0<(P-m).y))\/cr (m+kk-m) (P-m)=0:=λP r=>by
  rw[K8];rcases o P r with e|e
  .right;subst e;rw[n6];apply ext<;>simp
  .unfold i3 at e;rcases e with e|⟨f,e|⟨s,H⟩⟩
   .exact .inl (.inl e)
   .exact .inl (.inr ⟨f,e⟩)
   .right;apply ext
    .simp[kk];simp at s;lia
    .simp[kk];simp at f;lia
    .simp[kk]
 have t:∃P∈j,0<(P-m).x\/((P-m).x=0/\0<(P-m).y):=by
  by_cases z:∃P∈j,0<(P-m).x\/((P-m).x=0/\0<(P-m).y)
  .exact z
  .exfalso;obtain⟨Z,h,e⟩:=k.off (n:=⟨1,0,0⟩) (d:=m.x) (λe=>by have:=iu V.x e;simp at this);have w:=(b Z h).resolve_left λq=>z ⟨Z,h,q⟩;rw[K8]at w;have:=iu V.y w;simp[kk]at this;simp[c5]at e
   lia
 obtain⟨a,g,u,i,I,J,v,A,B,L,E,N⟩:=V2 C p b t;refine⟨v,c8.mpr ⟨l,A.symm⟩,a,c8.mpr ⟨u,E⟩,λe=>?_⟩;subst e;rw[n6]at i;simp at i
section
variable{j:List V} (hs:k8 j) (ho:j.Pairwise (λa b=>i3 (b-a)))
include hs ho
theorem wX (d:IsFace j f.1 f.2)(e:IsFace j g.1 g.2)(l:(a,b)∈W5 (f8 j f))(m:(a,b)∈W5 (f8 j g)):f=g:=by
 have i:=(d.aa2 ho).aa1.mp l;have h:=(e.aa2 ho).aa1.mp m;obtain⟨n,k⟩:=fB hs ho d i;rcases HM hs ho d e i (c8.mp h.p).2 (c8.mp h.q).2 with q|q
 .exact q.symm
 .exfalso;have:g=b8 b a j:=q;rw[<-this]at k;exact aX hs ho e h k
theorem GW (h:l.Nodup):(W5 l).Nodup:=by
 have:((W5 l).map (·.1)).Nodup:=by
  unfold W5;rw[List.map_fst_zip]
  .exact h
  .simp;lia
 exact(aBS.mp this).imp λ{a b} h e=>h (by rw[e])
def GX (j:List V)(fs:List (V×Int)):List (V×V):=fs.flatMap λf=>W5 (f8 j f)
omit hs ho in
theorem KP (fs:List (V×Int)):(GX j fs).length=(fs.map λf=>(f8 j f).length).sum:=by
 induction fs with
 |nil=>rfl
 |cons f fs a=>show(W5 (f8 j f)++GX j fs).length=_;rw[aAK,a,aAp,aBF];congr 1;unfold W5;simp;lia
theorem oN:∀{fs:List (V×Int)},fs.Nodup->(∀f∈fs,IsFace j f.1 f.2)->(GX j fs).Nodup
 |[],_,_=>aDi
 |f::fs,l,h=>by have i:=aAS.mp l;have k:=h f (.head _);show(W5 (f8 j f)++GX j fs).Nodup;rw[aCT];refine⟨GW hs ho ((k.aa2 ho).aa5),oN i.2 λg d=>h g (.tail _ d),λe m p n q=>?_⟩;subst q;obtain⟨g,d,o⟩:=aCe.mp n;exact i.1 (wX hs ho k (h g<|.tail _ d) (a:=e.1) (b:=e.2) m o▸d)
theorem rX {fs:List (V×Int)}(t:fs.Nodup)(m:∀f∈fs,IsFace j f.1 f.2):(fs.map λf=>(f8 j f).length).sum+j.length<=j.length*j.length:=by
 have i:j.Nodup:=ho.imp λ{a b} h e=>by subst e;exact I0 h
 have u:=oN hs ho t m;have v:(GX j fs++j.map λa=>(a,a)).Nodup:=by rw[aCT];refine⟨u,aBS.mpr (i.imp λ{a b} h e=>h (Prod.mk.inj e).1),λe d A w q=>?_⟩;subst q;obtain⟨g,n,k⟩:=aCe.mp d;obtain⟨a,_,rfl⟩:=aAo.mp w;exact(((m g n).aa2 ho).aa1.mp k).ne rfl
 have x:∀e∈GX j fs++j.map (λa=>(a,a)),e∈j.flatMap λa=>j.map λb=>(a,b):=λe d=>by
  rcases aAX.mp d with d|d
  .obtain⟨g,n,k⟩:=aCe.mp d;have k:(e.1,e.2)∈W5 (f8 j g):=k;have o:=((m g n).aa2 ho).aa1.mp k;exact aCe.mpr ⟨e.1,(c8.mp o.p).1,aAo.mpr ⟨e.2,(c8.mp o.q).1,rfl⟩⟩
  .obtain⟨a,r,rfl⟩:=aAo.mp d;exact aCe.mpr ⟨a,r,aAo.mpr ⟨a,r,rfl⟩⟩
 have s:=D7 v x;have y:(j.flatMap λa=>j.map λb=>(a,b)).length=j.length*j.length:=by
  have:∀l:List V,(l.flatMap λa=>j.map λb=>(a,b)).length=l.length*j.length:=λl=>by
   induction l with
   |nil=>simp
   |cons a l z=>rw[List.flatMap_cons,aAK,z,aAh,aAv,Nat.succ_mul];lia
  exact this j
 rw[aAK,KP,aAh,y]at s;exact s
theorem kM {fs:List (V×Int)}(a:∀f∈fs,IsFace j f.1 f.2):3*fs.length<=(fs.map λf=>(f8 j f).length).sum:=by
 induction fs with
 |nil=>simp
 |cons f fs b=>
  have:=b λg d=>a g (.tail _ d);obtain⟨r,s,t,l,e⟩:=fH ho (a f<|.head _);have h:(f8 j f).length=l.length+3:=by show(t6 f.1 (w6 f.1 f.2 j)).length=_;rw[e];simp
  rw[aAp,aBF,aAv,h]
  lia
end
theorem iX:∀(j:List V) (d b:V),(F1 a A j d b).2∈j\/(F1 a A j d b).2=b
 |[],d,b=>.inr rfl
 |P::e,d,b=>by
  unfold F1;split
  .rcases iX e (cr a (P-A)) P with h|h
   .exact .inl (.tail _ h)
   .exact .inl (by rw[h];exact .head _)
  .rcases iX e d b with h|h
   .exact .inl (.tail _ h)
   .exact .inr h
section
variable{j c:List V} (hs:k8 j) (ho:j.Pairwise (λa b=>i3 (b-a))) (uh:c.Pairwise (λa b=>i3 (b-a))) (hc:∀X,X∈c↔∃f:V×Int,IsFace j f.1 f.2/\X∈f8 j f)
include hs ho uh hc
omit hs ho uh hc in
end
def ak {Pos:V->Prop}(C:Cone Pos){n m p v q u:V}(g:n≠0)(r:c5 n p=0)(d:c5 n v=0)(f:c5 n q=0)(s:c5 n u=0)(B:Pos p)(i:Pos v)(j:Pos q)(E:Pos u)(H:0<c5 m p)(mv:c5 m v<0)(k:0<c5 m q)(mu:c5 m u<0)(t:0<=i4 n v p)(w:0<=i4 n q u):False:=by
 have id:∀{a b c:V},c5 n a=0->c5 n b=0->c5 n c=0->i4 n a b*c5 m c+i4 n b c*c5 m a+i4 n c a*c5 m b=0:=λ{a b c} I J L=>by have:=WA m n a b c;rw[w8 g I J L,aGz]at this;exact this
 have N:=id d r f;have O:=id f s d;rcases aDN 0 (i4 n q v)with h|h
 .
  have l:=C.tr j i B (w8 g f d r) h t;have o:i4 n p q=-i4 n q p:=j9 n q p;rw[o]at N;have Q:0<=i4 n v p*c5 m q:=aBc t (aAL k);have T:0< -i4 n q p*c5 m v:=by have:=aBd l (show 0< -c5 m v by lia);grind
  have U:0<i4 n q v*c5 m p:=aBd h H
  lia
 .rcases aDN (i4 n q v) 0 with h'|h'
  .have e0:i4 n v q=-i4 n q v:=j9 n q v;have A:0<i4 n v q:=by lia
   have l:=C.tr i j E (w8 g d f s) A w;have o:i4 n u v=-i4 n v u:=j9 n v u;rw[o]at O;have Q:i4 n q u*c5 m v<=0:=by have:=aBc w (show 0<=-c5 m v by lia);grind
   have T:-i4 n v u*c5 m q<0:=by have:=aBd l k;grind
   have U:i4 n v q*c5 m u<0:=by have:=aBd A (show 0< -c5 m u by lia);grind
   lia
  .have z:i4 n q v=0:=by lia
   have c0:=U4 g f d z;have e:c5 m q*v+(-c5 m v)*q=0:=by have Y:=iu V.x c0;have hy:=iu V.y c0;have hz:=iu V.z c0;simp at Y hy hz;apply ext<;>simp[c5]<;>grind
   have:=C.add (C.mul k i) (C.mul (show 0< -c5 m v by lia) j);rw[e]at this;exact C.irr this
section
variable{n:V} {ts:List V} (S:Sheet n ts)
include S
theorem Sheet.ac9 (h:X∈v5 n ts\/X∈v5 n ts.reverse):X∈t6 n ts:=by
 obtain⟨m,M,c,d,j,k,f,l,o,b,e,g,i,p,q⟩:=S.ends;unfold t6;rw[aAX,b,e,aAM,aAM,aBi,aBi,aCv,aCv];rw[b,e]at h;have a:m≠M:=λz=>by subst z;exact I0 f
 rcases h with h|h
 .rcases aAd.mp h with rfl|h
  .right;have:=aCS i;rcases aAd.mp this with z|z
   .exact absurd z.symm a
   .exact z
  .exact .inl h
 .rcases aAd.mp h with rfl|h
  .left;have:=aCS g;rcases aAd.mp this with z|z
   .exact absurd z a
   .exact z
  .exact .inr h
theorem Sheet.top (d:X∈ts)(h:∀Y∈ts,Y≠X->c5 m Y<c5 m X):X∈t6 n ts:=by
 obtain⟨t,n1,t1⟩:=S.ab1;obtain⟨w,n2,t2⟩:=S.ab2;have x:∀u,i3 u->i3 (-u)->False:=λu y A=>by have:=A4.add y A;have B:u+-u=0:=ext (by simp;lia) (by simp;lia) (by simp;lia);rw[B]at this;exact A4.irr this
 have C:∀u,M8 u->M8 (-u)->False:=λu y A=>by have:=Y5.add y A;have B:u+-u=0:=ext (by simp;lia) (by simp;lia) (by simp;lia);rw[B]at this;exact Y5.irr this
 rcases oT X (v5 n ts) (λY _=>K1 X Y) (λq E=>t1 X q E d) (λz H=>t.last X d z H) n1 x with I|⟨a,b,j,Q,T⟩
 .exact S.ac9 (.inl I)
 .rcases oT X (v5 n ts.reverse) (λY _=>by
    rcases K1 X Y with z|z|z
    .exact .inl z
    .exact .inr (.inr (o7.mpr z))
    .exact .inr (.inl (o7.mpr z))) (λq E=>t2 X q E d) (λz H=>w.last X d z H) n2 C with I|⟨k,s,f,J,kr⟩
  .exact S.ac9 (.inr I)
  .exfalso;have U:=K7 S j;have m2:=K7 S f;have L:=t.mem _ U.1;have N:=t.mem _ U.2;have g:=w.mem _ m2.1;have i:=w.mem _ m2.2;have E1:=(S.ae1 j L N).1.left X d;have E2:=(S.ad9 f g i).1.left X d;have l:=o7.mp J;have o:=o7.mp kr;have ne:∀{Y},i3 (X-Y)->Y≠X:=λO z=>by subst z;exact I0 O
   have r:∀{Y},i3 (Y-X)->Y≠X:=λO z=>by subst z;exact I0 O
   have va:=h a L (ne Q);have vb:=h b N (r T);have va':=h k g (r l);have vb':=h s i (ne o);refine ak A4 (n:=n) (m:=m) (p:=X-a) (v:=b-X) (q:=X-s) (u:=k-X) S.nz (S.pl _ d _ L) (S.pl _ N _ d) (S.pl _ d _ i) (S.pl _ g _ d) Q T o l (by rw[d8];lia) (by rw[d8];lia) (by rw[d8];lia) (by rw[d8];lia) ?_ ?_
   .have e:i4 n (b-a) (X-a)=i4 n (b-X) (X-a):=by simp[i4,c5];grind
    rw[<-e];exact E1
   .have e:i4 n (s-k) (X-k)=i4 n (X-s) (k-X):=by simp[i4,c5];grind
    rw[<-e];exact E2
end
section
variable{j:List V} (hs:k8 j)
include hs
theorem Z1 (a:IsFace j n d)(b:IsFace j m e)(i:c5 n X=d)(o:c5 m X=e)(h:cr m n=0):(n,d)=(m,e):=by
 obtain⟨k,l,f,g⟩:=v7 b.prim.ne h;obtain⟨Z,p,u⟩:=hs.below a.prim.ne a.sup;have r:0<l:=by
  have q:=iu (λv=>c5 v (Z-X)) g;rw[L5,L5]at q;have s:c5 n (Z-X)<0:=by rw[d8];lia
  have w:c5 m (Z-X)<=0:=by rw[d8];have:=b.sup Z p;lia
  have x:k*c5 n (Z-X)<0:=aAB f s;by_cases z:0<l
  .exact z
  .exfalso;have:0<=l*c5 m (Z-X):=by
    have:=aBc (show 0<=-l by lia) (show 0<=-c5 m (Z-X)by lia)
    rwa [aDq]at this
   lia
 have t:=vD a.prim b.prim f r g;subst t;rw[<-i,<-o]
theorem BM {a b c:Int}(o:IsFace j n d)(p:IsFace j m e)(r:IsFace j k f)(hX:c5 n X=d)(qg:c5 m X=e)(s:c5 k X=f)(hc:0<c)(t:0<a)(u:0<b)(h:c*k=a*n+b*m)(w:cr n m≠0):False:=by
 obtain⟨A,x,B,y,C,E,H,I,J,g⟩:=r.three;have i:∀Y∈j,c5 k Y=f->c5 n Y=d/\c5 m Y=e:=λY l hy=>by
  have h1:=o.sup Y l;have h2:=p.sup Y l;have q:=iu (λv=>c5 v (Y-X)) h;have q:c*c5 k (Y-X)=a*c5 n (Y-X)+b*c5 m (Y-X):=by
   have L:c5 (c*k) (Y-X)=c*c5 k (Y-X):=L5 ..;have N:c5 (a*n+b*m) (Y-X)=a*c5 n (Y-X)+b*c5 m (Y-X):=by simp[c5];grind
   rw[<-L,<-N];exact q
  have O:c5 k (Y-X)=0:=by rw[d8];lia
  rw[O,aBR]at q;have Q:c5 n (Y-X)<=0:=by rw[d8];lia
  have T:c5 m (Y-X)<=0:=by rw[d8];lia
  have a0:a*c5 n (Y-X)<=0:=aAs (aAL t) Q;have b0:b*c5 m (Y-X)<=0:=aAs (aAL u) T;have U:a*c5 n (Y-X)=0:=by lia
  have z2:b*c5 m (Y-X)=0:=by lia
  have y1:c5 n (Y-X)=0:=by rcases aAn.mp U with z|z;lia;exact z
  have y2:c5 m (Y-X)=0:=by rcases aAn.mp z2 with z|z;lia;exact z
  rw[d8]at y1 y2;exact⟨by lia,by lia⟩
 obtain⟨a1,a2⟩:=i A x H;obtain⟨b1,b2⟩:=i B y I;obtain⟨c1,c2⟩:=i C E J;have p1:cr n (cr (B-A)<|C-A)=0:=C9 (by rw[d8];lia) (by rw[d8];lia);have p2:cr m (cr (B-A)<|C-A)=0:=C9 (by rw[d8];lia) (by rw[d8];lia);exact w (cA g p1 p2)
theorem iY (p:IsFace j n d)(A:IsFace j m e)(i:IsFace j k f)(C:c5 n X=d)(E:c5 m X=e)(H:c5 k X=f)(n12:(n,d)≠(m,e))(n13:(n,d)≠(k,f))(n23:(m,e)≠(k,f)):i4 n m k≠0:=λz=>by
 have I:cr n m≠0:=λq=>n12 (Z1 hs A p E C q).symm;have J:cr n k≠0:=λq=>n13 (Z1 hs i p H C q).symm;have L:cr m k≠0:=λq=>n23 (Z1 hs i A H E q).symm;have l:∀{u v:V},cr u v≠0->cr v u≠0:=λ{u v} h q=>h (by have N:=iu V.x q;have g:=iu V.y q;have B:=iu V.z q;simp at N g B;apply ext<;>simp<;>grind)
 obtain⟨w,ew⟩:∃w,w=cr n m:=⟨_,rfl⟩;have r:=AJ w n m k;rw[z]at r;have O:0<i4 w n m:=by
  have:i4 w n m=c5 w w:=by rw[ew];rfl
  rw[this,ew];exact u8 I
 obtain⟨c,ec⟩:∃c,c=i4 w n m:=⟨_,rfl⟩;obtain⟨a,ea⟩:∃a,a=-i4 w m k:=⟨_,rfl⟩;obtain⟨b,eb⟩:∃b,b=-i4 w k n:=⟨_,rfl⟩;have T:c*k=a*n+b*m:=by rw[ec,ea,eb];have N:=iu V.x r;have g:=iu V.y r;have B:=iu V.z r;simp at N g B;apply ext<;>simp<;>lia
 rw[<-ec]at O;have U:=iu V.x T;have Y:=iu V.y T;have vz:=iu V.z T;simp at U Y vz;have o:∀{u v:V} {s t:Int},s≠0->s*u=t*v->cr u v=0:=λ{u v s t} ko h=>by
  have N:=iu V.x h;have g:=iu V.y h;have B:=iu V.z h;simp at N g B;have go:∀y:Int,s*y=0->y=0:=λy g=>by rcases aAn.mp g with q|q;exact absurd q ko;exact q
  apply ext<;>simp<;>apply go<;>grind
 rcases aDN 0 a with ha|ha
 .rcases aDN 0 b with Q|Q
  .exact BM hs p A i C E H O ha Q T I
  .rcases aDN b 0 with kr|kr
   .
    refine BM hs i A p H E C ha O (show 0< -b by lia) (c:=a) (a:=c) (b:=-b) ?_ (l L);apply ext<;>simp<;>lia
   .have b0:b=0:=by lia
    refine J (o (u:=n) (v:=k) (s:=a) (t:=c) (by lia) ?_);rw[b0]at U Y vz;apply ext<;>simp<;>lia
 .rcases aDN a 0 with ha'|ha'
  .rcases aDN 0 b with Q|Q
   .refine BM hs i p A H C E Q O (show 0< -a by lia) (c:=b) (a:=c) (b:=-a) ?_ (l J);apply ext<;>simp<;>lia
   .
    obtain⟨Z,hZ,B⟩:=hs.below i.prim.ne i.sup;have q:c*c5 k (Z-X)=a*c5 n (Z-X)+b*c5 m (Z-X):=by simp[c5];grind
    have k0:c5 k (Z-X)<0:=by rw[d8];lia
    have n0:c5 n (Z-X)<=0:=by rw[d8];have:=p.sup Z hZ;lia
    have m0:c5 m (Z-X)<=0:=by rw[d8];have:=A.sup Z hZ;lia
    have t1:c*c5 k (Z-X)<0:=aAB O k0;have t2:0<=a*c5 n (Z-X):=by
     have:=aBc (show 0<=-a by lia) (show 0<=-c5 n (Z-X)by lia)
     rwa [aDq]at this
    have t3:0<=b*c5 m (Z-X):=by
     have:=aBc (show 0<=-b by lia) (show 0<=-c5 m (Z-X)by lia)
     rwa [aDq]at this
    lia
  .have a0:a=0:=by lia
   by_cases b0:b=0
   .rw[a0,b0]at U Y vz;have k0:k=0:=by
     have go:∀y:Int,c*y=0->y=0:=λy g=>by rcases aAn.mp g with q|q;lia;exact q
     apply ext<;>simp<;>apply go<;>lia
    exact i.prim.ne k0
   .refine L (o (u:=m) (v:=k) (s:=b) (t:=c) b0 ?_);rw[a0]at U Y vz;apply ext<;>simp<;>lia
end
abbrev T3:=V×V×V
def tr (r:T3):T3:=(⟨r.1.x,r.2.1.x,r.2.2.x⟩,⟨r.1.y,r.2.1.y,r.2.2.y⟩,⟨r.1.z,r.2.1.z,r.2.2.z⟩)
def a0m:T3:=(⟨1,0,0⟩,⟨0,1,0⟩,⟨0,0,1⟩)
def a2n (r:T3):tr (tr r)=r:=rfl
abbrev Mv:=T3×V
def VC:Mv:=(a0m,0)
section
variable{j qts:List V} {m:Mv} {n:V} {d:Int}
end
section
end
section
variable{j qts:List V} {n:V} {d:Int}
end
structure Sl where
 a:Int
 b:Int
 c:Int
 w:V
 t:Bool
def Sl.put (s:Sl)(P:V):V:=
 let x:=P.x+s.a*P.y
 let y:=P.y+s.b*P.z
 let z:=P.z+s.c*x
 if s.t then⟨y+s.w.x,x+s.w.y,z+s.w.z⟩else⟨x+s.w.x,y+s.w.y,z+s.w.z⟩
def Sl.mv (s:Sl):Mv:=
 let d:V:=⟨1,s.a,0⟩
 let e:V:=⟨0,1,s.b⟩
 let f:V:=⟨s.c,s.c*s.a,1⟩
 (if s.t then(e,d,f)else(d,e,f),s.w)
def P3 {n m k y:V}(a:i4 n m k≠0)(d:c5 n y=0)(g:c5 m y=0)(h:c5 k y=0):y=0:=by
 have i:∀t:Int,i4 n m k*t=0->t=0:=λt j=>by
  rcases aAn.mp j with q|q
  .exact absurd q a
  .exact q
 have e:∀f:V->Int,(f=(·.x)\/f=(·.y)\/f=(·.z))->i4 n m k*f y=c5 n y*f (cr m k)+c5 m y*f (cr k n)+c5 k y*f (cr n m):=λf b=>by rcases b with rfl|rfl|rfl<;>simp[i4,c5,cr]<;>grind
 have z:∀f:V->Int,(f=(·.x)\/f=(·.y)\/f=(·.z))->f y=0:=λf b=>i _ (by rw[e f b,d,g,h];simp);exact ext (z _<|.inl rfl) (z _<|.inr (.inl rfl)) (z _<|.inr (.inr rfl))
def RX {a b p q d:Int}(f:0<a)(g:0<b)(i:p<=d)(j:q<=d)(e:(a+b)*d=a*p+b*q):p=d:=by
 have k:=aBc (aAL f) (show 0<=d-p by lia);have l:=aBc (aAL g) (show 0<=d-q by lia);have m:a*(d-p)+b*(d-q)=0:=by
  have:a*(d-p)+b*(d-q)=(a+b)*d-(a*p+b*q):=by grind
  lia
 have h:a*(d-p)=0:=by
  clear e;generalize a*(d-p)=u at*
  generalize b*(d-q)=v at*
  lia
 rcases aAn.mp h with q|q<;>lia
section
variable{j:List V} (hs:k8 j) (ho:j.Pairwise (λa b=>i3 (b-a)))
include hs ho
theorem cD (f:IsFace j n d)(s:X∈f8 j (n,d))(t:P∈j)(u:Q∈j){a b:Int}(v:0<a)(w:0<b)(e:(a+b)*X=a*P+b*Q):P=X:=by
 obtain⟨A,B,i,k,x,y,z,l,o,p⟩:=bE hs ho f s;have g:∀{m:V} {c:Int},IsFace j m c->c5 m X=c->c5 m (P-X)=0:=λ{m c} h r=>by have q:=iu (c5 m) e;rw[i6,show c5 m (a*P+b*Q)=a*c5 m P+b*c5 m Q by simp[c5];grind,r]at q;rw[d8,r,RX v w (h.sup P t) (h.sup Q u) q];lia
 exact J0 (P3 (iY hs f i k l o p x y z) (g f l) (g i o)<|g k p)
theorem TC (g:∃f:V×Int,IsFace j f.1 f.2/\A∈f8 j f)(i:∃f:V×Int,IsFace j f.1 f.2/\B∈f8 j f)(l:∃f:V×Int,IsFace j f.1 f.2/\C∈f8 j f)(ab:A≠B)(n:A≠C)(v:B≠C):cr (B-A) (C-A)≠0:=λz=>by
 have d:∀{X:V},(∃f:V×Int,IsFace j f.1 f.2/\X∈f8 j f)->X∈j:=λ{X} ⟨f,o,p⟩=>(c8.mp<|(o.aa2 ho).aa3 p).1;have r:∀{X P Q:V} {a b:Int},(∃f:V×Int,IsFace j f.1 f.2/\X∈f8 j f)->P∈j->Q∈j->0<a->0<b->(a+b)*X=a*P+b*Q->P=X:=λ⟨f,o,p⟩ H I J L e=>cD hs ho o p H I J L e;obtain⟨k,m,E,e⟩:=v7 (a:=B-A) (w:=C-A) (λq=>ab (J0 q).symm) z;have s:=iu V.x e;have t:=iu V.y e;have u:=iu V.z e;simp at s t u;rcases Int.lt_trichotomy m 0 with h|h|h
 .exact n (r g (d l) (d i) E (show 0< -m by lia) (by apply G.ext<;>simp<;>grind)).symm
 .subst h;refine n (G.ext ?_ ?_ ?_)
  .rcases aAn.mp (show k*(C.x-A.x)=0 by lia)with q|q<;>lia
  .rcases aAn.mp (show k*(C.y-A.y)=0 by lia)with q|q<;>lia
  .rcases aAn.mp (show k*(C.z-A.z)=0 by lia)with q|q<;>lia
 .rcases Int.lt_trichotomy m k with q|q|q
  .exact n (r l (d g) (d i) (show 0<k-m by lia) h (by apply G.ext<;>simp<;>grind))
  .subst q;refine v (G.ext ?_ ?_ ?_)
   .rcases aAn.mp (show m*(C.x-B.x)=0 by grind)with q|q<;>lia
   .rcases aAn.mp (show m*(C.y-B.y)=0 by grind)with q|q<;>lia
   .rcases aAn.mp (show m*(C.z-B.z)=0 by grind)with q|q<;>lia
  .exact v (r i (d l) (d g) E (show 0<m-k by lia) (by apply G.ext<;>simp<;>grind)).symm
end
section
variable{j:List V} (hs:k8 j) (ho:j.Pairwise (λa b=>i3 (b-a)))
include hs ho
theorem mQ {a b n:V}{d:Int}(g:IsFace j n d)(h:EdgeOf n (λX=>X∈w6 n d j) a b):∃m e,IsFace j m e/\(n,d)≠(m,e)/\c5 m a=e/\c5 m b=e:=by obtain⟨i,f⟩:=fB hs ho g h;refine⟨_,_,i,λe=>?_,(c8.mp f.q).2,(c8.mp f.p).2⟩;have:(n,d)=b8 b a j:=e;rw[<-this]at f;exact aX hs ho g h f
theorem UN {n m k X Y:V}{d e f:Int}(g:IsFace j n d)(h:IsFace j m e)(i:IsFace j k f)(t:c5 n X=d)(u:c5 m X=e)(v:c5 k X=f)(l:(n,d)≠(m,e))(o:(n,d)≠(k,f))(p:(m,e)≠(k,f))(q:Y∈j)(ne:Y≠X):c5 n Y<d\/c5 m Y<e\/c5 k Y<f:=by
 have r:=iY hs g h i t u v l o p;have a:=g.sup Y q;have b:=h.sup Y q;have c:=i.sup Y q;by_cases z:c5 n Y<d\/c5 m Y<e\/c5 k Y<f
 .exact z
 .have s:∀{n:V} {d:Int},c5 n X=d->c5 n Y=d->c5 n (Y-X)=0:=λ{n d} g h=>by
   have:c5 n (Y-X)=c5 n Y-c5 n X:=by simp[c5];grind
   lia
  have:=P3 r (s t (by lia)) (s u (by lia)) (s v (by lia));exact absurd (by have g:=iu V.x this;have h:=iu V.y this;have i:=iu V.z this;simp at g h i;exact ext (by lia) (by lia) (by lia)) ne
end
section
variable{j qts:List V} {n:V} {d:Int} {m:Mv}
end
section
variable{p o:List V} (hs:k8 o) (ho:o.Pairwise (λa b=>i3 (b-a))) (sub:∀X∈p,X∈o) (ex:∀Y∈o,Y∈p\/∃a∈p,∃b∈p,(2:Int)*Y=a+b)
include hs ho sub ex
end
section
variable{j c:List V} (hs:k8 j) (ho:j.Pairwise (λa b=>i3 (b-a))) (uh:c.Pairwise (λa b=>i3 (b-a))) (hc:∀X,X∈c↔∃f:V×Int,IsFace j f.1 f.2/\X∈f8 j f)
include hs ho uh hc
end
def KH {n a b x:V}(d:n≠0)(e:c5 n a=0)(f:c5 n b=0)(nx:c5 n x=0):i4 n a b*x=i4 n x b*a+i4 n a x*b:=by
 have z:=w8 d e f nx;have g:=iu (λt=>t*n.x) z;have h:=iu (λt=>t*n.y) z;have i:=iu (λt=>t*n.z) z;simp only[i4,c5,cr]at g h i;apply ext
 .simp[i4,c5];grind
 .simp[i4,c5];grind
 .simp[i4,c5];grind
def HW:∀ds:List V,∃w:V,∀v∈ds,i3 v->0<c5 w v:=by
 intro ds;obtain⟨N,g⟩:∃N:Int,0<N/\∀v∈ds,-N<v.x/\v.x<N/\-N<v.y/\v.y<N/\-N<v.z/\v.z<N:=by
  induction ds with
  |nil=>exact⟨1,by decide,λv d=>nomatch d⟩
  |cons u ds i=>
   obtain⟨N,f,h⟩:=i;refine⟨N+u.x.natAbs+u.y.natAbs+u.z.natAbs+1,by lia,λv d=>?_⟩;rcases aAd.mp d with rfl|d
   .lia
   .have:=h v d;lia
 obtain⟨f,h⟩:=g;refine⟨⟨2*N*(2*N),2*N,1⟩,λv d p=>?_⟩;obtain⟨j,k,l,m,n,o⟩:=h v d;simp only[c5,Int.one_mul];unfold i3 at p;rcases p with p|⟨p,q|⟨q,r⟩⟩
 .have a:2*N*(2*N)*1<=2*N*(2*N)*v.x:=aAE (by lia) (aBc (by lia) (by lia));have b:2*N*(-N+1)<=2*N*v.y:=aAE (by lia) (by lia);have e:2*N*(-N+1)+2*N*(2*N)*1=2*(N*N)+2*N:=by grind
  have s:0<N*N:=aBd f f
  lia
 .rw[p,aBR];have b:2*N*1<=2*N*v.y:=aAE (by lia) (by lia)
  lia
 .rw[p,q,aBR,aBR];lia
section
variable{j:List V} (hs:k8 j) (ho:j.Pairwise (λa b=>i3 (b-a)))
include hs ho
theorem cT {n:V}{d:Int}{P v Q:V}(b:IsFace j n d)(a:EdgeOf n (λX=>X∈w6 n d j) P v)(f:EdgeOf n (λX=>X∈w6 n d j) v Q):0<i4 n (Q-v) (P-v)/\∀x:V,c5 n x=0->i4 n (Q-v) (P-v)*x=i4 n x (P-v)*(Q-v)+i4 n (Q-v) x*(P-v):=by
 have S:=b.aa2 ho;have h:P≠Q:=λe=>aX hs ho b a (e▸f);have g:∀{X:V},X∈w6 n d j->c5 n (X-v)=0:=λi=>by rw[d8,(c8.mp i).2,(c8.mp a.q).2];lia
 refine⟨S.strict f (S.ab9 a) a.ne h,λx k=>KH b.prim.ne (g f.q) (g a.p) k⟩
theorem xN {n w:V}{d:Int}{P v Q:V}(i:IsFace j n d)(f:EdgeOf n (λX=>X∈w6 n d j) P v)(h:EdgeOf n (λX=>X∈w6 n d j) v Q)(p:0<=c5 w (P-v))(q:0<=c5 w (Q-v)){X:V}(g:X∈w6 n d j):0<=c5 w (X-v):=by
 obtain⟨k,c⟩:=cT hs ho i f h;have e:=iu (c5 w) (c (X-v) (by rw[d8,(c8.mp g).2,(c8.mp f.q).2];lia));rw[i6,w4,i6,i6]at e;have b:=h.left X g;have a:=f.left X g;have l:i4 n (X-v) (P-v)=i4 n (v-P) (X-P):=by simp[i4,c5];grind
 have u:=aBc (show 0<=i4 n (X-v) (P-v)by lia) q;have m:=aBc b p;by_cases z:0<=c5 w (X-v)
 .exact z
 .have:=aAB k (show c5 w (X-v)<0 by lia)
  lia
theorem AQ {n w y:V}{d:Int}{P v Q:V}(C:IsFace j n d)(E:EdgeOf n (λX=>X∈w6 n d j) P v)(H:EdgeOf n (λX=>X∈w6 n d j) v Q)(I:c5 n y=0)(J:y≠0)(L:c5 w y=0)(i:0<=i4 n y (P-v))(l:0<=i4 n (Q-v) y)(N:c5 w (P-v)≠0)(m:c5 w (Q-v)≠0):(0<c5 w (P-v)/\c5 w (Q-v)<0)\/(c5 w (P-v)<0/\0<c5 w (Q-v)):=by
 obtain⟨D0,c⟩:=cT hs ho C E H;have a:=c y I;have e:=iu (c5 w) a;rw[i6,w4,i6,i6,L,aBR]at e;have o:¬(i4 n y (P-v)=0/\i4 n (Q-v) y=0):=λ⟨O,T⟩=>J (by rw[O,T]at a;have r:=iu V.x a;have s:=iu V.y a;have u:=iu V.z a;simp only[oO,oR,oC,OZ,MR,MH,aGz,aFF]at r s u;have k:∀t:Int,i4 n (Q-v) (P-v)*t=0->t=0:=λt U=>(aAn.mp U).resolve_left (by lia);exact ext (k _ r) (k _ s) (k _ u))
 generalize i4 n y (P-v)=A at*
 generalize i4 n (Q-v) y=B at*
 generalize c5 w (P-v)=p at*
 generalize c5 w (Q-v)=q at*
 rcases aDl N with f|f
 .rcases aDl m with b|b
  .exfalso;have Y:A*q<=0:=aAs i (by lia);have u2:B*p<=0:=aAs l (by lia);have g:A=0:=by
    rcases aAn.mp (show A*q=0 by lia)with z|z
    .exact z
    .lia
   have h:B=0:=by
    rcases aAn.mp (show B*p=0 by lia)with z|z
    .exact z
    .lia
   exact o ⟨g,h⟩
  .exact .inr ⟨f,b⟩
 .rcases aDl m with b|b
  .exact .inl ⟨f,b⟩
  .exfalso;have Y:0<=A*q:=aBc i (by lia);have u2:0<=B*p:=aBc l (by lia);have g:A=0:=by
    rcases aAn.mp (show A*q=0 by lia)with z|z
    .exact z
    .lia
   have h:B=0:=by
    rcases aAn.mp (show B*p=0 by lia)with z|z
    .exact z
    .lia
   exact o ⟨g,h⟩
end
def NM {w a b d n1 n2 n:V}(t:w≠0)(a1:c5 w a=0)(a2:c5 w b=0)(a3:c5 w d=0)(b1:c5 n1 a=0)(b2:c5 n2 b=0)(y:c5 n d=0)(o:c5 n1 b<0)(f:c5 n1 d<0)(g:c5 n2 a<0)(i:c5 n2 d<0)(j:c5 n a<0)(l:c5 n b<0):False:=by
 have e:=KH t a1 a2 a3;have u:=iu (c5 n1) e;have v:=iu (c5 n2) e;have x:=iu (c5 n) e;rw[i6,w4,i6,i6]at u v x;rw[b1]at u;rw[b2]at v;rw[y]at x;have p:a≠0:=λz=>by rw[z]at g;simp[c5]at g
 by_cases z:i4 w a b=0
 .have E:=U4 t a1 a2 z;obtain⟨k,m,H,q⟩:=v7 p E;have I:=iu (c5 n1) q;rw[i6,i6,b1]at I;have:=aAB H o
  lia
 .generalize i4 w a b=A at*
  generalize i4 w d b=B at*
  generalize i4 w a d=C at*
  rcases aDl z with h|h
  .have J:=aBv h f;have L:=aBv h i;have r:C<0:=by
    by_cases q:C<0
    .exact q
    .have:=aAs (show 0<=C by lia) (show c5 n1 b<=0 by lia);lia
   have s:B<0:=by
    by_cases q:B<0
    .exact q
    .have:=aAs (show 0<=B by lia) (show c5 n2 a<=0 by lia);lia
   have:=aBv s j;have:=aBv r l
   lia
  .have J:=aAB h f;have L:=aAB h i;have r:0<C:=by
    by_cases q:0<C
    .exact q
    .have:=aDR (show C<=0 by lia) (show c5 n1 b<=0 by lia);lia
   have s:0<B:=by
    by_cases q:0<B
    .exact q
    .have:=aDR (show B<=0 by lia) (show c5 n2 a<=0 by lia);lia
   have:=aAB s j;have:=aAB r l
   lia
section
variable{j:List V} (hs:k8 j)
include hs
theorem DW {n w v A B:V}{d:Int}(l:IsFace j n d)(g:A∈w6 n d j)(h:B∈w6 n d j)(k:c5 n v=d)(c:cr (A-v) (B-v)≠0)(a:0<c5 w (A-v))(b:c5 w (B-v)<0):∃y,c5 w y=0/\c5 n y=0/\∀m e,IsFace j m e->c5 m v=e->(m,e)≠(n,d)->c5 m y<0:=by
 have f:∀{X:V},X∈w6 n d j->c5 n (X-v)=0:=λo=>by rw[d8,(c8.mp o).2,k];lia
 refine⟨(-c5 w (B-v))*(A-v)+c5 w (A-v)*(B-v),by rw[w4,i6,i6];grind,by rw[w4,i6,i6,f g,f h];simp,λm e i mv ne=>?_⟩;rw[w4,i6,i6];have p:c5 m (A-v)<=0:=by have:=i.sup A (c8.mp g).1;rw[d8];lia
 have r:c5 m (B-v)<=0:=by have:=i.sup B (c8.mp h).1;rw[d8];lia
 have C:=aAs (show 0<=-c5 w (B-v)by lia) p;have E:=aAs (show 0<=c5 w (A-v)by lia) r;by_cases z:c5 m (A-v)=0/\c5 m (B-v)=0
 .exfalso;have s:=C9 z.1 z.2;have t:=C9 (f g) (f h);exact ne (Z1 hs i l mv k<|cA c t s)
 .by_cases u:c5 m (A-v)=0
  .have x:c5 m (B-v)<0:=by
    have:c5 m (B-v)≠0:=λq=>z ⟨u,q⟩
    lia
   have:=aAB a x
   lia
  .have:=aAB (show 0< -c5 w (B-v)by lia) (show c5 m (A-v)<0 by lia)
   lia
end
def iP (w:V)(j:List V)(v:V)(f:V×Int):Prop:=∃P Q,EdgeOf f.1 (λX=>X∈w6 f.1 f.2 j) P v/\EdgeOf f.1 (λX=>X∈w6 f.1 f.2 j) v Q/\((0<c5 w (P-v)/\c5 w (Q-v)<0)\/(c5 w (P-v)<0/\0<c5 w (Q-v)))
section
variable{j:List V} (hs:k8 j) (ho:j.Pairwise (λa b=>i3 (b-a)))
include hs ho
theorem iP.way {w v:V}{f:V×Int}(g:IsFace j f.1 f.2)(h:iP w j v f):c5 f.1 v=f.2/\∃y,c5 w y=0/\c5 f.1 y=0/\∀m e,IsFace j m e->c5 m v=e->(m,e)≠f->c5 m y<0:=by
 obtain⟨P,Q,d,i,c⟩:=h;have k:=(c8.mp d.q).2;have l:=(cT hs ho g d i).1;have n:cr (Q-v) (P-v)≠0:=λz=>by unfold i4 at l;rw[z,D5]at l;lia
 have o:cr (P-v) (Q-v)≠0:=λz=>n (by have r:=iu V.x z;have s:=iu V.y z;have t:=iu V.z z;simp at r s t;apply ext<;>simp<;>grind)
 refine⟨k,?_⟩;rcases c with⟨a,b⟩|⟨a,b⟩
 .exact DW hs g d.p i.q k o a b
 .exact DW hs g i.q d.p k n b a
theorem RN {w v:V}{f g k:V×Int}(o:w≠0)(a:IsFace j f.1 f.2)(b:IsFace j g.1 g.2)(d:IsFace j k.1 k.2)(p:iP w j v f)(mg:iP w j v g)(mk:iP w j v k)(e:f≠g)(h:f≠k)(i:g≠k):False:=by obtain⟨v1,y,q,r,l⟩:=p.way hs ho a;obtain⟨m,z,s,t,n⟩:=mg.way hs ho b;obtain⟨v3,A,u,x,c3⟩:=mk.way hs ho d;exact NM o q s u r t x (n _ _ a v1 e) (c3 _ _ a v1 h) (l _ _ b m e.symm) (c3 _ _ b m i) (l _ _ d v3 h.symm) (n _ _ d v3 i.symm)
end
theorem qO {α:Type}(a b:α->Int):∀l:List α,l≠[]->(∀x∈l,0<b x)->∃x∈l,∀y∈l,a x*b y<=a y*b x
 |[x],_,_=>⟨x,.head _,λy d=>by rw[aAZ.mp d];exact aBV _⟩
 |x::z::l,_,h=>by
  obtain⟨u,e,m⟩:=qO a b (z::l) (by simp) λy d=>h y (.tail _ d);by_cases q:a x*b u<=a u*b x
  .refine⟨x,.head _,λy d=>?_⟩;rcases aAd.mp d with rfl|d
   .exact aBV _
   .have g:=aAO q (aAL<|h y<|.tail _ d);have i:=aAO (m y d) (aAL<|h x<|.head _);have f:b u*(a x*b y)<=b u*(a y*b x):=by
     have j:b u*(a x*b y)=a x*b u*b y:=by grind
     have k:b u*(a y*b x)=a y*b u*b x:=by grind
     have n:a u*b x*b y=a u*b y*b x:=by grind
     lia
    exact aEY f (h u<|.tail _ e)
  .refine⟨u,.tail _ e,λy d=>?_⟩;rcases aAd.mp d with rfl|d
   .lia
   .exact m y d
section
variable{j:List V} (hs:k8 j) (ho:j.Pairwise (λa b=>i3 (b-a)))
include hs ho
theorem yN {v:V}(r:∃f:V×Int,IsFace j f.1 f.2/\v∈f8 j f){n:V}{d:Int}(s:IsFace j n d)(e:c5 n v=d):v∈f8 j (n,d):=by
 obtain⟨f,h,o⟩:=r;obtain⟨i,l,p,q,t,u,w,x,y,z⟩:=bE hs ho h o;have A:=(c8.mp<|(h.aa2 ho).aa3 o).1;refine(s.aa2 ho).top (m:=f.1+i.1+l.1) (c8.mpr ⟨A,e⟩) λY g ne=>?_;have g:=(c8.mp g).1;have a:=h.sup Y g;have b:=p.sup Y g;have c:=q.sup Y g;have k:=UN hs ho h p q x y z t u w g ne;have ad:∀Z:V,c5 (f.1+i.1+l.1) Z=c5 f.1 Z+c5 i.1 Z+c5 l.1 Z:=λZ=>by simp[c5];grind
 rw[ad,ad]
 lia
theorem ZM {w v y:V}{g:V×Int}(hc:∃f:V×Int,IsFace j f.1 f.2/\v∈f8 j f)(i:∀X∈j,X≠v->c5 w (X-v)≠0)(h:IsFace j g.1 g.2)(o:c5 g.1 v=g.2)(u:c5 g.1 y=0)(wy:c5 w y=0)(y0:y≠0)(C:∀m e,IsFace j m e->c5 m v=e->c5 m y<=0):iP w j v g:=by
 have S:=h.aa2 ho;have E:=yN hs ho hc h o;obtain⟨Q,hQ⟩:=dQ S E;obtain⟨P,hP⟩:=mF S (l:=t6 g.1 (w6 g.1 g.2 j)) E;have b:=S.aa1.mp hQ;have d:=S.aa1.mp hP;obtain⟨k,c⟩:=cT hs ho h d b;have H:=c y u;have a:∀{A B:V} {m:V} {e:Int},IsFace j m e->c5 m A=e->c5 m v=e->(m,e)≠g->A∈w6 g.1 g.2 j->B∈w6 g.1 g.2 j->cr (A-v) (B-v)≠0->c5 m (A-v)=0/\c5 m (B-v)<0:=λ{A B m e} I mA mv ne hA J cn=>by
  have n:c5 m (A-v)=0:=by rw[d8];lia
  refine⟨n,?_⟩;have mB:c5 m (B-v)<=0:=by have:=I.sup B (c8.mp J).1;rw[d8];lia
  by_cases r:c5 m (B-v)=0
  .exfalso;have L:∀{X:V},X∈w6 g.1 g.2 j->c5 g.1 (X-v)=0:=λhX=>by rw[d8,(c8.mp hX).2,o];lia
   exact ne (Z1 hs I h mv o<|cA cn (C9 (L hA)<|L J)<|C9 n r)
  .lia
 have N:cr (Q-v) (P-v)≠0:=λz=>by unfold i4 at k;rw[z,D5]at k;lia
 have c2:cr (P-v) (Q-v)≠0:=λz=>N (by have x1:=iu V.x z;have x2:=iu V.y z;have x3:=iu V.z z;simp at x1 x2 x3;apply ext<;>simp<;>grind)
 obtain⟨O,e1,T,s,p1,v1⟩:=mQ hs ho h d;obtain⟨U,e2,Y,t,v2,q2⟩:=mQ hs ho h b;obtain⟨n,l1⟩:=a T p1 v1 (λq=>s q.symm) d.p b.q c2;obtain⟨r,l2⟩:=a Y q2 v2 (λq=>t q.symm) b.q d.p N;have k1:=iu (c5 O) H;have k2:=iu (c5 U) H;rw[i6,w4,i6,i6]at k1 k2;rw[n,aBR,aFF]at k1;rw[r,aBR,Int.zero_add]at k2;have y1:=C O e1 T v1;have y2:=C U e2 Y v2;have A:0<=i4 g.1 y (P-v):=by
  by_cases q:0<=i4 g.1 y (P-v)
  .exact q
  .have u1:=aBv (show i4 g.1 y (P-v)<0 by lia) l1;have u2:=aAs (aAL k) y1
   lia
 have B:0<=i4 g.1 (Q-v) y:=by
  by_cases q:0<=i4 g.1 (Q-v) y
  .exact q
  .have u1:=aBv (show i4 g.1 (Q-v) y<0 by lia) l2;have u2:=aAs (aAL k) y2
   lia
 exact⟨P,Q,d,b,AQ hs ho h d b u y0 wy A B (i P (c8.mp d.p).1 d.ne) (i Q (c8.mp b.q).1 (aBU b.ne))⟩
theorem UH {w v o p:V}(w0:w≠0){fs:List (V×Int)}(J:∀f,f∈fs↔IsFace j f.1 f.2)(hc:∃f:V×Int,IsFace j f.1 f.2/\v∈f8 j f)(Q:∀X∈j,X≠v->c5 w (X-v)≠0)(h1:o∈j)(h2:p∈j)(a:0<c5 w (o-v))(b:c5 w (p-v)<0):∃g∈fs,iP w j v g:=by
 obtain⟨f,L,hr⟩:=id hc;obtain⟨g1,g2,f1,f2,n1,n2,n3,x1,x2,x3⟩:=bE hs ho L hr;have T:=iY hs L f1 f2 x1 x2 x3 n1 n2 n3;obtain⟨d,A⟩:∃y,y=(-c5 w (p-v))*(o-v)+c5 w (o-v)*(p-v):=⟨_,rfl⟩;have wy:c5 w d=0:=by rw[A,w4,i6,i6];grind
 have up:∀{m:V} {e:Int},IsFace j m e->c5 m v=e->c5 m d<=0:=λ{m e} C mv=>by
  rw[A,w4,i6,i6];have mA:c5 m (o-v)<=0:=by have:=C.sup o h1;rw[d8];lia
  have mB:c5 m (p-v)<=0:=by have:=C.sup p h2;rw[d8];lia
  have u1:=aAs (show 0<=-c5 w (p-v)by lia) mA;have u2:=aAs (show 0<=c5 w (o-v)by lia) mB
  lia
 have E:d≠0:=λz=>by
  have e:=cD hs ho L hr h1 h2 (a:=-c5 w (p-v)) (b:=c5 w (o-v)) (by lia) a (by
   rw[z]at A;have r:=iu V.x A;have N:=iu V.y A;have O:=iu V.z A;simp only[OZ,MR,MH,oO,oR,oC,JC,PU,JT]at r N O;have z1:(0:V).x=0:=rfl;have z2:(0:V).y=0:=rfl;have z3:(0:V).z=0:=rfl;apply ext
   .simp only[OZ,oO];grind
   .simp only[MR,oR];grind
   .simp only[MH,oC];grind)
  rw[e,n6,D5]at a;lia
 obtain⟨i,U⟩:∃t,t=cr w d:=⟨_,rfl⟩;have Y:c5 w i=0:=by rw[U];simp[c5];grind
 have yt:c5 d i=0:=by rw[U];simp[c5];grind
 have tne:i≠0:=λz=>by
  rw[U]at z;obtain⟨k,m,hk,q⟩:=v7 w0 z;have r:=iu (c5 w) q;rw[i6,i6,wy,aBR]at r;have ww:=u8 w0;rcases aAn.mp r.symm with s|s
  .rw[s]at q;have p1:=iu V.x q;have p2:=iu V.y q;have p3:=iu V.z q;simp only[oO,oR,oC,aGz]at p1 p2 p3;have kk:∀t:Int,k*t=0->t=0:=λt ht=>(aAn.mp ht).resolve_left (by lia);exact E (ext (kk _ p1) (kk _ p2) (kk _ p3))
  .lia
 have some:∃t,c5 w t=0/\c5 d t=0/\∃h:V×Int,IsFace j h.1 h.2/\c5 h.1 v=h.2/\0<c5 h.1 t:=by
  have n:∀{h:V×Int},IsFace j h.1 h.2->c5 h.1 v=h.2->c5 h.1 i≠0->∃t,c5 w t=0/\c5 d t=0/\∃h:V×Int,IsFace j h.1 h.2/\c5 h.1 v=h.2/\0<c5 h.1 t:=λ{h} B hv q=>by
   have ng:∀u:V,c5 u (-i)=-c5 u i:=λu=>by simp[c5];grind
   rcases aDl q with l|l
   .exact⟨-i,by rw[ng];lia,by rw[ng];lia,h,B,hv,by rw[ng];lia⟩
   .exact⟨i,Y,yt,h,B,hv,l⟩
  by_cases r:c5 f.1 i=0
  .by_cases N:c5 g1.1 i=0
   .by_cases O:c5 g2.1 i=0
    .exact absurd (P3 T r N O) tne
    .exact n f2 x3 O
   .exact n f1 x2 N
  .exact n L x1 r
 obtain⟨t,Y,yt,h0,hh0,hv0,ht0⟩:=some;obtain⟨h,C,mn⟩:=qO (λh:V×Int=>-c5 h.1 d) (λh=>c5 h.1 t) (fs.filter λh=>decide (c5 h.1 v=h.2)&&decide (0<c5 h.1 t)) (λz=>by
  have:h0∈fs.filter λh=>decide (c5 h.1 v=h.2)&&decide (0<c5 h.1 t):=aAx.mpr ⟨(J h0).mpr hh0,by simp[hv0,ht0]⟩;rw[z]at this;cases this) λx hx=>by have:=(aAx.mp hx).2;simp at this;exact this.2
 have B:=(J h).mp (aAx.mp C).1;have H:=(aAx.mp C).2;simp only[aAF,decide_eq_true_eq]at H;refine⟨h,(J h).mpr B,ZM hs ho hc Q B H.1 (y:=c5 h.1 t*d+(-c5 h.1 d)*t) (by rw[w4,i6,i6];grind) (by rw[w4,i6,i6,wy,Y];simp) (λz=>?_) λm e I mv=>?_⟩
 .have q:=iu (c5 d) z;rw[w4,i6,i6,yt,D5,aBR,aFF]at q;have yy:=u8 E;have:=aBd H.2 yy
  lia
 .rw[w4,i6,i6];have u:=up I mv;have un:=up B H.1;by_cases l:0<c5 m t
  .have k:=mn (m,e) (aAx.mpr ⟨(J (m,e)).mpr I,by simp[mv,l]⟩);dsimp only at k;have e1:-c5 m d*c5 h.1 t=-(c5 h.1 t*c5 m d):=by grind
   lia
  .have k1:=aAs (aAL H.2) u;have k2:=aAs (show 0<=-c5 h.1 d by lia) (show c5 m t<=0 by lia)
   lia
end
section
open Classical
def cnt {α:Type} (p:α->Prop) (l:List α):Nat:=(l.filter λy=>decide (p y)).length
def T7 {α:Type}{p q:α->Prop}{l:List α}(h:∀x∈l,p x↔q x):cnt p l=cnt q l:=by unfold cnt;rw[List.filter_congr λx a=>decide_eq_decide.mpr (h x a)]
def UL {α:Type}{p:α->Prop}{l:List α}(h:∀x∈l,p x):cnt p l=l.length:=by unfold cnt;rw[List.filter_eq_self.mpr λx a=>decide_eq_true (h x a)]
def ZS {α:Type}{p:α->Prop}{l:List α}(h:∀x∈l,¬p x):cnt p l=0:=by unfold cnt;rw[List.filter_eq_nil_iff.mpr λx a=>by rw[decide_eq_true_eq];exact h x a];rfl
def lQ {α:Type}{l:List α}{p:α->Prop}{x:α}(e:l.Nodup)(f:x∈l)(g:p x)(u:∀y∈l,p y->y=x):cnt p l=1:=by
 have sub:∀y,y∈l.filter (λy=>decide (p y))↔y∈[x]:=λy=>by rw[aAx,aAZ,decide_eq_true_eq];exact⟨λh=>u y h.1 h.2,λh=>by rw[h];exact⟨f,g⟩⟩
 have a:=D7 (e.sublist aBg) (m:=[x]) λy d=>(sub y).mp d;have b:=D7 (l:=[x]) (by simp) (m:=l.filter λy=>decide (p y)) λy d=>(sub y).mpr d;rw[aFG]at a b;unfold cnt
 lia
def cnt_cons {α:Type}{p:α->Prop}(x:α)(l:List α):cnt p (x::l)=(if p x then 1 else 0)+cnt p l:=by
 unfold cnt;by_cases h:p x
 .rw[aDc (by rw[decide_eq_true_eq];exact h),h9 h,aAv];lia
 .rw[aDd (by rw[decide_eq_true_eq];exact h),ic h];lia
theorem Z8 {α:Type}{p q:α->Prop}:∀l:List α,cnt p l=cnt (λy=>p y/\q y) l+cnt (λy=>p y/\¬q y) l
 |[]=>rfl
 |x::l=>by
  have d:=Z8 (p:=p) (q:=q) l;rw[cnt_cons,cnt_cons,cnt_cons,d];by_cases a:p x
  .by_cases b:q x
   .simp[a,b];lia
   .simp[a,b];lia
  .simp[a]
theorem pK (h:V->Int):∀l:List V,l≠[]->∃x∈l,∀y∈l,h y<=h x
 |[x],_=>⟨x,.head _,λy a=>by rw[aAZ.mp a];exact aBV _⟩
 |x::z::l,_=>by
  obtain⟨u,b,m⟩:=pK h (z::l) (by simp);by_cases q:h u<=h x
  .refine⟨x,.head _,λy a=>?_⟩;rcases aAd.mp a with rfl|a
   .exact aBV _
   .have:=m y a;lia
  .refine⟨u,.tail _ b,λy a=>?_⟩;rcases aAd.mp a with rfl|a
   .lia
   .exact m y a
def GN {α β:Type}(R:α->β->Prop)(e:List α):∀bs:List β,(e.map λa=>cnt (R a) bs).sum=(bs.map λb=>cnt (λa=>R a b) e).sum:=by
 intro bs;induction e with
 |nil=>
  induction bs with
  |nil=>rfl
  |cons b bs d=>rw[aAp,aBF,<-d];rfl
 |cons a e d=>
  rw[aAp,aBF,d];clear d;induction bs with
  |nil=>rfl
  |cons b bs d=>
   simp only[aAp,aBF,cnt_cons]at d⊢
   lia
def Nu (w:V)(j:List V)(v:V)(f:V×Int):Prop:=∃Q,EdgeOf f.1 (λX=>X∈w6 f.1 f.2 j) v Q/\0<c5 w (Q-v)
def Pu (w:V)(j:List V)(v:V)(f:V×Int):Prop:=∃P,EdgeOf f.1 (λX=>X∈w6 f.1 f.2 j) P v/\0<c5 w (P-v)
structure Hgt (w:V)(j:List V):Prop where
 ne:w≠0
 inj:∀X∈j,∀Y∈j,X≠Y->c5 w (X-Y)≠0
section
variable{j:List V} {w:V} (hs:k8 j) (ho:j.Pairwise (λa b=>i3 (b-a))) (hw:Hgt w j)
include hs ho hw
theorem Z2 {f:V×Int}(h:IsFace j f.1 f.2){v:V}(d:v∈f8 j f):∃P Q,EdgeOf f.1 (λX=>X∈w6 f.1 f.2 j) P v/\EdgeOf f.1 (λX=>X∈w6 f.1 f.2 j) v Q/\(Nu w j v f↔0<c5 w (Q-v))/\(Pu w j v f↔0<c5 w (P-v))/\c5 w (P-v)≠0/\c5 w (Q-v)≠0:=by have S:=h.aa2 ho;obtain⟨Q,i⟩:=dQ S d;obtain⟨P,k⟩:=mF S (l:=t6 f.1 (w6 f.1 f.2 j)) d;have b:=S.aa1.mp i;have a:=S.aa1.mp k;have g:=(c8.mp a.q).1;refine⟨P,Q,a,b,⟨λ⟨n,e,l⟩=>by rw[<-e.next b];exact l,λl=>⟨Q,b,l⟩⟩,⟨λ⟨m,e,l⟩=>?_,λl=>⟨P,a,l⟩⟩,hw.inj P (c8.mp a.p).1 v g a.ne,hw.inj Q (c8.mp b.q).1 v g (aBU b.ne)⟩;have:m=P:=e.prev a;rw[<-this];exact l
theorem gC {f:V×Int}(d:IsFace j f.1 f.2){v:V}(e:v∈f8 j f):iP w j v f↔(Nu w j v f↔¬Pu w j v f):=by
 obtain⟨P,Q,a,b,n,p,i,k⟩:=Z2 hs ho hw d e;rw[n,p];constructor
 .rintro⟨l,m,g,h,c⟩;rw[g.prev a,h.next b]at c
  lia
 .intro c;exact⟨P,Q,a,b,by lia⟩
theorem CF {f:V×Int}(d:IsFace j f.1 f.2):(f8 j f).length=2+cnt (λv=>iP w j v f) (f8 j f):=by
 have S:=d.aa2 ho;have H:(f8 j f).Nodup:=S.aa5;obtain⟨J,L,N,_,_⟩:=S.ac4;have ne:f8 j f≠[]:=λz=>by rw[show f8 j f=J::L from N]at z;cases z
 have sub:∀v∈f8 j f,v∈w6 f.1 f.2 j:=λv o=>S.aa3 o;have m:∀X Y:V,c5 w (X-Y)=c5 w X-c5 w Y:=λX Y=>d8 ..;have t:∀X Y:V,c5 (-w) (X-Y)=-c5 w (X-Y):=λX Y=>by simp[c5];grind
 obtain⟨a,r,u⟩:=pK (λv=>-c5 w v) _ ne;obtain⟨b,s,A⟩:=pK (λv=>c5 w v) _ ne;have O:cnt (λv=>Nu w j v f/\Pu w j v f) (f8 j f)=1:=by
  refine lQ H r ?_ λy g z=>?_
  .obtain⟨P,Q,i,l,n,p,B,C⟩:=Z2 hs ho hw d r;have T:=u P (S.ab9 i);have E:=u Q (mD S<|S.aa1.mpr l).2;rw[n,p];have:=m P a;have:=m Q a
   lia
  .obtain⟨P,Q,i,l,n,p,B,C⟩:=Z2 hs ho hw d g;have k:=xN hs ho d i l (w:=w) (by have:=p.mp z.2;lia) (by have:=n.mp z.1;lia) (sub a r);have E:=u y g;by_cases e:y=a
   .exact e
   .have:=hw.inj a (c8.mp<|sub a r).1 y (c8.mp<|sub y g).1 (aBU e);have:=m a y
    lia
 have I:cnt (λv=>¬Nu w j v f/\¬Pu w j v f) (f8 j f)=1:=by
  refine lQ H s ?_ λy g z=>?_
  .obtain⟨P,Q,i,l,n,p,B,C⟩:=Z2 hs ho hw d s;have T:=A P (S.ab9 i);have E:=A Q (mD S<|S.aa1.mpr l).2;rw[n,p];have:=m P b;have:=m Q b
   lia
  .obtain⟨P,Q,i,l,n,p,B,C⟩:=Z2 hs ho hw d g;rw[n,p]at z;have k:=xN hs ho d i l (w:=-w) (by rw[t];lia) (by rw[t];lia) (sub b s);rw[t]at k;have E:=A y g;by_cases e:y=b
   .exact e
   .have:=hw.inj b (c8.mp<|sub b s).1 y (c8.mp<|sub y g).1 (aBU e);have:=m b y
    lia
 have U:=Z8 (p:=λv=>True) (q:=λv=>iP w j v f) (f8 j f);have c2:=Z8 (p:=λv=>True/\¬iP w j v f) (q:=λv=>Nu w j v f) (f8 j f);have e0:cnt (λ_=>True) (f8 j f)=(f8 j f).length:=UL λ_ _=>trivial;have e1:cnt (λy=>True/\iP w j y f) (f8 j f)=cnt (λv=>iP w j v f) (f8 j f):=T7 λv _=>⟨λh=>h.2,λh=>⟨trivial,h⟩⟩;have e2:cnt (λy=>(True/\¬iP w j y f)/\Nu w j y f) (f8 j f)=cnt (λv=>Nu w j v f/\Pu w j v f) (f8 j f):=T7 λv o=>by rw[gC hs ho hw d o];by_cases x:Nu w j v f<;>by_cases y:Pu w j v f<;>simp[x,y]
 have e3:cnt (λy=>(True/\¬iP w j y f)/\¬Nu w j y f) (f8 j f)=cnt (λv=>¬Nu w j v f/\¬Pu w j v f) (f8 j f):=T7 λv o=>by rw[gC hs ho hw d o];by_cases x:Nu w j v f<;>by_cases y:Pu w j v f<;>simp[x,y]
 lia
omit hs ho hw in
theorem EQ {α β:Type}(T:α->β->Prop){l:List α}{m:List β}(f:l.Nodup)(h:∀a∈l,∃b∈m,T a b)(inj:∀a∈l,∀p∈l,∀b,T a b->T p b->a=p):l.length<=m.length:=by
 match l,f,h,inj with
 |[],_,_,_=>exact aAG _
 |x::l,f,h,inj=>
  obtain⟨r,_,_⟩:=h x (.head _)
  let φ:α->β:=λa=>if q:∃b∈m,T a b then q.choose else r
  have g:∀a∈x::l,φ a∈m/\T a (φ a):=λa i=>by have q:=h a i;have e:φ a=q.choose:=dif_pos q;rw[e];exact q.choose_spec
  have n:((x::l).map φ).Nodup:=by
   have o:∀k:List α,(∀a∈k,a∈x::l)->k.Nodup->(k.map φ).Nodup:=λk=>by
    induction k with
    |nil=>intro _ _;exact .nil
    |cons a k s=>intro sub t;obtain⟨u,v⟩:=aAS.mp t;refine aAS.mpr ⟨λz=>?_,s (λb d=>sub b (.tail _ d)) v⟩;obtain⟨b,d,e⟩:=aAo.mp z;have:=inj a (sub a<|.head _) b (sub b<|.tail _ d) (φ a) (g a<|sub a<|.head _).2 (by rw[<-e];exact(g b<|sub b<|.tail _ d).2);exact u (this▸d)
   exact o _ (λ_ h=>h) f
  have:=D7 n (m:=m) λb d=>by obtain⟨a,i,rfl⟩:=aAo.mp d;exact(g a i).1
  rw[aAh]at this;exact this
theorem yL {f:V×Int}(a:IsFace j f.1 f.2){P Q:V}(h:EdgeOf f.1 (λX=>X∈w6 f.1 f.2 j) P Q):P∈f8 j f/\Q∈f8 j f:=by have S:=a.aa2 ho;exact mD S (S.aa1.mpr h)
theorem rR {f g:V×Int}(a:IsFace j f.1 f.2)(b:IsFace j g.1 g.2){P Q:V}(d:EdgeOf f.1 (λX=>X∈w6 f.1 f.2 j) P Q)(e:EdgeOf g.1 (λX=>X∈w6 g.1 g.2 j) P Q):f=g:=wX hs ho a b ((a.aa2 ho).aa1.mpr d) ((b.aa2 ho).aa1.mpr e)
theorem tj {fs:List (V×Int)}(u:fs.Nodup)(h:∀f,f∈fs↔IsFace j f.1 f.2)(v:V):cnt (λf=>v∈f8 j f/\Nu w j v f) fs=cnt (λf=>v∈f8 j f/\Pu w j v f) fs:=by
 have d:∀{p:V×Int->Prop} {f:V×Int},f∈fs.filter (λy=>decide (p y))↔f∈fs/\p f:=λ{p f}=>by rw[aAx,decide_eq_true_eq]
 unfold cnt;refine aFH ?_ ?_
 .refine EQ (λf g=>∃Q,EdgeOf f.1 (λX=>X∈w6 f.1 f.2 j) v Q/\EdgeOf g.1 (λX=>X∈w6 g.1 g.2 j) Q v/\IsFace j g.1 g.2) (u.sublist aBg) (λf i=>?_) λf i o k g ⟨Q,a,b,_⟩ ⟨q,r,s,_⟩=>?_
  .obtain⟨t,x,Q,e,l⟩:=d.mp i;obtain⟨m,n⟩:=fB hs ho ((h f).mp t) e;exact⟨_,d.mpr ⟨(h _).mpr m,(yL hs ho hw m n).2,Q,n,l⟩,Q,e,n,m⟩
  .have:Q=q:=b.prev s;subst this;exact rR hs ho hw ((h f).mp (d.mp i).1) ((h o).mp (d.mp k).1) a r
 .refine EQ (λf g=>∃P,EdgeOf f.1 (λX=>X∈w6 f.1 f.2 j) P v/\EdgeOf g.1 (λX=>X∈w6 g.1 g.2 j) v P/\IsFace j g.1 g.2) (u.sublist aBg) (λf i=>?_) λf i o k g ⟨Q,a,b,_⟩ ⟨q,r,s,_⟩=>?_
  .obtain⟨t,x,P,e,l⟩:=d.mp i;obtain⟨m,n⟩:=fB hs ho ((h f).mp t) e;exact⟨_,d.mpr ⟨(h _).mpr m,(yL hs ho hw m n).1,P,n,l⟩,P,e,n,m⟩
  .have:Q=q:=b.next s;subst this;exact rR hs ho hw ((h f).mp (d.mp i).1) ((h o).mp (d.mp k).1) a r
omit hs ho hw in
theorem RL {α:Type}{p:α->Prop}{l:List α}(i:l.Nodup)(h:∀a∈l,∀b∈l,∀c∈l,p a->p b->p c->a≠b->a≠c->b≠c->False):cnt p l<=2:=by
 have f:∀k:List α,k.Nodup->(∀a∈k,a∈l/\p a)->k.length<=2:=λk d e=>by
  match k,d,e with
  |[],_,_=>simp
  |[_],_,_=>simp
  |[_,_],_,_=>simp
  |a::b::c::k,d,e=>
   exfalso;obtain⟨m,n⟩:=e a (by simp);obtain⟨o,q⟩:=e b (by simp);obtain⟨r,s⟩:=e c (by simp);refine h a m b o c r n q s ?_ ?_ ?_
   .rintro rfl;simp at d
   .rintro rfl;simp at d
   .rintro rfl;simp at d
 exact f _ (i.sublist aBg) λa g=>by rw[aAx,decide_eq_true_eq]at g;exact g
omit hs ho hw in
theorem RV {α:Type}{p:α->Prop}{l:List α}{x:α}(b:x∈l)(d:p x):1<=cnt p l:=aDj (a:=x) (aAx.mpr ⟨b,decide_eq_true d⟩)
theorem CU {fs:List (V×Int)}(n:fs.Nodup)(d:∀f,f∈fs↔IsFace j f.1 f.2){v o r:V}(s:∃f:V×Int,IsFace j f.1 f.2/\v∈f8 j f)(t:o∈j)(u:r∈j)(a:0<c5 w (o-v))(b:c5 w (r-v)<0):cnt (λf=>v∈f8 j f/\iP w j v f) fs=2:=by
 have z:v∈j:=by obtain⟨f,i,A⟩:=s;exact(c8.mp<|(i.aa2 ho).aa3 A).1
 have e:=tj hs ho hw n d v;have O:=Z8 (p:=λf=>v∈f8 j f/\Nu w j v f) (q:=λf=>Pu w j v f) fs;have T:=Z8 (p:=λf=>v∈f8 j f/\Pu w j v f) (q:=λf=>Nu w j v f) fs;have c3:=Z8 (p:=λf=>v∈f8 j f/\iP w j v f) (q:=λf=>Nu w j v f) fs;have U:cnt (λf=>(v∈f8 j f/\Nu w j v f)/\Pu w j v f) fs=cnt (λf=>(v∈f8 j f/\Pu w j v f)/\Nu w j v f) fs:=T7 λf _=>⟨λh=>⟨⟨h.1.1,h.2⟩,h.1.2⟩,λh=>⟨⟨h.1.1,h.2⟩,h.1.2⟩⟩;have Y:cnt (λf=>(v∈f8 j f/\iP w j v f)/\Nu w j v f) fs=cnt (λf=>(v∈f8 j f/\Nu w j v f)/\¬Pu w j v f) fs:=T7 λf i=>by
  by_cases q:v∈f8 j f
  .rw[gC hs ho hw ((d f).mp i) q];by_cases x:Nu w j v f<;>by_cases y:Pu w j v f<;>simp[x,y,q]
  .simp[q]
 have e3:cnt (λf=>(v∈f8 j f/\iP w j v f)/\¬Nu w j v f) fs=cnt (λf=>(v∈f8 j f/\Pu w j v f)/\¬Nu w j v f) fs:=T7 λf i=>by
  by_cases q:v∈f8 j f
  .rw[gC hs ho hw ((d f).mp i) q];by_cases x:Nu w j v f<;>by_cases y:Pu w j v f<;>simp[x,y,q]
  .simp[q]
 have le:cnt (λf=>v∈f8 j f/\iP w j v f) fs<=2:=RL n λf i g l k B C E H I J L=>RN hs ho hw.ne ((d f).mp i) ((d g).mp l) ((d k).mp B) C.2 E.2 H.2 I J L;have ge:1<=cnt (λf=>v∈f8 j f/\iP w j v f) fs:=by obtain⟨g,l,m⟩:=UH hs ho hw.ne d s (λX N ne=>hw.inj X N v z ne) t u a b;obtain⟨P,Q,p,q,_⟩:=id m;exact RV l ⟨(yL hs ho hw ((d g).mp l) p).2,m⟩
 lia
end
end
section
open Classical
def RY {α:Type}{p:α->Prop}{l m:List α}(f:l.Nodup)(nm:m.Nodup)(sub:∀x∈l,x∈m):cnt p l=cnt (λx=>x∈l/\p x) m:=by
 have a:∀{q:α->Prop} {k:List α} {x:α},x∈k.filter (λy=>decide (q y))↔x∈k/\q x:=λ{q k x}=>by rw[aAx,decide_eq_true_eq]
 unfold cnt;refine aFH (D7 (f.sublist aBg) λx d=>?_) (D7 (nm.sublist aBg) λx d=>?_)
 .obtain⟨b,e⟩:=a.mp d;exact a.mpr ⟨sub x b,b,e⟩
 .obtain⟨_,b,e⟩:=a.mp d;exact a.mpr ⟨b,e⟩
theorem FP {α:Type}(g:α->Nat)(p:α->Prop):∀l:List α,(∀x∈l,p x->g x=0)->(∀x∈l,¬p x->g x=2)->(l.map g).sum+2*cnt p l=2*l.length
 |[],_,_=>rfl
 |x::l,b,d=>by
  have e:=FP g p l (λy a=>b y (.tail _ a)) λy a=>d y (.tail _ a);rw[aAp,aBF,cnt_cons,aAv];by_cases q:p x
  .rw[b x (.head _) q,h9 q];lia
  .rw[d x (.head _) q,ic q];lia
def XY (j:List V)(d:k8 j):∃w,Hgt w j:=by
 obtain⟨w,h⟩:=HW (j.flatMap λX=>j.map λY=>X-Y);have k:∀X∈j,∀Y∈j,i3 (X-Y)->0<c5 w (X-Y):=λX a Y b p=>h _ (aCe.mpr ⟨X,a,aDe b⟩) p;have inj:∀X∈j,∀Y∈j,X≠Y->c5 w (X-Y)≠0:=λX a Y b ne=>by
  have l:c5 w (X-Y)=-c5 w (Y-X):=by simp[c5];grind
  rcases K1 X Y with e|e|e
  .exact absurd e ne
  .have:=k X a Y b e;lia
  .have:=k Y b X a e;lia
 refine⟨w,λz=>?_,inj⟩;obtain⟨A,f,B,g,C,m,E,n,e⟩:=d;have i:B≠A:=λq=>e (by rw[q,n6];simp[i4,c5]);exact inj B g A f i (by rw[z];simp[c5])
variable{j:List V} (hs:k8 j) (ho:j.Pairwise (λa b=>i3 (b-a)))
include hs ho
theorem IS {fs:List (V×Int)}(U:fs.Nodup)(I:∀f,f∈fs↔IsFace j f.1 f.2)(ne:fs≠[]){c:List V}(nc:c.Nodup)(J:∀X,X∈c↔∃f:V×Int,IsFace j f.1 f.2/\X∈f8 j f):(fs.map λf=>(f8 j f).length).sum+4=2*fs.length+2*c.length:=by
 obtain⟨w,A⟩:=XY j hs;have C:∀X∈c,X∈j:=λX hX=>by obtain⟨f,u,hr⟩:=(J X).mp hX;exact(c8.mp<|(u.aa2 ho).aa3 hr).1
 have H:∀X Y:V,c5 w (X-Y)=c5 w X-c5 w Y:=λX Y=>d8 ..;obtain⟨d,hf0⟩:∃d,d∈fs:=by
  match fs,ne with
  |f::_,_=>exact⟨f,.head _⟩
 have B:=(I d).mp hf0;obtain⟨r,s,t,l,er⟩:=fH ho B;have L:r∈c:=(J r).mpr ⟨d,B,by show r∈t6 d.1 (w6 d.1 d.2 j);rw[er];simp⟩;have sc:s∈c:=(J s).mpr ⟨d,B,by show s∈t6 d.1 (w6 d.1 d.2 j);rw[er];simp⟩;have rs:r≠s:=λq=>by have:=(B.aa2 ho).aa5;rw[er,q]at this;simp at this
 have cne:c≠[]:=λz=>by rw[z]at L;cases L
 obtain⟨a,ha,N⟩:=pK (λv=>-c5 w v) c cne;obtain⟨b,hb,O⟩:=pK (λv=>c5 w v) c cne;have ab:a≠b:=λq=>by
  have e:∀x∈c,c5 w x=c5 w a:=λx o=>by
   have:=N x o;have:=O x o;rw[<-q]at this
   lia
  exact A.inj r (C r L) s (C s sc) rs (by rw[H,e r L,e s sc];lia)
 have vm:∀f∈fs,∀x∈f8 j f,x∈c:=λf u x o=>(J x).mpr ⟨f,(I f).mp u,o⟩;have s1:(fs.map λf=>(f8 j f).length).sum=2*fs.length+(fs.map λf=>cnt (λv=>v∈f8 j f/\iP w j v f) c).sum:=by
  have key:∀E:List (V×Int),(∀f∈E,f∈fs)->(E.map λf=>(f8 j f).length).sum=2*E.length+(E.map λf=>cnt (λv=>v∈f8 j f/\iP w j v f) c).sum:=λE=>by
   induction E with
   |nil=>intro _;rfl
   |cons f E ih=>
    intro h;have i:=ih λg hg=>h g (.tail _ hg);have u:=(I f).mp (h f<|.head _);have k:=CF hs ho A u;have U:(f8 j f).Nodup:=(u.aa2 ho).aa5;rw[RY (l:=f8 j f) (p:=λv=>iP w j v f) U nc (vm f<|h f<|.head _)]at k;rw[aAp,aBF,aAp,aBF,aAv,i,k]
    lia
  exact key fs λ_ h=>h
 have s2:=GN (λ(f:V×Int) v=>v∈f8 j f/\iP w j v f) fs c;have no:∀x∈c,(x=a\/x=b)->cnt (λf=>x∈f8 j f/\iP w j x f) fs=0:=λx o q=>ZS λf u ⟨h1,h2⟩=>by
  have T:=(I f).mp u;obtain⟨P,Q,e1,e2,n,p,p0,q0⟩:=Z2 hs ho A T h1;have hP:=vm f u P (yL hs ho A T e1).1;have hQ:=vm f u Q (yL hs ho A T e2).2;have m:=(gC hs ho A T h1).mp h2;rw[n,p]at m;have d1:=H P x;have d2:=H Q x;rcases q with rfl|rfl
  .have:=N P hP;have:=N Q hQ;lia
  .have:=O P hP;have:=O Q hQ;lia
 have yes:∀x∈c,¬(x=a\/x=b)->cnt (λf=>x∈f8 j f/\iP w j x f) fs=2:=λx o q=>by have n1:=A.inj b (C b hb) x (C x o) (λz=>q (.inr z.symm));have n2:=A.inj a (C a ha) x (C x o) (λz=>q (.inl z.symm));have:=O x o;have:=N x o;rw[H]at n1 n2;exact CU hs ho A U I ((J x).mp o) (C b hb) (C a ha) (by rw[H];lia) (by rw[H];lia)
 have s3:=FP (λv=>cnt (λf=>v∈f8 j f/\iP w j v f) fs) (λx=>x=a\/x=b) c no yes;have two:cnt (λx=>x=a\/x=b) c=2:=by
  have k:=Z8 (p:=λx=>x=a\/x=b) (q:=λx=>x=a) c;have k1:cnt (λy=>(y=a\/y=b)/\y=a) c=1:=lQ nc ha ⟨.inl rfl,rfl⟩ λy _ h=>h.2;have k2:cnt (λy=>(y=a\/y=b)/\¬y=a) c=1:=lQ nc hb ⟨.inr rfl,λq=>ab q.symm⟩ λy _ h=>h.1.resolve_left h.2
  lia
 lia
end
section
open Classical
variable{j:List V} (hs:k8 j) (ho:j.Pairwise (λa b=>i3 (b-a))) {fs:List (V×Int)} (eh:∀f,f∈fs↔IsFace j f.1 f.2)
include hs ho eh
theorem rD (a:fs.Nodup)(ne:fs≠[]){c:List V}(b:c.Nodup)(d:∀X,X∈c↔∃f:V×Int,IsFace j f.1 f.2/\X∈f8 j f):fs.length+4<=2*c.length/\(fs.map λf=>(f8 j f).length).sum+12<=6*c.length:=by have g:=IS hs ho a eh ne b d;have h:=kM hs ho (fs:=fs) λf e=>(eh f).mp e;constructor<;>lia
end
section
open Classical
variable{j:List V} (hs:k8 j) (ho:j.Pairwise λa b=>i3 (b-a)) {fs:List (V×Int)} (eh:∀f,f∈fs↔IsFace j f.1 f.2)
include hs ho eh
theorem BI (d:fs.Nodup)(ne:fs≠[]):fs.length+4<=2*j.length/\(fs.map λf=>(f8 j f).length).sum+12<=6*j.length:=by
 have e:j.Nodup:=ho.imp λ{a b} h q=>by rw[q]at h;exact q8 h h
 have g:∀X,X∈j.filter (λX=>decide (∃f:V×Int,IsFace j f.1 f.2/\X∈f8 j f))↔∃f:V×Int,IsFace j f.1 f.2/\X∈f8 j f:=λX=>by rw[aAx,decide_eq_true_eq];exact⟨λh=>h.2,λh=>⟨by obtain⟨f,i,k⟩:=h;exact(c8.mp<|(i.aa2 ho).aa3 k).1,h⟩⟩
 have l:=rD hs ho eh d ne (e.sublist aBg) g;have:=aDr (λX=>decide (∃f:V×Int,IsFace j f.1 f.2/\X∈f8 j f)) j;constructor<;>lia
end
theorem xZ {α:Type}(p:α->Bool):∀l:List α,l.length=(l.filter p).length+(l.filter λx=>!p x).length
 |[]=>rfl
 |a::l=>by
  have:=xZ p l;cases h:p a
  .rw[aDd (by simp[h]),aDc (by simp[h])];simp;lia
  .rw[aDc h,aDd (by simp[h])];simp;lia
theorem DU {α:Type}(key:α->Nat):∀(n:Nat) {l:List α},l.Nodup->(∀x∈l,key x<n)->(∀x∈l,∀y∈l,∀z∈l,x≠y->x≠z->y≠z->key x=key y->key x=key z->False)->l.length<=2*n
 |0,l,_,h,_=>by
  cases l with
  |nil=>simp
  |cons a l=>exact absurd (h a<|.head _) (aEA _)
 |n+1,l,j,h,g=>by
  have t:=DU key n (l:=l.filter λx=>!decide (key x=n)) (j.sublist aBg) (λx f=>by
   rw[aAx]at f;have:=h x f.1;have:key x≠n:=by simpa using f.2
   lia) λx f y k z m=>g x (aAx.mp f).1 y (aAx.mp k).1 z (aAx.mp m).1
  have u:(l.filter λx=>decide (key x=n)).length<=2:=by
   have i:=j.sublist (aBg (l:=l) (p:=λx=>decide (key x=n)));have d:∀x∈l.filter (λx=>decide (key x=n)),x∈l/\key x=n:=λx f=>by rw[aAx,decide_eq_true_eq]at f;exact f
   match e:l.filter (λx=>decide (key x=n))with
   |[]=>simp
   |[_]=>simp
   |[_,_]=>simp
   |a::b::c::r=>exfalso;rw[e]at i d;obtain⟨o,v⟩:=d a (by simp);obtain⟨q,w⟩:=d b (by simp);obtain⟨s,A⟩:=d c (by simp);simp only[aAS,aAd,not_or]at i;exact g a o b q c s i.1.1 i.1.2.1 i.2.1.1 (by lia) (by lia)
  rw[xZ (λx=>decide (key x=n)) l]
  lia
section
open Classical
variable{j:List V} (hs:k8 j) (ho:j.Pairwise λa b=>i3 (b-a)) {fs:List (V×Int)} (eh:∀f,f∈fs↔IsFace j f.1 f.2)
include hs ho eh
theorem PZ (H:fs.Nodup){o u v w:V}(g:∀P∈j,∃a b c:Int,(-1<=b/\b<=2)/\(-1<=c/\c<=2)/\P=o+a*u+(b*v+c*w)):fs.length<=60:=by
 by_cases ne:fs=[]
 .rw[ne];decide
 have t:j.Nodup:=ho.imp λ{a b} h q=>by rw[q]at h;exact q8 h h
 have i:∀X,X∈j.filter (λX=>decide (∃f:V×Int,IsFace j f.1 f.2/\X∈f8 j f))↔∃f:V×Int,IsFace j f.1 f.2/\X∈f8 j f:=λX=>by rw[aAx,decide_eq_true_eq];exact⟨λh=>h.2,λh=>⟨by obtain⟨f,I,J⟩:=h;exact(c8.mp<|(I.aa2 ho).aa3 J).1,h⟩⟩
 have h1:=(rD hs ho eh H ne (t.sublist aBg) i).1;have d:∀P,∃k:Nat,P∈j->k<16/\∃a:Int,P=o+a*u+(((k:Int)/4-1)*v+((k:Int)%4-1)*w):=λP=>by
  by_cases m:P∈j
  .obtain⟨a,b,c,hb,i,e⟩:=g P m;refine⟨(4*(b+1)+(c+1)).toNat,λ_=>⟨by lia,a,?_⟩⟩;rw[e];have L:(((4*(b+1)+(c+1)).toNat:Nat):Int)/4-1=b:=by lia
   have N:(((4*(b+1)+(c+1)).toNat:Nat):Int)%4-1=c:=by lia
   rw[L,N]
  .exact⟨0,λh=>absurd h m⟩
 have n:=λP m=>(d P).choose_spec m;have h2:=DU (λP=>(d P).choose) 16 (t.sublist<|aBg (l:=j) (p:=λX=>decide (∃f:V×Int,IsFace j f.1 f.2/\X∈f8 j f))) (λx s=>(n x (aAx.mp s).1).1) λx s y A z B O Q T U Y=>by
  obtain⟨_,a,ea⟩:=n x (aAx.mp s).1;obtain⟨_,b,C⟩:=n y (aAx.mp A).1;obtain⟨_,c,E⟩:=n z (aAx.mp B).1;refine TC hs ho ((i x).mp s) ((i y).mp A) ((i z).mp B) O Q T ?_;rw[<-U]at C;rw[<-Y]at E;generalize(((d x).choose:Nat):Int)/4-1=q at*
  generalize(((d x).choose:Nat):Int)%4-1=r at*
  rw[ea,C,E];apply ext<;>simp<;>grind
 lia
end
def xQ (j:List V):t9 j<=3:=by
 unfold t9;split
 .decide
 .dsimp only;split
  .decide
  .split
   .decide
   .split<;>decide
def a0r {p:V}{ps:List V}(h:∀X∈p::ps,X=p):t9 (p::ps)=0:=by
 unfold t9;dsimp only;split
 .rfl
 .rename_i a b;obtain⟨d,f⟩:=p8 b;obtain⟨X,g,e⟩:=aAo.mp d;rw[h X g,n6]at e;exact absurd e.symm f
def RK {p X:V}{ps:List V}(a:X∈p::ps)(ne:X≠p):1<=t9 (p::ps):=by
 unfold t9;dsimp only;split
 .rename_i b;have:=F4 b (X-p) (aAo.mpr ⟨X,a,rfl⟩);exact absurd (J0 this) ne
 .split
  .decide
  .split<;>decide
def a0s {p X:V}{ps:List V}(f:X∈p::ps)(ne:X≠p)(h:∀Y∈p::ps,cr (X-p) (Y-p)=0):t9 (p::ps)=1:=by
 have w:=RK f ne;by_cases g:2<=t9 (p::ps)
 .obtain⟨A,e,B,i,C,j,q⟩:=rY g;have l:X-p≠0:=λz=>ne (J0 z);have k:∀U∈p::ps,∀W∈p::ps,cr (U-W) (X-p)=0:=λU m W n=>by
   have a:=h U m;have b:=h W n;generalize X-p=d at*
   have o:=iu V.x a;have r:=iu V.y a;have s:=iu V.z a;have t:=iu V.x b;have u:=iu V.y b;have v:=iu V.z b;simp at o r s t u v;apply ext<;>simp<;>grind
  exact absurd (cA l (k B i A e)<|k C j A e) q
 .lia
def uw {p X Y:V}{ps:List V}(f:X∈p::ps)(g:Y∈p::ps)(ne:cr (X-p) (Y-p)≠0):((∃Z∈p::ps,c5 (cr (X-p) (Y-p)) (Z-p)≠0)->t9 (p::ps)=3)/\((∀Z∈p::ps,c5 (cr (X-p) (Y-p)) (Z-p)=0)->t9 (p::ps)=2):=by
 have o:=xQ (p::ps);have r:¬t9 (p::ps)<2:=λz=>ne (wT z p (.head _) X f Y g);constructor
 .rintro⟨Z,h,q⟩;by_cases e:t9 (p::ps)=3
  .exact e
  .refine absurd ⟨p,.head _,X,f,Y,g,Z,h,?_⟩ (wC e);intro z;refine q ?_;rw[<-z];simp[i4,c5];grind
 .intro q;by_cases e:t9 (p::ps)=3
  .obtain⟨A,a,B,i,C,j,E,k,d⟩:=jL e;refine absurd ?_ ne;have b:∀{U W:V},U∈p::ps->W∈p::ps->c5 (U-W) (cr (X-p)<|Y-p)=0:=λl m=>by
    have s:=q _ l;have t:=q _ m;generalize cr (X-p) (Y-p)=n at*
    simp[c5]at*
    grind
   exact P3 d (b i a) (b j a) (b k a)
  .lia
end G
namespace ST
open PySem PySem.SetTable
def HU (Y:Array Nat):Prop:=∀(i k:Nat) (a:i<Y.size) (b:k<Y.size),i<k->Y[i]<Y[k]
theorem sT (Y:Array Nat)(j:Nat)(d:HU Y):∀(a lo b:Nat),lo<=b->b<=Y.size->b-lo<=a->(∀i (h:i<Y.size),i<lo->Y[i]<j)->(∀i (h:i<Y.size),b<=i->j<=Y[i])->
  below.go Y j a lo b<=Y.size/\(∀i (h:i<Y.size),i<below.go Y j a lo b->Y[i]<j)/\(∀i (h:i<Y.size),below.go Y j a lo b<=i->j<=Y[i])
 |0,lo,b,o,f,p,g,k=>by
  have:lo=b:=by lia
  subst this;unfold below.go;exact⟨f,g,k⟩
 |a+1,lo,b,o,f,p,g,k=>by
  unfold below.go;by_cases n:lo<b
  .rw[h9 n];have m:(lo+b)/2<Y.size:=by lia
   have e:Y.getD ((lo+b)/2) j=Y[(lo+b)/2]:=by simp[aFd,m]
   dsimp only;rw[e];by_cases l:Y[(lo+b)/2]<j
   .rw[h9 l];refine sT Y j d a _ _ (by lia) f (by lia) (λi h r=>?_) k;by_cases q:i=(lo+b)/2
    .subst q;exact l
    .exact aGA (d i _ h m (by lia)) l
   .rw[ic l];refine sT Y j d a _ _ (by lia) (by lia) (by lia) g (λi h r=>?_);by_cases q:i=(lo+b)/2
    .subst q;lia
    .have:=d _ i m h (by lia);lia
  .rw[ic n];have:lo=b:=by lia
   subst this;exact⟨f,g,k⟩
def aN (a:HU Y)(j:Nat):below Y j<=Y.size/\(∀i (h:i<Y.size),i<below Y j->Y[i]<j)/\(∀i (h:i<Y.size),below Y j<=i->j<=Y[i]):=
 sT Y j a Y.size 0 Y.size (aAG _) (aAi _) (by lia) (λi h b=>by lia) (λi h b=>by lia)
def OR (a:HU Y)(h:Y[i]?=some j):below Y j=i:=by
 obtain⟨b,e⟩:=aCh.mp h;obtain⟨k,f,g⟩:=aN a j;rcases Nat.lt_trichotomy (below Y j) i with q|q|q
 .have d:below Y j<Y.size:=by lia
  have l:=g _ d (aAi _);have m:=a _ _ d b q
  lia
 .exact q
 .have:=f i b q;lia
structure Tab (t:SetTable):Prop where
 asc:HU t.place
 le:∀j∈t.place.toList,j<=t.mask
 nod:t.dummies=#[]
def K9 (T:Tab t)(h:t.place[i]?=some j):t.slot j=.live i:=by unfold slot;rw[OR T.asc h];dsimp only;rw[h];simp
def zT (T:Tab t)(h:j∉t.place.toList):t.slot j=.empty:=by
 unfold slot;have a:¬(t.place[below t.place j]?==some j)=true:=λz=>h (by have:=beq_iff_eq.mp z;obtain⟨b,e⟩:=aCh.mp this;rw[<-e];simp)
 dsimp only;rw[ic a,T.nod];rw[ic (by unfold has;simp)]
def AI (T:Tab t)(j:Nat):(t.slot j=.empty/\j∉t.place.toList)\/∃i,t.slot j=.live i/\t.place[i]?=some j:=by
 by_cases h:j∈t.place.toList
 .obtain⟨i,a,e⟩:=aBo h;have:t.place[i]?=some j:=by rw[<-aAD,aAj a,e]
  exact .inr ⟨i,K9 T this,this⟩
 .exact .inl ⟨zT T h,h⟩
def QG (mask:Nat)(p:Probe):Probe:=if p.more>0 then{p with j:=p.j+1,more:=p.more-1}else{p with j:=(leap mask p.i p.perturb).1,more:=runEnd mask (leap mask p.i p.perturb).1-(leap mask p.i p.perturb).1,i:=(leap mask p.i p.perturb).1,perturb:=(leap mask p.i p.perturb).2}
def mH (t:fm)(p:Probe):t.advance p=QG t.mask p:=rfl
def start (mask:Nat)(h:Int):Probe:={j:=bits h%(mask+1),more:=runEnd mask (bits h%(mask+1))-bits h%(mask+1),i:=bits h%(mask+1),perturb:=bits h,dummy:=none}
def l8 (mask:Nat)(h:Int):Nat->Probe
 |0=>start mask h
 |n+1=>QG mask (l8 mask h n)
theorem nN (mask:Nat)(h:Int):∀n,(l8 mask h n).dummy=none
 |0=>rfl
 |n+1=>by have:=nN mask h n;show(QG mask _).dummy=none;unfold QG;split<;>exact this
def D1 (mask:Nat)(h:Int):Nat->Nat×Nat
 |0=>(bits h%(mask+1),bits h)
 |k+1=>leap mask (D1 mask h k).1 (D1 mask h k).2
def len (mask i:Nat):Nat:=runEnd mask i-i
def WJ (mask i:Nat):len mask i<=9:=by unfold len runEnd;split<;>lia
def off (mask:Nat)(h:Int):Nat->Nat
 |0=>0
 |k+1=>off mask h k+len mask (D1 mask h k).1+1
theorem OK (mask:Nat)(h:Int):∀k,off mask h k<=10*k
 |0=>aAi _
 |k+1=>by have:=OK mask h k;have:=WJ mask (D1 mask h k).1;show off mask h k+_+1<=_;lia
theorem U9 (mask:Nat)(h:Int):∀k r,r<=len mask (D1 mask h k).1->
  l8 mask h (off mask h k+r)={j:=(D1 mask h k).1+r,more:=len mask (D1 mask h k).1-r,i:=(D1 mask h k).1,perturb:=(D1 mask h k).2,dummy:=none}
 |0,0,_=>rfl
 |0,r+1,b=>by
  have a:=U9 mask h 0 r (by lia);have e:off mask h 0+(r+1)=(off mask h 0+r)+1:=by lia
  rw[e,l8,a];unfold QG;rw[h9 (show len mask (D1 mask h 0).1-r>0 by lia)];simp
  lia
 |k+1,0,_=>by have a:=U9 mask h k (len mask (D1 mask h k).1) (aAi _);have e:off mask h (k+1)+0=(off mask h k+len mask (D1 mask h k).1)+1:=rfl;rw[e,l8,a];unfold QG;rw[ic (by simp)];simp[D1,len]
 |k+1,r+1,b=>by
  have a:=U9 mask h (k+1) r (by lia);have e:off mask h (k+1)+(r+1)=(off mask h (k+1)+r)+1:=by lia
  rw[e,l8,a];unfold QG;rw[h9 (show len mask (D1 mask h<|k+1).1-r>0 by lia)];simp
  lia
def MS (mask:Nat)(h:Int)(k:Nat):(l8 mask h (off mask h k)).j=(D1 mask h k).1:=by have:=U9 mask h k 0 (aAG _);rw[Nat.add_zero]at this;rw[this];rfl
theorem gG (mask:Nat)(h:Int):∀k,(D1 mask h k).2<2^64/32^k+1
 |0=>by
  show bits h<_;unfold bits;have:=Int.emod_lt_of_pos h (show(0:Int)<2^64 by decide)
  lia
 |k+1=>by
  have a:=gG mask h k;show(D1 mask h k).2/32<_;have e:∀N,N/32^(k+1)=N/32^k/32:=λN=>by rw[Nat.div_div_eq_div_mul];rfl
  rw[e]
  lia
theorem rC (mask:Nat)(h:Int):∀k,(D1 mask h (13+k)).2=0
 |0=>by have:=gG mask h 13;simp at this;exact this
 |k+1=>by have:=rC mask h k;show(D1 mask h<|13+k).2/32=0;rw[this]
def lcg (m:Nat)(i:Nat):Nat:=(i*5+1)%m
def v6 (m:Nat):Nat->Nat->Nat
 |0,i=>i
 |n+1,i=>lcg m (v6 m n i)
theorem nU (mask:Nat)(h:Int):∀k,(D1 mask h (13+k)).1=v6 (mask+1) k (D1 mask h 13).1
 |0=>rfl
 |k+1=>by have a:=nU mask h k;show((D1 mask h<|13+k).1*5+1+(D1 mask h<|13+k).2/32)%(mask+1)=_;rw[rC,a];rfl
theorem gS (m:Nat):∀a b i,v6 m (a+b) i=v6 m a (v6 m b i)
 |0,b,i=>by rw[aEj];rfl
 |a+1,b,i=>by rw[show a+1+b=(a+b)+1 by lia];show lcg m _=lcg m _;rw[gS m a b i]
def kX (m:Nat):Prop:=v6 m m 0=0/\∀j<m,∃n<m,v6 m n 0=j
def rM (F:kX m)(f:i<m)(g:j<m):∃n<m,v6 m n i=j:=by
 obtain⟨a,k,d⟩:=F.2 i f;obtain⟨b,l,e⟩:=F.2 j g;by_cases h:a<=b
 .exact⟨b-a,by lia,by rw[<-d,<-gS,show b-a+a=b by lia,e]⟩
 .refine⟨b+(m-a),by lia,?_⟩;rw[<-d,<-gS,show b+(m-a)+a=b+m by lia,gS,F.1,e]
instance(m:Nat):Decidable (kX m):=inferInstanceAs (Decidable<|_/\_)
def vq:kX 8:=by decide+kernel
def WE:kX 32:=by decide+kernel
def RJ:kX 128:=by decide+kernel
theorem DV (mask:Nat)(h:Int):∀k,(D1 mask h k).1<mask+1
 |0=>aFe _ (by lia)
 |k+1=>aFe _ (by lia)
def zO {mask:Nat}(F:kX (mask+1))(h:Int){j:Nat}(a:j<=mask):∃n,n<=10*(mask+14)/\(l8 mask h n).j=j:=by
 obtain⟨k,b,e⟩:=rM F (DV mask h 13) (show j<mask+1 by lia);refine⟨off mask h (13+k),?_,?_⟩
 .have:=OK mask h (13+k);lia
 .rw[MS,nU,e]
def tQ {α β:Type}{l:List α}{m:List β}{p:Nat}{a:α×β}(h:a∈(l.take p).zip (m.take p)):a∈l.zip m:=by
 obtain⟨i,b⟩:=aDs.mp h;rw[aBw]at b;refine aAt (i:=i) ?_;rw[aBw];have q:∀{γ:Type} {l:List γ} {c:γ},(l.take p)[i]?=some c->l[i]?=some c:=λ{γ l c} h=>by
  rw[List.getElem?_take]at h;split at h
  .exact h
  .cases h
 exact⟨q b.1,q b.2⟩
def uT {α β:Type}{l:List α}{m:List β}{p:Nat}{a:α×β}(h:a∈(l.drop p).zip (m.drop p)):a∈l.zip m:=by obtain⟨i,b⟩:=aDs.mp h;rw[aBw,List.getElem?_drop,List.getElem?_drop]at b;refine aAt (i:=p+i) ?_;rw[aBw];exact b
theorem FE (mask:Nat)(h:Int):∀n,(l8 mask h n).j+(l8 mask h n).more<=mask
 |0=>by have:=aFe (bits h) (show 0<mask+1 by lia);show bits h%(mask+1)+(runEnd mask (bits h%(mask+1))-bits h%(mask+1))<=mask;unfold runEnd;split<;>lia
 |n+1=>by
  have a:=FE mask h n;show(QG mask<|l8 mask h n).j+(QG mask<|l8 mask h n).more<=mask;unfold QG;split
  .dsimp only;lia
  .dsimp only;have:(leap mask (l8 mask h n).i (l8 mask h n).perturb).1<mask+1:=aFe _ (by lia);unfold runEnd;split<;>lia
def vH (mask:Nat)(h:Int)(n:Nat):(l8 mask h n).j<=mask:=by have:=FE mask h n;lia
theorem P8 {α:Type}[DecidableEq α]:∀{l m:List α},l.Nodup->(∀x∈l,x∈m)->l.length<=m.length
 |[],_,_,_=>aAG _
 |x::l,m,h,a=>by
  have b:=a x (by simp);have d:=aAS.mp h;have:=P8 (l:=l) (m:=m.erase x) d.2 (λy f=>by
   have ne:y≠x:=λe=>by subst e;exact d.1 f
   exact(aFT ne).mpr (a y<|aAe _ f))
  rw[aFc b]at this;have:0<m.length:=aDj b;simp only[aAv]
  lia
def HY {t:fm}(h:t.place.size<=t.mask):∃j≤t.mask,j∉t.place.toList:=by
 by_cases z:∃j≤t.mask,j∉t.place.toList
 .exact z
 .exfalso;have:=P8 (l:=aAU (t.mask+1)) (m:=t.place.toList) List.nodup_range (λj a=>by
   by_cases q:j∈t.place.toList
   .exact q
   .exact absurd ⟨j,by have:=aBm.mp a;lia,q⟩ z)
  simp at this
  lia
theorem least {P:Nat->Prop}[DecidablePred P]:∀n,P n->∃m≤n,P m/\∀k<m,¬P k
 |0,h=>⟨0,aAi _,h,λk b=>by lia⟩
 |n+1,h=>by
  by_cases z:∃k≤n,P k
  .obtain⟨k,b,a⟩:=z;obtain⟨m,f,d,e⟩:=least k a;exact⟨m,by lia,d,e⟩
  .exact⟨n+1,aAi _,h,λk b a=>z ⟨k,by lia,a⟩⟩
termination_by n=>n
def T8 (t:fm)(h:Int)(n0:Nat):Prop:=n0<=10*(t.mask+14)/\(l8 t.mask h n0).j∉t.place.toList/\∀m<n0,(l8 t.mask h m).j∈t.place.toList
def CY {t:fm}(F:kX (t.mask+1))(a:t.place.size<=t.mask)(h:Int):∃n0,T8 t h n0:=by obtain⟨j,b,d⟩:=HY a;obtain⟨n,l,e⟩:=zO F h b;obtain⟨m,o,f,g⟩:=least (P:=λn=>(l8 t.mask h n).j∉t.place.toList) n (by rw[e];exact d);exact⟨m,by lia,f,λk i=>by have:=g k i;simpa using this⟩
theorem xV (T:Tab t)(hashAt:Nat->Int)(h:Int)(l:T8 t h n0):∀(d n:Nat),n<=n0->n0-n<d->
  ∃f,n<=f/\f<=n0/\(∀m,n<=m->m<f->∃i,t.place[i]?=some (l8 t.mask h m).j/\hashAt i≠h)/\
   ((f=n0/\probe.go t hashAt h d (l8 t.mask h n)=some (.empty (l8 t.mask h n0).j none))\/
    (f<n0/\∃i,t.place[i]?=some (l8 t.mask h f).j/\hashAt i=h/\probe.go t hashAt h d (l8 t.mask h n)=some (.candidate (l8 t.mask h f).j i (l8 t.mask h (f+1)))))
 |0,n,_,o=>by lia
 |d+1,n,w,o=>by
  unfold probe.go;rcases AI T (l8 t.mask h n).j with⟨e,p⟩|⟨i,e,g⟩
  .have:n=n0:=by
     by_cases q:n<n0
     .exact absurd (l.2.2 n q) p
     .lia
   subst this;refine⟨n,aAi _,aAi _,λm a b=>by lia,.inl ⟨rfl,?_⟩⟩;rw[e];dsimp only;rw[nN]
  .have x:n≠n0:=λq=>by subst q;refine l.2.1 ?_;rw[<-aAD]at g;exact aAt g
   rw[e];dsimp only;by_cases k:hashAt i=h
   . refine⟨n,aAi _,by lia,λm a b=>by lia,.inr ⟨by lia,i,g,k,?_⟩⟩
     rw[h9 (by simpa using k),mH];rfl
   . rw[ic (by simpa using k),mH]
     obtain⟨f,y,r,s,u⟩:=xV T hashAt h l d (n+1) (by lia) (by lia);refine⟨f,by lia,r,λm z v=>?_,u⟩;by_cases q:m=n
     .subst q;exact⟨i,g,k⟩
     .exact s m (by lia) v
def JJ (T:Tab t)(hashAt:Nat->Int)(h:Int)(b:T8 t h n0)(n:Nat)(d:n<=n0):
  ∃a,n<=a/\a<=n0/\(∀m,n<=m->m<a->∃i,t.place[i]?=some (l8 t.mask h m).j/\hashAt i≠h)/\
   ((a=n0/\t.probe hashAt h (l8 t.mask h n)=some (.empty (l8 t.mask h n0).j none))\/
    (a<n0/\∃i,t.place[i]?=some (l8 t.mask h a).j/\hashAt i=h/\t.probe hashAt h (l8 t.mask h n)=some (.candidate (l8 t.mask h a).j i (l8 t.mask h (a+1))))):=
 xV T hashAt h b _ n d (by have:=b.1;unfold turns;lia)
def Reach (mask:Nat)(a:Nat->Prop)(h:Int)(j:Nat):Prop:=∃n,(l8 mask h n).j=j/\∀m<n,a (l8 mask h m).j
def Reach.mono {mask:Nat}{o a:Nat->Prop}{h:Int}{j:Nat}(r:Reach mask o h j)(i:∀k,o k->a k):Reach mask a h j:=by obtain⟨n,e,q⟩:=r;exact⟨n,e,λm b=>i _ (q m b)⟩
def Reach.before (a:T8 t h n0)(b:j∈t.place.toList)(r:Reach t.mask (λk=>k∈t.place.toList) h j):∃n<n0,(l8 t.mask h n).j=j:=by
 obtain⟨n,e,q⟩:=r;refine⟨n,?_,e⟩;by_cases z:n<n0
 .exact z
 .exfalso;by_cases y:n=n0
  .subst y;exact a.2.1 (by rw[e];exact b)
  .exact a.2.1 (q n0 (by lia))
def dZ {α:Type}(Y:Array α)(p:Nat)(x:α):(insertAt Y p x).toList=Y.toList.take p++x::Y.toList.drop p:=by
 unfold insertAt;simp[Array.toList_extract,List.extract_eq_drop_take];have:Y.size-p=(Y.toList.drop p).length:=by simp
 rw[this,List.take_length]
def yY (t:fm)(es:List (Int×av)):List (Nat×Int×av):=t.place.toList.zip es
structure SOk (t:SetTable)(es:List (Int×Value)):Prop where
 tab:Tab t
 full:kX (t.mask+1)
 len:t.place.size=es.length
 room:t.place.size<=t.mask
 reach:∀e∈yY t es,Reach t.mask (λk=>k∈t.place.toList) e.2.1 e.1
def TH {t:fm}{es:List (Int×av)}(b:t.place.size=es.length){i:Nat}{e:Int×av}(h:es[i]?=some e):∃j,t.place[i]?=some j/\(j,e)∈yY t es:=by
 have d:i<es.length:=(aAy.mp h).1;have a:i<t.place.toList.length:=by simpa[b]using d
 refine⟨t.place.toList[i],by rw[<-aAD,aAj a],?_⟩;unfold yY;refine aAt (i:=i) ?_;rw[aBw];exact⟨aAj a,h⟩
def ZX {t:fm}{es:List (Int×av)}(S:SOk t es){h:Int}{x:av}{n0:Nat}(z:T8 t h n0)(E:t.place.size+1<=t.mask):
  SOk (t.put (l8 t.mask h n0).j).1 (es.take (t.put (l8 t.mask h n0).j).2++(h,x)::es.drop (t.put (l8 t.mask h n0).j).2):=by
 have u:=vH t.mask h n0;obtain⟨Y,H,I⟩:=aN S.tab.asc (l8 t.mask h n0).j;generalize A:(l8 t.mask h n0).j=J at*
 have v:J∉t.place.toList:=by rw[<-A];exact z.2.1
 have B:(t.put J).2=below t.place J:=rfl;have em:(t.put J).1.mask=t.mask:=rfl;have d:(t.put J).1.place=insertAt t.place (below t.place J) J:=rfl;have f:=dZ t.place (below t.place J) J;have l:∀k,k∈(t.put J).1.place.toList↔k∈t.place.toList\/k=J:=λk=>by
  rw[d,f,aAX,aAd];constructor
  .rintro(q|q|q)
   .exact .inl (aFU q)
   .exact .inr q
   .exact .inl (aFV q)
  .rintro(q|q)
   .rw[<-aFI (below t.place J) t.place.toList,aAX]at q;rcases q with q|q
    .exact .inl q
    .exact .inr (.inr q)
   .exact .inr (.inl q)
 have C:(t.put J).1.place.size=t.place.size+1:=by
  rw[<-aBb,d,f,aAK,aBP,aAv,aDJ,aBb]
  lia
 refine⟨⟨?_,λj L=>?_,?_⟩,S.full,?_,by rw[C];exact E,λe s=>?_⟩
 .
  have o:t.place.toList.Pairwise (· <·):=by rw[aCk];intro i j g u N;simpa using S.tab.asc i j (by simpa using g) (by simpa using u) N
  have p:∀a∈t.place.toList.take (below t.place J),a<J:=λa n=>by
   obtain⟨i,g,e⟩:=aBo n;rw[aBP]at g;rw[List.getElem_take]at e;have:=H i (by simp at g;lia) (by lia);simp at e
   lia
  have r:∀a∈t.place.toList.drop (below t.place J),J<a:=λa n=>by
   obtain⟨i,g,e⟩:=aBo n;rw[aDJ]at g;rw[List.getElem_drop]at e;have h1:=I (below t.place J+i) (by simp at g;lia) (by lia);simp at e;have h2:J≠a:=λq=>v (by rw[q];exact aFV n)
   lia
  have O:(t.put J).1.place.toList.Pairwise (· <·):=by
   rw[d,f,List.pairwise_append];refine⟨o.sublist (List.take_sublist _ _),aAz.mpr ⟨r,o.sublist (List.drop_sublist _ _)⟩,λa n b Q=>?_⟩;rcases aAd.mp Q with q|q
   .subst q;exact p a n
   .exact aGA (p a n) (r b q)
  intro i k g w y;have:=aCk.mp O i k (by simpa using g) (by simpa using w) y;simpa using this
 .rcases(l j).mp L with q|q
  .exact S.tab.le j q
  .subst q;exact u
 .show(if has t.dummies J then _ else t.dummies)=#[];rw[S.tab.nod,ic (by unfold has;simp)]
 .rw[C,B,aAK,aBP,aAv,aDJ];have:=S.len
  lia
 .have T:e∈yY t es\/e=(J,h,x):=by
   unfold yY at s;rw[d,f,B]at s;rw[List.zip_append (by rw[aBP,aBP,aBb,S.len])]at s;rcases aAX.mp s with q|q
   .left;unfold yY;exact tQ q
   .rw[aBW]at q;rcases aAd.mp q with q|q
    .exact .inr q
    .left;unfold yY;exact uT q
  rcases T with q|q
  .exact(S.reach e q).mono λk w=>(l k).mpr (.inl w)
  .subst q;exact⟨n0,A,λm U=>(l _).mpr (.inl (z.2.2 m U))⟩
def Q8 (owner:Array (Option Nat))(j:Nat):Prop:=(owner.getD j<|some 0).isNone=false
theorem qR {mask:Nat}(h:Int)(owner:Array (Option Nat)):∀(fuel k:Nat),(∃kk,k<=kk/\kk<k+fuel/\¬Q8 owner (D1 mask h kk).1)->
  ∃n,off mask h k<=n/\layClean.free mask owner fuel (D1 mask h k).1 (D1 mask h k).2=some (l8 mask h n).j/\¬Q8 owner (l8 mask h n).j/\∀m,off mask h k<=m->m<n->Q8 owner (l8 mask h m).j
 |0,k,⟨kk,i,l,_⟩=>by lia
 |fuel+1,k,⟨kk,i,l,d⟩=>by
  have o:runEnd mask (D1 mask h k).1+1-(D1 mask h k).1=len mask (D1 mask h k).1+1:=by unfold len runEnd;split<;>lia
  unfold layClean.free;rw[o];cases e:(aAU<|len mask (D1 mask h k).1+1).find? λr=>(owner.getD ((D1 mask h k).1+r)<|some 0).isNone with
  |some r=>
   have q:=List.find?_some e;have f:r<len mask (D1 mask h k).1+1:=aBm.mp (List.mem_of_find?_eq_some e);have g:(l8 mask h<|off mask h k+r).j=(D1 mask h k).1+r:=by rw[U9 mask h k r (by lia)]
   refine⟨off mask h k+r,by lia,by rw[g],by rw[g];unfold Q8;rw[q];simp,λm a b=>?_⟩;have em:(l8 mask h m).j=(D1 mask h k).1+(m-off mask h k):=by have:=U9 mask h k (m-off mask h k) (by lia);rw[show off mask h k+(m-off mask h k)=m by lia]at this;rw[this]
   rw[em];unfold Q8;rw[List.find?_range_eq_some]at e;have:=e.2.2 (m-off mask h k) (by lia);simpa using this
  |none=>
   have all:∀r<len mask (D1 mask h k).1+1,Q8 owner ((D1 mask h k).1+r):=λr f=>by have:=List.find?_eq_none.mp e r (aBm.mpr f);unfold Q8;exact Bool.not_eq_true _▸this
   have v:kk≠k:=λq=>by subst q;have:=all 0 (by lia);rw[Nat.add_zero]at this;exact d this
   obtain⟨n,w,p,s,t⟩:=qR h owner fuel (k+1) ⟨kk,by lia,by lia,d⟩;have x:off mask h (k+1)=off mask h k+len mask (D1 mask h k).1+1:=rfl;refine⟨n,by lia,p,s,λm y u=>?_⟩;by_cases q:off mask h (k+1)<=m
   .exact t m q u
   .have em:(l8 mask h m).j=(D1 mask h k).1+(m-off mask h k):=by have:=U9 mask h k (m-off mask h k) (by lia);rw[show off mask h k+(m-off mask h k)=m by lia]at this;rw[this]
    rw[em];exact all _ (by lia)
def lN {mask:Nat}(F:kX (mask+1))(h:Int)(owner:Array (Option Nat)){j:Nat}(i:j<=mask)(a:¬Q8 owner j):
  ∃n,layClean.free mask owner (turns mask) (aDU h%(mask+1)) (aDU h)=some (l8 mask h n).j/\¬Q8 owner (l8 mask h n).j/\∀m<n,Q8 owner (l8 mask h m).j:=by
 obtain⟨k,l,e⟩:=rM F (DV mask h 13) (show j<mask+1 by lia);obtain⟨n,o,b,d,f⟩:=qR h owner (turns mask) 0 ⟨13+k,aAG _,by unfold turns;lia,by rw[nU,e];exact a⟩;exact⟨n,b,d,λm g=>f m (aAG _) g⟩
structure Laid (mask:Nat)(hs:List Int)(owner:Array (Option Nat))(k:Nat):Prop where
 size:owner.size=mask+1
 lt:∀(j i:Nat),owner[j]?=some (some i)->i<k
 inj:∀(j j' i:Nat),owner[j]?=some (some i)->owner[j']?=some (some i)->j=j'
 sur:∀i<k,∃j:Nat,owner[j]?=some (some i)
 reach:∀(j i:Nat) (h:Int),owner[j]?=some (some i)->hs[i]?=some h->Reach mask (λl=>∃i,owner[l]?=some (some i)) h j
def jR {owner:Array (Option Nat)}{mask j:Nat}(b:owner.size=mask+1)(d:j<=mask):Q8 owner j↔∃i,owner[j]?=some (some i):=by
 unfold Q8;have a:j<owner.size:=by lia
 have e:owner.getD j (some 0)=owner[j]:=by simp[aFd,a]
 rw[e,aAJ a];cases owner[j]with
 |none=>simp
 |some i=>simp
def Laid.room {mask k:Nat}{r:List Int}{owner:Array (Option Nat)}(L:Laid mask r owner k)(t:k<=mask):∃j≤mask,¬Q8 owner j:=by
 by_cases z:∃j≤mask,¬Q8 owner j
 .exact z
 .exfalso;have all:∀j≤mask,∃i,owner[j]?=some (some i):=λj b=>by
   by_cases q:Q8 owner j
   .exact(jR L.size b).mp q
   .exact absurd ⟨j,b,q⟩ z
  have d:∀n,n<=mask+1->∃l:List Nat,l.length=n/\l.Nodup/\(∀i∈l,i<k)/\∀i∈l,∃j<n,owner[j]?=some (some i):=λn=>by
   induction n with
   |zero=>exactλ_=>⟨[],rfl,aDi,by simp,by simp⟩
   |succ n s=>
    intro u;obtain⟨l,o,f,g,p⟩:=s (by lia);obtain⟨i,h⟩:=all n (by lia);refine⟨i::l,by simp[o],aAS.mpr ⟨λq=>?_,f⟩,λx a=>?_,λx a=>?_⟩
    .obtain⟨j,b,e⟩:=p i q;have:=L.inj j n i e h
     lia
    .rcases aAd.mp a with q|q
     .subst q;exact L.lt _ _ h
     .exact g x q
    .rcases aAd.mp a with q|q
     .subst q;exact⟨n,by lia,h⟩
     .obtain⟨j,b,e⟩:=p x q;exact⟨j,by lia,e⟩
  obtain⟨l,o,f,g,_⟩:=d (mask+1) (aAi _);have:=P8 (m:=aAU k) f (λx a=>aBm.mpr (g x a));simp at this
  lia
def zV (mask:Nat)(b:List Int):Laid mask b (aEB (mask+1) none) 0:=by
 have a:∀(j i:Nat),(aEB (mask+1) (none:Option Nat))[j]?=some (some i)->False:=λj i h=>by rw[Array.getElem?_replicate]at h;split at h<;>cases h
 exact⟨by simp,λj i h=>(a j i h).elim,λj d i h=>(a j i h).elim,λi e=>by lia,λj i _ h=>(a j i h).elim⟩
def Laid.step {mask k:Nat}{g:List Int}{owner:Array (Option Nat)}(L:Laid mask g owner k){h:Int}(t:g[k]?=some h){n:Nat}(u:¬Q8 owner (l8 mask h n).j)(v:∀m<n,Q8 owner (l8 mask h m).j):
  Laid mask g (owner.setIfInBounds (l8 mask h n).j (some k)) (k+1):=by
 have w:=vH mask h n;have o:(l8 mask h n).j<owner.size:=by rw[L.size];lia
 have get:∀(j i:Nat),(owner.setIfInBounds (l8 mask h n).j (some k))[j]?=some (some i)↔(j=(l8 mask h n).j/\i=k)\/(j≠(l8 mask h n).j/\owner[j]?=some (some i)):=λj i=>by
  rw[Array.getElem?_setIfInBounds];by_cases q:(l8 mask h n).j=j
  .rw[h9 q,h9 o];simp[q,eq_comm]
  .rw[ic q];constructor
   .intro z;exact .inr ⟨λy=>q y.symm,z⟩
   .rintro(⟨z,_⟩|⟨_,z⟩)
    .exact absurd z.symm q
    .exact z
 have x:∀i,owner[(l8 mask h n).j]?≠some (some i):=λi z=>u ((jR L.size w).mpr ⟨i,z⟩);have grow:∀l:Nat,(∃i:Nat,owner[l]?=some (some i))->∃i:Nat,(owner.setIfInBounds (l8 mask h n).j (some k))[l]?=some (some i):=λl A=>by
  obtain⟨i,z⟩:=A;by_cases q:l=(l8 mask h n).j
  .exact⟨k,(get l k).mpr (.inl ⟨q,rfl⟩)⟩
  .exact⟨i,(get l i).mpr (.inr ⟨q,z⟩)⟩
 refine⟨by simp[L.size],λj i z=>?_,λj p i z s=>?_,λi C=>?_,λj i r z e=>?_⟩
 .rcases(get j i).mp z with⟨_,q⟩|⟨_,q⟩
  .lia
  .have:=L.lt j i q;lia
 .rcases(get j i).mp z with⟨d,a⟩|⟨d,a⟩
  .rcases(get p i).mp s with⟨f,b⟩|⟨f,b⟩
   .rw[d,f]
   .subst a;have:=L.lt _ _ b;lia
  .rcases(get p i).mp s with⟨f,b⟩|⟨f,b⟩
   .subst b;have:=L.lt _ _ a;lia
   .exact L.inj j p i a b
 .by_cases q:i=k
  .subst q;exact⟨_,(get _ _).mpr (.inl ⟨rfl,rfl⟩)⟩
  .obtain⟨j,z⟩:=L.sur i (by lia);exact⟨j,(get j i).mpr (.inr ⟨λy=>by subst y;exact x i z,z⟩)⟩
 .rcases(get j i).mp z with⟨d,a⟩|⟨d,a⟩
  .subst d a;have:r=h:=Option.some.inj (e.symm.trans t);subst this;exact⟨n,rfl,λm B=>grow _ ((jR L.size<|vH mask r m).mp (v m B))⟩
  .exact(L.reach j i r a e).mono grow
def xD {mask:Nat}(F:kX (mask+1))(b:Array Int)(z:b.size<=mask):∃owner,layClean mask b=some owner/\Laid mask b.toList owner b.size:=by
 have g:∀(post a:List Int) (owner:Array (Option Nat)),b.toList=a++post->Laid mask b.toList owner a.length->
   ∃d,post.foldl (λB h=>do
    let(owner,k)<-B
    let j<-layClean.free mask owner (turns mask) (aDU h%(mask+1)) (aDU h)
    pure (owner.setIfInBounds j (some k),k+1)) (some (owner,a.length))=some (d,b.size)/\Laid mask b.toList d b.size:=λpost=>by
  induction post with
  |nil=>
   intro a owner e L;have:a.length=b.size:=by rw[<-aBb,e];simp
   exact⟨owner,by rw[List.foldl_nil,this],by rw[<-this];exact L⟩
  |cons h post i=>
   intro a owner e L;have f:a.length<b.size:=by rw[<-aBb,e];simp
   obtain⟨j,l,m⟩:=L.room (by lia);obtain⟨n,o,p,q⟩:=lN F h owner l m;have r:b.toList[a.length]?=some h:=by rw[e];simp
   have s:=L.step r p q;rw[aFJ];have t:b.toList=(a++[h])++post:=by rw[e];simp
   obtain⟨d,u,v⟩:=i (a++[h]) _ t (by rw[aAK];exact s);refine⟨d,?_,v⟩;rw[<-u];congr 1;simp[o]
 obtain⟨owner,w,x⟩:=g b.toList [] (aEB (mask+1) none) rfl (zV mask b.toList);refine⟨owner,?_,x⟩;unfold layClean;rw[<-Array.foldl_toList];have y:List.foldl (λB h=>do
    let(owner,k)<-B
    let j<-layClean.free mask owner (turns mask) (aDU h%(mask+1)) (aDU h)
    pure (owner.setIfInBounds j (some k),k+1)) (some (aEB (mask+1) none,0)) b.toList=some (owner,b.size):=w
 rw[y];rfl
def E6 (mask:Nat)(owner:Array (Option Nat)):List (Nat×Nat):=(aAU<|mask+1).filterMap λj=>(owner.getD j none).map (j,·)
def Q0 {mask:Nat}{owner:Array (Option Nat)}(g:owner.size=mask+1){j i:Nat}:(j,i)∈E6 mask owner↔owner[j]?=some (some i):=by
 unfold E6;rw[aBB];constructor
 .rintro⟨l,a,e⟩;have f:l<owner.size:=by rw[g];exact aBm.mp a
  have b:owner.getD l none=owner[l]:=by simp[aFd,f]
  rw[b,aEe]at e;obtain⟨k,d,h⟩:=e;cases h;rw[aAJ f,d]
 .intro e;obtain⟨a,d⟩:=aCh.mp e;have b:owner.getD j none=owner[j]:=by simp[aFd,a]
  exact⟨j,aBm.mpr (by lia),by rw[b,d];rfl⟩
def xI (mask:Nat)(owner:Array (Option Nat)):((E6 mask owner).map (·.1)).Pairwise (· <·):=by unfold E6;rw[aBS];have:(aAU<|mask+1).Pairwise (· <·):=List.pairwise_lt_range;refine List.Pairwise.filterMap _ (R:=(· <·)) ?_ this;intro a g f b d h e;rw[aEe]at d e;obtain⟨_,_,rfl⟩:=d;obtain⟨_,_,rfl⟩:=e;exact f
def LF {mask finger moves:Nat}{led plain:Bool}(F:kX (mask+1))(es:Array (Int×av))(A:es.size<=mask):
  ∃t' f,laid mask finger moves led plain (es.map (·.1))=some (t',f)/\(f.filterMap (es[·]?)).size=es.size/\(f.filterMap (es[·]?)).toList.Perm es.toList/\SOk t' (f.filterMap (es[·]?)).toList/\
   t'.mask=mask/\t'.dummies=#[]/\t'.led=led/\t'.plain=plain/\t'.moves=moves:=by
 obtain⟨d,J,L⟩:=xD F (es.map (·.1)) (by simpa using A);have m:(es.map (·.1)).size=es.size:=by simp
 rw[m]at L;refine⟨{mask,place:=((E6 mask d).map (·.1)).toArray,dummies:=#[],finger,led,moves,plain},((E6 mask d).map (·.2)).toArray,?_,?_⟩
 .unfold laid;rw[J];rfl
 have n:(E6 mask d).Nodup:=by have:=xI mask d;rw[aBS]at this;exact aCg.mpr (this.imp λ{a b} h e=>by subst e;exact aBj _ h)
 have o:((E6 mask d).map (·.2)).Nodup:=by rw[aCg,aBS];refine List.Pairwise.imp_of_mem (R:=(· ≠·)) ?_ (aCg.mp n);rintro⟨j,i⟩ ⟨p,r⟩ N O Q e;dsimp only at e;subst e;have:=L.inj j p i ((Q0 L.size).mp N) ((Q0 L.size).mp O);subst this;exact Q rfl
 have B:((E6 mask d).map (·.2)).Perm (aAU es.size):=by
  rw[aDC o List.nodup_range];intro i;rw[aBm,aAo];constructor
  .rintro⟨⟨j,r⟩,h,rfl⟩;exact L.lt _ _ ((Q0 L.size).mp h)
  .intro s;obtain⟨j,t⟩:=L.sur i s;exact⟨(j,i),(Q0 L.size).mpr t,rfl⟩
 have C:(((E6 mask d).map (·.2)).toArray.filterMap (es[·]?)).toList=(E6 mask d).filterMap (λx=>es[x.2]?):=by rw[Array.toList_filterMap,aDm];rfl
 have T:((E6 mask d).filterMap (λx=>es[x.2]?)).Perm es.toList:=by
  have U:(E6 mask d).filterMap (λx=>es[x.2]?)=((E6 mask d).map (·.2)).filterMap (λi=>es[i]?):=by rw[aDm];rfl
  rw[U];refine(B.filterMap _).trans (List.Perm.of_eq ?_);apply aFf;intro i;have:(aAU es.size).filterMap (λi=>es[i]?)=es.toList:=by
   have q:∀l:List (Int×av),(aAU l.length).filterMap (λi=>l[i]?)=l:=λl=>by
    induction l with
    |nil=>rfl
    |cons a l u=>
     rw[aAv,aFC,aCi];simp only[aDf];rw[aDm];have:((λi=>(a::l)[i]?)∘Nat.succ)=λi=>l[i]?:=by funext i;simp
     rw[this,u]
   have:=q es.toList;simpa using this
  rw[this]
 have Y:∀l:List (Nat×Nat),(∀x∈l,x.2<es.size)->(l.map (·.1)).zip (l.filterMap<|λx=>es[x.2]?)=l.filterMap (λx=>es[x.2]?.map (x.1,·))/\(l.filterMap<|λx=>es[x.2]?).length=l.length:=λl=>by
  induction l with
  |nil=>intro _;exact⟨rfl,rfl⟩
  |cons x l u=>intro h;obtain⟨i1,i2⟩:=u (λy hy=>h y (aAe _ hy));have w:=h x (by simp);have e:es[x.2]?=some es[x.2]:=aAJ w;rw[aAp,aCi,e];dsimp only;rw[aCi,e];dsimp only[Option.map_some];rw[aBW,i1];exact⟨rfl,by simp[i2]⟩
 obtain⟨z1,E⟩:=Y (E6 mask d) (λx w=>L.lt x.1 x.2 ((Q0 L.size).mp w));have H:(E6 mask d).length=es.size:=by have:=B.length_eq;simpa using this
 rw[C];refine⟨by rw[<-aBb,C,E,H],T,⟨⟨?_,λj t=>?_,rfl⟩,F,?_,?_,λe g=>?_⟩,rfl,rfl,rfl,rfl,rfl⟩
 .intro i k s m z;have:=aCk.mp (xI mask d) i k (by simpa using s) (by simpa using m) z;simpa using this
 .have ui:j∈(E6 mask d).map (·.1):=by simpa using t
  obtain⟨⟨p,i⟩,h,rfl⟩:=aAo.mp ui;have:=(aCh.mp<|(Q0 L.size).mp h).1;rw[L.size]at this;show p<=mask
  lia
 .rw[E];simp
 .simp only[aAl,aAh,H];exact A
 .unfold yY at g;dsimp only at g;rw[z1,aBB]at g;obtain⟨⟨j,i⟩,h,I⟩:=g;rw[aEe]at I;obtain⟨⟨hh,v⟩,e2,rfl⟩:=I;have ho:=(Q0 L.size).mp h;have:=L.reach j i hh ho (by rw[aAD,Array.getElem?_map,e2];rfl);refine this.mono λl z9=>?_;obtain⟨r,fb⟩:=z9;show l∈(E6 mask d).map (·.1);exact aAo.mpr ⟨(l,r),(Q0 L.size).mpr fb,rfl⟩
end ST
namespace TS
open PySem PyProof.Rows
abbrev tupK:Bool->SortKind:=sortPriv%PySem.Builtin.KeyKind.tuples
structure TB (f:Bool)(a5:Array Keyed)(st:SortSt):Prop where
 perm:(arrOf st).Perm a5
 kind:kindOf st=tupK f
 failed:failedOf st=none
 pend:pendingOf st=#[]
def TB.size {f:Bool}{a5:Array Keyed}{st:SortSt}(h:TB f a5 st):(arrOf st).size=a5.size:=h.perm.size_eq
def TB.setArr {f:Bool}{a5:Array Keyed}{st:SortSt}(h:TB f a5 st){Y:Array Keyed}(a:Y.Perm (arrOf st)):TB f a5 (PyProof.Rows.setArr st Y):=
 ⟨a.trans h.perm,h.kind,h.failed,h.pend⟩
def QV (f:Bool)(A:cq)(s:bb)(κ:KeyKind):Prop:=
 ∀(d:cp) (w:cu) (E:D3) (x y:av) (a b:κ.α) {Q:vT},
  κ.keyOf x=some a->κ.keyOf y=some b->Q (κ.blt a b) s->bc (bt d w) A (keyLt' (tupK f) x y) Q E s
def TB.atK {f:Bool}{κ:KeyKind}{a5:Array Keyed}{st:SortSt}(h:TB f a5 st)(h0:KeysOf κ a5){i:Nat}(d:i<a5.size):∃x p a,(arrOf st)[i]?=some (x,p)/\κ.keyOf x=some a/\KK κ (arrOf st) i=a:=by
 have g:i<(arrOf st).size:=by rw[h.size];exact d
 obtain⟨a,b⟩:=h0 _ ((aEN.mp h.perm).mem_iff.mp (show(arrOf st)[i]∈(arrOf st).toList by simp));have e:(arrOf st)[i]?=some (arrOf st)[i]:=getElem?_pos _ i g;exact⟨(arrOf st)[i].1,(arrOf st)[i].2,a,by rw[e],b,by unfold KK;rw[e];simp[b]⟩
section
def qk (f:Bool){prog:cp}{w:cu}{A:cq}{E:D3}{s:bb}{a5:Array Keyed}{κ:KeyKind}{st:SortSt}{i j:Nat}{Q:Option Bool->SortSt->Prop}(e:QV f A s κ)(d:TB f a5 st)(h0:KeysOf κ a5)(g:i<a5.size)(k:j<a5.size)
  (h:Q (some (κ.blt (KK κ (arrOf st) i) (KK κ (arrOf st) j))) st):wpS (bt prog w) A E s (ltAt' i j) Q st:=by
 obtain⟨x,p,a,l,m,n⟩:=d.atK h0 g;obtain⟨y,q,b,o,r,t⟩:=d.atK h0 k;rw[n,t]at h;rw[ltAt'_eq];refine aBp (wpS_get ?_);show wpS _ _ _ _ (do let x<-elem' (arrOf st) i;let y<-elem' (arrOf st) j;lt' x y) Q st;rw[elem'_eq,elem'_eq,l,o];refine aBp (aCl<|aBp<|aCl ?_);rw[lt'_eq];refine aBp (wpS_get ?_);rw[d.kind];refine aBp (wpS_lift<|aEy<|e prog w _ x y a b m r ⟨rfl,?_⟩);exact aCl h
def up1 (S:SortedToK κ Y x)(h:1<=x->κ.kle (KK κ Y (x-1)) (KK κ Y x)):SortedToK κ Y (x+1):=λi j a b=>by
 rcases aDn (aFg b)with d|rfl
 .exact S i j a d
 .rcases aDn a with e|rfl
  .exact KeyOrd.kle_trans (S i (j-1) (by lia) (by lia)) (h (by lia))
  .exact KeyOrd.kle_refl _
def ck (S:NonIncK κ Y x)(h:1<=x->κ.kle (KK κ Y x) (KK κ Y (x-1))):NonIncK κ Y (x+1):=λi j a b=>by
 rcases aDn (aFg b)with d|rfl
 .exact S i j a d
 .rcases aDn a with e|rfl
  .exact KeyOrd.kle_trans (h (by lia)) (S i (j-1) (by lia) (by lia))
  .exact KeyOrd.kle_refl _
def JS (S:NonIncK κ Y x)(e:∀k,KK κ N k=KK κ Y k):NonIncK κ N x:=λi j a b=>by rw[e,e];exact S i j a b
def BX (κ:KeyKind)(Y:Array Keyed)(x c:Nat):Prop:=c+1<=x/\∀k,x-(c+1)<=k->k<x->KK κ Y k=KK κ Y (x-1)
def BX.one (h:1<=x):BX κ Y x 0:=⟨h,λk a b=>by rw[show k=x-1 by lia]⟩
variable{st:SortSt}
def PM (i:QV f A s κ)(h0:KeysOf κ a5)(l:m<=a5.size)(B:TB f a5 st)(o:1<=a)(b:a<=m)(S:SortedToK κ (arrOf st) a){Q:AscSt->SortSt->Prop}(q:∀n,a<=n->n<=m->SortedToK κ (arrOf st) n->(n<m->κ.klt (KK κ (arrOf st) n) (KK κ (arrOf st) (n-1)))->Q (none,n) st):wpS (bt prog w) A E s (ascLoop a m) Q st:=by
 refine aEk (I:=λn r t=>t=st/\r=(none,n)/\SortedToK κ (arrOf st) n) (λn r t j p k=>?_) (λr t ⟨g,h,d⟩=>?_) ⟨rfl,rfl,S⟩
 .obtain⟨g,h,d⟩:=k;subst g h;refine aBp (qk f i B h0 (by lia) (by lia) ?_);cases z:κ.blt (KK κ (arrOf t) n) (KK κ (arrOf t)<|n-1)with
  |true=>exact aCl (q n j (by lia) d λ_=>z)
  |false=>exact aCl ⟨rfl,rfl,up1 d λ_=>z⟩
 .subst g h;have e:max a m=m:=Nat.max_eq_right b;rw[e]at d⊢;exact q m b (aAi _) d λz=>absurd z (aBj _)
abbrev Told (f:Bool)(κ:KeyKind)(a5:Array Keyed)(m:Nat)(Q:Option Nat->SortSt->Prop):Prop:=∀n t,TB f a5 t->1<=n->n<=m->SortedToK κ (arrOf t) n->Q (some n) t
def wG (h:QV f A s κ)(h0:KeysOf κ a5)(a:m<=a5.size)(B:TB f a5 st)(b:1<=n)(d:n<=m)(S:NonIncK κ (arrOf st) n){Q:Option Nat->SortSt->Prop}(q:Told f κ a5 m Q):
  wpS (bt prog w) A E s (tail3 n m) Q st:=by
 have g:=B.setArr (aGh (arrOf st) 0 n<|(n-0)/2);have l:n<=(arrOf st).size:=by rw[B.size];exact aAq d a
 refine aBp (aGi<|aBp<|PM h h0 a g b d (λi j v o=>?_) λk p r t _=>aCl (q k _ g (aAq b p) r t));have e:∀k,k<n->KK κ (arrOf<|setArr st<|mirror (arrOf st) 0 n<|(n-0)/2) k=KK κ (arrOf st) (0+n-1-k):=λk u=>(KK_mirror l k).trans (h9 ⟨aAG _,u⟩);rw[e i (by lia),e j o];exact S _ _ (by lia) (by lia)
def NR (g:QV f A s κ)(h0:KeysOf κ a5)(C:m<=a5.size)(B:TB f a5 st)(h:1<=n)(j:n<=m)(S:NonIncK κ (arrOf st) n){Q:DescSt->SortSt->Prop}(q:∀k c t,TB f a5 t->1<=k->k<=m->NonIncK κ (arrOf t) k->BX κ (arrOf t) k c->Q (none,k,c) t):wpS (bt prog w) A E s (descLoop n m) Q st:=by
 refine aEk (I:=λk r t=>∃c,r=(none,k,c)/\TB f a5 t/\NonIncK κ (arrOf t) k/\BX κ (arrOf t) k c) (λk r t H J p=>?_) (λr t ⟨c,e,a,d,b⟩=>?_) ⟨0,rfl,B,S,BX.one h⟩
 .obtain⟨c,e,a,d,b⟩:=p;subst e;have u:k<=(arrOf t).size:=by rw[a.size];lia
  dsimp only;refine aBp (qk f g a h0 (by lia) (by lia) ?_);cases z:κ.blt (KK κ (arrOf t) k) (KK κ (arrOf t)<|k-1)with
  |true=>
   have l:NonIncK κ (arrOf t) (k+1):=ck d λ_=>KeyOrd.kle_of_klt z;show wpS _ _ _ _ (if c>0 then _ else _) _ t;by_cases o:c>0
   .rw[h9 o];exact aBp (aGi (aCl ⟨0,rfl,a.setArr (aGh _ _ _ _),JS l (aFK u b.2),BX.one (by lia)⟩))
   .rw[ic o];exact aCl ⟨0,rfl,a,l,BX.one (by lia)⟩
  |false=>
   dsimp only;simp only[aAu,if_false];refine aBp (qk f g a h0 (by lia) (by lia) ?_);cases v:κ.blt (KK κ (arrOf t)<|k-1) (KK κ (arrOf t) k)with
   |true=>exact aCl (q k c t a (by lia) (by lia) d b)
   |false=>
    have e:KK κ (arrOf t) k=KK κ (arrOf t) (k-1):=KeyOrd.kle_antisymm v z;refine aCl ⟨c+1,rfl,a,ck d λ_=>by rw[e];exact KeyOrd.kle_refl _,by have:=b.1;lia,λi L x=>?_⟩;show KK κ (arrOf t) i=KK κ (arrOf t) k;rcases aDn (aFg x)with y|rfl
    .rw[e];exact b.2 i (by lia) y
    .rfl
 .subst e;have e:max n m=m:=Nat.max_eq_right j;rw[e]at d b⊢;exact q m c t a (aAq h j) (aAi _) d b
def yO (a:QV f A s κ)(h0:KeysOf κ a5)(b:m<=a5.size)(B:TB f a5 st)(j:n+1<=m)(S:NonIncK κ (arrOf st) (n+1)){Q:Option Nat->SortSt->Prop}(q:Told f κ a5 m Q):
  wpS (bt prog w) A E s (descPart n m) Q st:=by
 refine aBp (wpS_lift<|aDO ⟨rfl,aBp (NR a h0 b B (aGB n) j S λk c t d e g h l=>?_)⟩);have o:k<=(arrOf t).size:=by rw[d.size];lia
 show wpS _ _ _ _ (if c>0 then _ else _) _ t;by_cases i:c>0
 .rw[h9 i];exact aBp (aGi<|wG a h0 b (d.setArr<|aGh _ _ _ _) e g (JS h<|aFK o l.2) q)
 .rw[ic i];exact wG a h0 b d e g h q
def HQ (a:QV f A s κ)(h0:KeysOf κ a5)(b:m<=a5.size)(l:1<=m)(B:TB f a5 st){Q:Option Nat->SortSt->Prop}(q:Told f κ a5 m Q):wpS (bt prog w) A E s (countRun' 0 m) Q st:=by
 rw[countRun0_eq];refine aBp (PM a h0 b B (aAi 1) l (up1 (λ_ _ _ z=>absurd z (aEA _)) λz=>absurd z (by decide)) λn d e S o=>?_);show wpS _ _ _ _ (if(n==m)=true then _ else _) _ st;by_cases g:n=m
 .rw[h9 (beq_iff_eq.mpr g)];exact aCl (q n st B d e S)
 .rw[ic λz=>g (beq_iff_eq.mp z)];have lt:=o (by lia);by_cases h:n>1
  .rw[h9 h];refine aBp (qk f a B h0 (by lia) (by lia) ?_);cases z:κ.blt (KK κ (arrOf st) 0) (KK κ (arrOf st)<|n-1)with
   |true=>exact aCl (q n st B d e S)
   |false=>
    have p:n<=(arrOf st).size:=by rw[B.size];lia
    have same:∀k,0<=k->k<n->KK κ (arrOf st) k=KK κ (arrOf st) (n-1):=λk _ r=>KeyOrd.kle_antisymm (S k (n-1) (by lia) (by lia)) (KeyOrd.kle_trans z<|S 0 k (aAG _) r);have t:NonIncK κ (arrOf st) n:=λi j v u=>by rw[same i (aAG _) (by lia),same j (aAG _) u];exact KeyOrd.kle_refl _
    exact aBp (aGi (yO a h0 b (B.setArr<|aGh _ _ _ _) (by lia) (JS (ck t λ_=>KeyOrd.kle_of_klt lt)<|aFK p same) q))
  .rw[ic h];obtain rfl:n=1:=by lia
   exact yO a h0 b B (by lia) (ck (ck (λ_ _ _ z=>absurd z (aEA _)) λz=>absurd z (by decide)) λ_=>KeyOrd.kle_of_klt lt) q
def mO (hO:QV f A s κ)(h0:KeysOf κ a5)(hn:n<=a5.size)(hk:k<=n)(B:TB f a5 st)(S:SortedToK κ (arrOf st) k){Q:Bool->SortSt->Prop}(q:∀t,TB f a5 t->SortedToK κ (arrOf t) n->Q true t):
  wpS (bt prog w) A E s (binarySort' 0 n k) Q st:=by
 rw[binarySort'_eq];simp only[aEj];have S0:SortedToK κ (arrOf st) (min (max k 1) n):=λi j H N=>by
  rcases Nat.eq_or_lt_of_le H with rfl|ar
  .exact KeyOrd.kle_refl _
  .exact S i j H (by lia)
 refine aBp (wpS_mono (Q:=λr t=>r=(none,())/\TB f a5 t/\SortedToK κ (arrOf t) n) (aEk (I:=λx r t=>r=(none,())/\TB f a5 t/\SortedToK κ (arrOf t) (min x n)) (λx r t l1 l2 ⟨e,h,g⟩=>?step) (λr t ⟨e,h,g⟩=>⟨e,h,?fin⟩) ⟨rfl,B,S0⟩) λr t ⟨e,h,g⟩=>?post)
 case step=>
  subst e;rw[aFL (aDb l2)]at g;have O:x<a5.size:=by lia
  let p (l:Nat):Prop:=∀i,i<l->κ.kle (KK κ (arrOf t) i) (KK κ (arrOf t) x)
  let Top (r:Nat):Prop:=∀i,r<=i->i<x->κ.klt (KK κ (arrOf t) x) (KK κ (arrOf t) i)
  refine aBp (wpS_mono (Q:=λd u=>u=t/\∃l r,d=(none,l,r)/\l<=x/\p l/\Top l) (aEk (I:=λy d u=>u=t/\∃l r,d=(none,l,r)/\l<=r/\r<=x/\r-l<=x-y/\p l/\Top r) (λy d u _ y2 ⟨e,l,r,v,T,J,L,lo,o⟩=>?istep) (λd u ⟨e,l,r,v,T,J,L,lo,o⟩=>?ifin)
   ⟨rfl,0,x,rfl,aAG _,aAi _,aAi _,λ_ z=>absurd z (aEA _),λi a b=>absurd (aCq a b) (aBj _)⟩) λd u ⟨e,l,r,v,lx,lo,o⟩=>?ipost)
  case istep=>
   subst e v;show wpS _ _ _ _ (if l>=r then _ else _) _ u;by_cases m:l>=r
   .rw[h9 m];obtain rfl:l=r:=aFH T m;exact aCl ⟨rfl,l,l,rfl,J,lo,o⟩
   .rw[ic m];dsimp only;refine aBp (qk f hO h h0 O (by lia) ?_);cases z:κ.blt (KK κ (arrOf u) x) (KK κ (arrOf u)<|(l+r)/2)with
    |true=>exact aCl ⟨rfl,l,(l+r)/2,rfl,by lia,by lia,by lia,lo,λi a b=>KeyOrd.klt_of_klt_of_kle z (g _ i a b)⟩
    |false=>exact aCl ⟨rfl,(l+r)/2+1,r,rfl,by lia,by lia,by lia,λi a=>KeyOrd.kle_trans (g i ((l+r)/2) (by lia) (by lia)) z,o⟩
  case ifin=>
   subst e v;obtain rfl:l=r:=by lia
   exact⟨rfl,l,l,rfl,J,lo,o⟩
  case ipost=>
   subst e v;have hz:x<(arrOf u).size:=by rw[h.size];exact O
   show wpS _ _ _ _ (do moveDown' x l;pure (aCn (none,()))) _ u;rw[moveDown'_eq];refine aBp (wpS_modify<|aCl ⟨rfl,h.setArr (bubble_perm _ _ _),λi j H N=>?_⟩);have e:∀k,KK κ (arrOf<|setArr u<|bubble (arrOf u) x<|x-l) k=if k=l then KK κ (arrOf u) x else if l<k/\k<=x then KK κ (arrOf u) (k-1)else KK κ (arrOf u) k:=λk=>by have:=KK_bubble (κ:=κ) hz (Nat.sub_le x l) k;rw[show x-(x-l)=l by lia]at this;exact this
   have N:j<x+1:=by lia
   rw[e,e];by_cases U:i=l
   .rw[h9 U];by_cases C:j=l
    .rw[h9 C];exact KeyOrd.kle_refl _
    .rw[ic C,h9 ⟨by lia,by lia⟩];exact KeyOrd.kle_of_klt (o _ (by lia) (by lia))
   .rw[ic U];by_cases C:j=l
    .rw[h9 C,ic λz=>by lia];exact lo i (by lia)
    .rw[ic C];by_cases c3:l<i/\i<=x
     .rw[h9 c3,h9 ⟨by lia,by lia⟩];exact g _ _ (by lia) (by lia)
     .rw[ic c3];by_cases Y:l<j/\j<=x
      .rw[h9 Y];exact g _ _ (by lia) (by lia)
      .rw[ic Y];exact g _ _ H (by lia)
 case fin=>rw[show min (max (max k 1) n) n=n by lia]at g;exact g
 case post=>subst e;exact aCl (q t h g)
def kY (f:Bool)(i:QV f A s κ)(h0:KeysOf κ a5)(B:TB f a5 st)(C:2<=a5.size)(g:a5.size<64){Q:Unit->SortSt->Prop}(q:∀t,(arrOf t).Perm a5->failedOf t=none->SortedToK κ (arrOf t) a5.size->Q () t):wpS (bt prog w) A E s sortRuns' Q st:=by
 have m:minRun' a5.size a5.size 0=a5.size:=by
  generalize H:a5.size=N at*
  cases N with
  |zero=>lia
  |succ N=>rw[minRun'_succ,h9 g]
 let a (t:SortSt):Prop:=(arrOf t).Perm a5/\failedOf t=none/\pendingOf t=#[(0,a5.size,0)]/\SortedToK κ (arrOf t) a5.size
 have done:∀t,TB f a5 t->SortedToK κ (arrOf t) a5.size->a (setPending t<|(pendingOf t).push (0,a5.size,0)):=λt b o=>⟨b.perm,b.failed,(iu (·.push (0,a5.size,0)) b.pend),o⟩;rw[sortRuns'_eq];refine aBp (wpS_get ?_);dsimp only;simp only[B.size,m];refine aBp (wpS_mono (Q:=λr t=>r=(none,a5.size)/\a t) (aEk (I:=λx r t=>(x=0/\r=(none,0)/\TB f a5 t)\/(0<x/\r=(none,a5.size)/\a t)) (λx r t _ J I=>?step) (λr t I=>?fin)<|.inl ⟨rfl,rfl,B⟩) λr t ⟨e,D⟩=>?post)
 case step=>
  rcases I with⟨rfl,rfl,b⟩|⟨L,rfl,D⟩
  .show wpS _ _ _ _ (if 0>=a5.size then _ else _) _ t;rw[ic (by lia)];simp only[Nat.sub_zero,Nat.min_self,aEj];have fin:∀u,TB f a5 u->(pendingOf u).back?=none:=λu d=>by rw[d.pend];rfl
   refine aBp (HQ i h0 (aAi _) (by lia) b λn u d O p j=>?_);show wpS _ _ _ _ (if n<a5.size then _ else _) _ u;by_cases k:n<a5.size
   .rw[h9 k];refine aBp (wpS_lift<|aDO ⟨rfl,aBp (mO i h0 (aAi _) p d j λv l y=>?_)⟩);simp only[aDy,aAu,if_false];refine aBp (wpS_get ?_);rw[fin v l];exact aBp (wpS_modify<|aCl<|.inr ⟨aGB _,rfl,done v l y⟩)
   .rw[ic k];obtain rfl:n=a5.size:=by lia
    refine aBp (wpS_get ?_);rw[fin u d];exact aBp (wpS_modify<|aCl<|.inr ⟨aGB _,rfl,done u d j⟩)
  .show wpS _ _ _ _ (if a5.size>=a5.size then _ else _) _ t;rw[h9 (aAi _)];exact aCl ⟨rfl,D⟩
 case fin=>
  rcases I with⟨z,_⟩|⟨_,e,D⟩
  .lia
  .exact⟨e,D⟩
 case post=>
  subst e;refine aBp (wpS_mono (Q:=λr u=>u=t/\r=(none,())) (aEk (I:=λ_ r u=>u=t/\r=(none,())) (λ_ r u _ _ ⟨e,h⟩=>?istep) (λ_ _ z=>z) ⟨rfl,rfl⟩) λr u ⟨e,h⟩=>?ipost)
  case istep=>subst e h;refine aBp (wpS_get ?_);rw[h9 (by rw[D.2.2.1];exact aAi 1)];exact aCl ⟨rfl,rfl⟩
  case ipost=>subst e h;exact aCl (q _ D.1 D.2.1 D.2.2.2)
end
section
def bx (a:bp)(s d:bb):Prop:=∀b o,b≠a->s.heap.get? b=some o->d.heap.get? b=some o
def xS {P:Fin->bb->Prop}(q:s.heap.get? a=some (seqObj "list" vs.toArray n))(h0:KeysOf κ (pairsOf vs))(y:∀k,bx a s k->QV f A k κ)(t:2<=vs.length->∀k,bx a s k->∀{Q:SortKind->bb->Prop},Q (tupK f) k->bc (bt prog w) A (keyKind' vs.toArray) Q E k)(u:vs.length<64)(h:∀d:SortSt,(arrOf d).Perm (pairsOf vs)->SortedToK κ (arrOf d) (pairsOf vs).size->P (.done (.ret .none)) {s with heap:=sortedHeap s.heap a vs ((arrOf d).map (·.2))}):
  bc (bt prog w) A (Builtin.«list.sort» ⟨[.ref a],[]⟩) P E s:=by
 rw[list_sort_plain];have z:a<s.heap.objs.size:=aAf q;refine aAa (aEm q rfl ?_);refine aAa (listUpdate_at q rfl ?_);obtain⟨v,l⟩:∃v,(s.heap.update a<|aBx λ_=>#[]).get? a=some (seqObj "list" #[] v):=⟨_,get?_update_seq q _⟩;refine aAa (seqEpoch_at l rfl<|aAa<|aGc<|aAa<|wpAny_newList<|aAR ?_);have B:a≠(s.heap.update a<|aBx λ_=>#[]).objs.size:=by rw[Heap.size_update];exact aAk z
 have m:bx a s {s with heap:=((s.heap.update a<|aBx λ_=>#[]).push (seqObj "tuple" vs.toArray 0)).push (seqObj "list" #[] 0)}:=λb o C e=>aAc _ (aAc _<|(aAC _ _<|aBU C).trans e)
 have g:(((s.heap.update a<|aBx λ_=>#[]).push (seqObj "tuple" vs.toArray 0)).push (seqObj "list" #[] 0)).get? a=some (seqObj "list" #[] v):=aAc _ (aAc _ l);show bc (bt prog w) A _ P E {s with heap:=((s.heap.update a<|aBx λ_=>#[]).push (seqObj "tuple" vs.toArray 0)).push (seqObj "list" #[] 0)};dsimp only;have T:vs.toArray.size=vs.length:=by simp
 have p:=h;by_cases r:vs.toArray.size<2
 .rw[h9 r,h9 r];refine aAa (aAb ?_);rw[StateT.run_pure];refine aAa (aAb ?_);dsimp only;refine aAa (seqEpoch_at g rfl (aAa (listUpdate_at g rfl ?_ (hsz2:=by rw[Array.size_map];show(pairsOf vs).size<=_;rw[aEU,aFo];lia))));simp only[bne_self_eq_false,aAu,if_false];refine aAb (p (SortSt.mk' general' (vs.toArray.zip vs.toArray) #[] 7 none) (aGE _) λi j U H=>?_);have:i=j:=by rw[aEU]at H;lia
  subst this;exact KeyOrd.kle_refl _
 .rw[ic r,ic r];refine aAa (t (by lia) _ m ?_);refine aAa (aBG (kY f (κ:=κ) (y _ m) (a5:=pairsOf vs) (st:=SortSt.mk' (tupK f) (vs.toArray.zip vs.toArray) #[] 7 none) (Q:=λ_ d=>(arrOf d).Perm (pairsOf vs)/\failedOf d=none/\SortedToK κ (arrOf d) (pairsOf vs).size)
   h0 ⟨aGE _,rfl,rfl,rfl⟩ (by rw[aEU];lia) (by rw[aEU];exact u) λd I J L=>⟨I,J,L⟩) ?_ λ_ _ e=>e)
  rintro⟨⟨⟩,d⟩ Y ⟨rfl,x,N,O⟩;dsimp only;refine aAa (seqEpoch_at g rfl (aAa (listUpdate_at g rfl ?_ (hsz2:=by refine aAq (aEn<|(Array.size_map ..).trans (x.size_eq.trans<|aEU _)) ?_;rw[aFo];lia))));rw[N];simp only[bne_self_eq_false,aAu,if_false];exact aAb (p d x O)
end
end TS
namespace L2
open PySem PySem.Spec PyProof.Rows
abbrev wW:=Sum Int Str
def KQ:wW->av->Bool
 |.inl k,v=>Value.isInt k v
 |.inr x,v=>Value.isStrOf x v
def a1q (w:cu):wW->Int
 |.inl k=>hashInt k
 |.inr x=>hashStr w x
theorem B0:∀{k:wW} {v:av},KQ k v=true->(∃i t,k=aGr i/\v=aGF i t)\/(∃x t,k=aGs x/\v=Value.str x t)
 |.inl i,v,h=>by obtain⟨t,e⟩:=Value.isInt_shape (k:=i) (v:=v) h;exact .inl ⟨i,t,rfl,e⟩
 |.inr x,v,h=>by obtain⟨t,e⟩:=Value.isStrOf_shape (x:=x) (v:=v) h;exact .inr ⟨x,t,rfl,e⟩
def WH (a b:Int):decide ((aGr a:wW)=aGr b)=(a==b):=by
 by_cases e:a=b
 .subst e;simp
 .have h:¬(aGr a:wW)=aGr b:=λq=>e (Sum.inl.inj q);rw[decide_eq_false h];exact(beq_eq_false_iff_ne.mpr e).symm
def ZB (a b:Str):decide ((aGs a:wW)=aGs b)=decide (a=b):=by
 by_cases e:a=b
 .subst e;simp
 .have h:¬(aGs a:wW)=aGs b:=λq=>e (Sum.inr.inj q);rw[decide_eq_false h,decide_eq_false e]
def ZY (a:Int)(b:Str):decide ((aGr a:wW)=aGs b)=false:=decide_eq_false (λq=>nomatch q)
def WT (a:Str)(b:Int):decide ((aGs a:wW)=aGr b)=false:=decide_eq_false (λq=>nomatch q)
def uC (prog:cp)(w:cu):PySem.KeyKind prog w wW where
 is:=KQ
 hash:=a1q w
 inj:=λv a b l g=>by
  rcases B0 l with⟨i,t,rfl,rfl⟩|⟨x,t,rfl,rfl⟩
  .rcases B0 g with⟨j,u,rfl,e⟩|⟨y,u,rfl,e⟩
   .injection e with d _;rw[d]
   .exact nomatch e
  .rcases B0 g with⟨j,u,rfl,e⟩|⟨y,u,rfl,e⟩
   .exact nomatch e
   .injection e with d _;rw[d]
 byValue:=λk v h=>by rcases B0 h with⟨i,t,rfl,rfl⟩|⟨x,t,rfl,rfl⟩<;>rfl
 pyHash:=λf h=>by
  rcases B0 f with⟨i,t,rfl,rfl⟩|⟨x,t,rfl,rfl⟩
  .exact wpAny_pyHash_int h
  .exact wpAny_pyHash_str h
 eqBool:=λm f h=>by
  rcases B0 m with⟨i,t,rfl,rfl⟩|⟨x,t,rfl,rfl⟩
  .rcases B0 f with⟨j,u,rfl,rfl⟩|⟨y,u,rfl,rfl⟩
   .rw[WH]at h;exact wpAny_eqBool_int h
   .rw[ZY]at h;exact aGm i t y u _ _ _ _ h
  .rcases B0 f with⟨j,u,rfl,rfl⟩|⟨y,u,rfl,rfl⟩
   .rw[WT]at h;exact aGn x t j u _ _ _ _ h
   .rw[ZB]at h;exact wpAny_eqBool_str h
 «strs»:=λk x t v h=>by
  rcases B0 h with⟨i,u,rfl,e⟩|⟨y,u,rfl,e⟩
  .exact nomatch e
  .injection e with d _;subst d;cases v<;>rfl
def ZR (prog:cp)(w:cu)(k:wW)(v:av):(uC prog w).is k v=KQ k v:=rfl
inductive V where
 |non|bl (b:Bool)|int (i:Int)|str (x:Str)|byt (b:Array UInt8)|flt (b:UInt64)|ref (a:Addr)|ty (n:String)
 deriving DecidableEq
def RelV:V->av->Prop
 |.non,u=>u=Value.none
 |.bl b,u=>u=aCJ b
 |.int i,u=>∃t,u=aGF i t
 |.str x,u=>∃t,u=Value.str x t
 |.byt b,u=>∃t,u=Value.bytes b t
 |.flt b,u=>∃t,u=Value.float b t
 |.ref a,u=>u=aCU a
 |.ty n,u=>u=aCr n
abbrev l4:List V->List av->Prop:=Paired RelV
def l4.length {Y:List V}{a:List av}(r:l4 Y a):Y.length=a.length:=Paired.length r
theorem l4.get:∀{Y:List V} {a:List av} {i:Nat} {x:V},l4 Y a->Y[i]?=some x->∃u,a[i]?=some u/\RelV x u
 |_,_,_,_,.nil,e=>by simp at e
 |_,_,0,_,.cons r _,e=>by simp at e;subst e;exact⟨_,rfl,r⟩
 |_,_,i+1,x,.cons _ t,e=>by obtain⟨u,b,d⟩:=l4.get (i:=i) (x:=x) t (by simpa using e);exact⟨u,by simpa using b,d⟩
theorem l4.set (r:RelV x u):∀{Y:List V} {a:List av} (i:Nat),l4 Y a->l4 (Y.set i x) (a.set i u)
 |_,_,_,.nil=>.nil
 |_,_,0,.cons _ t=>.cons r t
 |_,_,i+1,.cons q t=>.cons q (l4.set r i t)
theorem l4.append:∀{Y N:List V} {a ws:List av},l4 Y a->l4 N ws->l4 (Y++N) (a++ws)
 |_,_,_,_,.nil,s=>s
 |_,_,_,_,.cons r t,s=>.cons r (l4.append t s)
theorem l4.take:∀{Y:List V} {a:List av} (n:Nat),l4 Y a->l4 (Y.take n) (a.take n)
 |_,_,0,_=>.nil
 |_,_,_+1,.nil=>.nil
 |_,_,n+1,.cons r t=>.cons r (l4.take n t)
theorem l4.drop:∀{Y:List V} {a:List av} (n:Nat),l4 Y a->l4 (Y.drop n) (a.drop n)
 |_,_,0,r=>r
 |_,_,_+1,.nil=>.nil
 |_,_,n+1,.cons _ t=>l4.drop n t
def ix:Option V->Option av->Prop
 |some v,some u=>RelV v u
 |none,none=>True
 |_,_=>False
def KV {κ:Type}:List (κ×V)->List (κ×av)->Prop:=Paired λ(p:κ×V) (q:κ×av)=>p.1=q.1/\RelV p.2 q.2
def kV:wW->V
 |.inl i=>.int i
 |.inr x=>.str x
inductive HO where
 |lst (Y:List V)
 |tup (Y:List V)
 |dK (J:List (wW×V))|dT (J:List (List wW×V))
 |set (S:Int->Bool) (n:Nat)
 |ins (C dx:Addr) (fs:List (Str×V))
 |own (x:Addr)
 |xd (fs:List (Str×V))
 |met (f x:Addr)
 |rng (lo hi:Int)
 |frz (o:Obj) (u:HO)
 |tbl (tb:List (Pos×Str))
 |ext (φ:Heap->Prop)
abbrev Hp:=bp->Option HO
def upd (H:Hp)(a:bp)(o:HO):Hp:=λb=>if b=a then some o else H b
def i9:upd H a o a=some o:=by unfold upd;rw[h9 rfl]
def k9 (h:b≠a):upd H a o b=H b:=by unfold upd;rw[ic h]
def p9 {H:Hp}{a b:bp}{o:HO}(h:H a=some o)(h':H b=none):a≠b:=by intro e;subst e;rw[h]at h';cases h'
section
variable(P:cp) (w:cu)
def ObjOk (H:Hp)(h:cy)(a:bp):HO->Prop
 |.lst Y=>Y.length<=sizeLine/\∃(b:List av) (n:Nat),l4 Y b/\h.get? a=some {cls:=.type "list",data:=.seq b.toArray n}
 |.tup Y=>Y.length<=sizeLine/\∃b:List av,l4 Y b/\IsTup h a b.toArray
 |.dK J=>J.length<=sizeLine/\(a==sysModules)=false/\∃e,KV J e/\h.DictOf (uC P w) a e
 |.dT J=>J.length<=sizeLine/\(a==sysModules)=false/\∃Y:List (List wW×bp×av),
  Paired (λ(p:List wW×V) (q:List wW×bp×av)=>p.1=q.1/\H q.2.1=some (.tup (p.1.map kV))/\RelV p.2 q.2.2) J Y/\
  ∃o j r,h.get? a=some o/\o.ExactDict/\o.data=.dict j r/\j.toList=Y.map (entryOfKey<|tupleKind<|uC P w)/\(Y.map (·.1)).Nodup
 |.set S n=>h.SetOf (intKind P w) a S n
 |.ins C g fs=>H g=some (.own a)/\fs.length<=1000/\g≠a/\h.get? a=some (PySem.W.instObj C g)/\
  ∃d,h.Ns1 g d/\(∀f,ix (fs.lookup f) (d f))/\PySem.Within d (fs.map (·.1))
 |.own _=>∃o,h.get? a=some o
 |.xd fs=>∃d,h.Ns1 a d/\∀f,ix (fs.lookup f) (d f)
 |.rng lo s=>∃t u v,h.get? a=some {cls:=.type "range",data:=.fields #[.int lo t,.int s u,.int 1 v]}
 |.frz o u=>h.get? a=some o/\ObjOk H h a u
 |.tbl y=>∃i:Array av,h.get? a=some {cls:=.none,data:=.fields i}/\TriplesOk i.toList/\∀p∈y,fo p.1 i.toList=none\/∃c k e t,fo p.1 i.toList=some (.ref c)/\H c=some (.frz k (.own c))/\k.data=.fields e/\e[1]?=some (.str p.2 t)
 |.met f x=>h.get? a=some (PySem.W.methodObj (.ref f)<|.ref x)
 |.ext φ=>φ h/\(∃o,h.get? a=some o)/\∀l m:cy,φ l->(∀o,l.get? a=some o->m.get? a=some o)->φ m
def UQ:HO->Prop
 |.tup _=>True
 |.frz o _=>∃a,o.data=.fields a
 |_=>False
def Y3 (H:Hp)(h:cy):Prop:=∀a o,H a=some o->ObjOk P w H h a o
end
section
variable{P:cp} {w:cu} {H H':Hp} {h h':cy} {a:bp} {o:HO}
def ObjOk.lt (x:ObjOk P w H h a o):a<h.objs.size:=by
 cases o with
 |lst Y=>obtain⟨_,_,_,_,e⟩:=x;exact aAf e
 |tup Y=>obtain⟨_,_,_,p⟩:=x;exact p.lt
 |dK J=>obtain⟨_,_,_,_,o,_,_,e,_⟩:=x;exact aAf e
 |dT J=>obtain⟨_,_,_,_,o,_,_,e,_⟩:=x;exact aAf e
 |set S n=>obtain⟨o,_,_,_,e,_⟩:=x;exact aAf e
 |ins C b fs=>obtain⟨_,_,_,e,_⟩:=x;exact aAf e
 |own y=>obtain⟨_,e⟩:=x;exact aAf e
 |xd fs=>obtain⟨_,⟨_,_,_,e,_⟩,_⟩:=x;exact aAf e
 |rng lo d=>obtain⟨_,_,_,e⟩:=x;exact aAf e
 |frz g u=>obtain⟨e,_⟩:=x;exact aAf e
 |tbl i=>obtain⟨_,e,_⟩:=x;exact aAf e
 |met f y=>exact aAf (show h.get? a=some _ from x)
 |ext φ=>obtain⟨_,⟨_,e⟩,_⟩:=x;exact aAf e
theorem Paired.af2 {α β:Type}{F G:α->β->Prop}:∀{l₁:List α} {l₂:List β},Paired F l₁ l₂->(∀a b,F a b->G a b)->Paired G l₁ l₂
 |_,_,.nil,_=>.nil
 |_,_,.cons r t,f=>.cons (f _ _ r) (Paired.af2 t f)
def ObjOk.ab5 (x:ObjOk P w H h a o)(k:∀b u,(b=a\/H b=some (.own a))->h.get? b=some u->h'.get? b=some u)
  (L:∀b,H b=some (.own a)->H' b=some (.own a)) (E:∀b u,UQ u->H b=some u->H' b=some u):ObjOk P w H' h' a o:=by
 induction o with
 |lst Y=>obtain⟨z,l,n,r,e⟩:=x;exact⟨z,l,n,r,k _ _ (.inl rfl) e⟩
 |tup Y=>obtain⟨z,l,r,g,e,c⟩:=x;exact⟨z,l,r,g,k _ _ (.inl rfl) e,c⟩
 |dK J=>obtain⟨z,y,m,r,g,i,j,e,c⟩:=x;exact⟨z,y,m,r,g,i,j,k _ _ (.inl rfl) e,c⟩
 |dT J=>obtain⟨z,y,Y,r,g,i,j,e,c⟩:=x;exact⟨z,y,Y,Paired.af2 r λp q z=>⟨z.1,E _ _ trivial z.2.1,z.2.2⟩,g,i,j,k _ _ (.inl rfl) e,c⟩
 |set S n=>obtain⟨g,i,j,t,e,c⟩:=x;exact⟨g,i,j,t,k _ _ (.inl rfl) e,c⟩
 |ins C dx fs=>obtain⟨d,z,ne,e,s,⟨A,i,j,B,c⟩,r⟩:=x;exact⟨L _ d,z,ne,k _ _ (.inl rfl) e,s,⟨A,i,j,k _ _ (.inr d) B,c⟩,r⟩
 |own y=>obtain⟨g,e⟩:=x;exact⟨g,k _ _ (.inl rfl) e⟩
 |xd fs=>obtain⟨s,⟨A,i,j,e,c⟩,r⟩:=x;exact⟨s,⟨A,i,j,k _ _ (.inl rfl) e,c⟩,r⟩
 |rng lo hi=>obtain⟨t,u,v,e⟩:=x;exact⟨t,u,v,k _ _ (.inl rfl) e⟩
 |frz g u N=>obtain⟨e,q⟩:=x;exact⟨k _ _ (.inl rfl) e,N q⟩
 |tbl tb=>obtain⟨O,e,t,f⟩:=x;exact⟨O,k a _ (.inl rfl) e,t,λp Q=>(f p Q).imp id λ⟨c,T,m,t,U,B,I⟩=>⟨c,T,m,t,U,E _ _ ⟨m,I.1⟩ B,I⟩⟩
 |met f y=>have e:h.get? a=some (PySem.W.methodObj (.ref f)<|.ref y):=x;show h'.get? a=some (PySem.W.methodObj (.ref f)<|.ref y);exact k a _ (.inl rfl) e
 |ext φ=>obtain⟨p,⟨o,e⟩,st⟩:=x;exact⟨st _ _ p λo q=>k _ _ (.inl rfl) q,⟨o,k _ _ (.inl rfl) e⟩,st⟩
def Y3.lt (x:Y3 P w H h)(e:H a=some o):a<h.objs.size:=(x a o e).lt
def Y3.fresh (x:Y3 P w H h)(e:h.objs.size<=a):H a=none:=by
 cases q:H a with
 |none=>rfl
 |some u=>exact absurd (aAr (x.lt q) e) (aBj _)
def Y3.kept (x:Y3 P w H h)(k:∀b u,h.get? b=some u->h'.get? b=some u):Y3 P w H h':=λa o e=>(x a o e).ab5 (λb u _ q=>k b u q) (λ_ q=>q) λ_ _ _ q=>q
def Y3.laid (x:Y3 P w H h)(k:∀b u,h.get? b=some u->h'.get? b=some u)(i:h.objs.size<=a)(d:ObjOk P w (upd H a o) h' a o):Y3 P w (upd H a o) h':=λb u e=>by
 have f:=x.fresh i;by_cases g:b=a
 .subst g;rw[i9]at e;cases e;exact d
 .rw[k9 g]at e;exact(x b u e).ab5 (λc v _ q=>k c v q) (λc q=>by rw[k9 (p9 q f)];exact q) λc Y _ q=>by rw[k9 (p9 q f)];exact q
end
def Rd (H:Hp)(a:bp)(u:HO):Prop:=H a=some u\/∃o,H a=some (.frz o u)
def Rd.ok (r:Rd H a u)(x:Y3 P w H h):ObjOk P w H h a u:=by
 rcases r with r|⟨o,r⟩
 .exact x a u r
 .obtain⟨_,q⟩:=x a _ r;exact q
def zw:Option HO->Prop
 |some (.lst _)=>True
 |some (.dK _)=>True
 |some (.dT _)=>True
 |some (.set _ _)=>True
 |some (.ins _ _ _)=>True
 |some (.ext _)=>True
 |_=>False
section
variable{P:cp} {w:cu} {H:Hp} {h h':cy} {x e:bp} {o':HO}
def Y3.write (ok:Y3 P w H h)(g:zw (H x))(o:e=x\/H e=some (.own x))(k:∀b u,b≠e->h.get? b=some u->h'.get? b=some u)(m:∃u,h'.get? e=some u)
  (n:ObjOk P w (upd H x o') h' x o'):Y3 P w (upd H x o') h':=λb u q=>by
 have a:∀c y,H c=some (.own y)->c≠x:=λc y r z=>by subst z;rw[r]at g;exact g
 have d:∀c u,UQ u->H c=some u->c≠x:=λc u f r z=>by subst z;rw[r]at g;cases u<;>first|exact g|exact f
 by_cases i:b=x
 .subst i;rw[i9]at q;cases q;exact n
 .rw[k9 i]at q;by_cases j:b=e
  .have p:H b=some (.own x):=by
    rcases o with z|z
    .exact absurd (j.trans z) i
    .rw[j];exact z
   rw[q]at p;cases p;obtain⟨v,s⟩:=m;exact⟨v,by rw[j];exact s⟩
  .refine(ok b u q).ab5 (λc v l r=>k c v ?_ r) (λc r=>by rw[k9 (a c b r)];exact r) λc Y f r=>by rw[k9 (d c Y f r)];exact r
   rcases l with rfl|l
   .exact j
   .rintro rfl;rcases o with z|z
    .exact a c b l z
    .rw[l]at z;cases z;exact i rfl
end
structure Un (fs ex:List Addr)(H H':Hp)(h h':Heap):Prop where
 keep:∀b o,h.get? b=some o->H b=none->b∉fs->b∉ex->h'.get? b=some o
 slot:∀b o,h.get? b=some o->H b=none->b∈fs->b∉ex->∃sl,h'.get? b=some {o with slots:=sl}
 free:∀b o,h.get? b=some o->H b=none->b∉ex->H' b=none
 there:∀b o,h.get? b=some o->b∉ex->∃o',h'.get? b=some o'
 tups:∀b Y,H b=some (.tup Y)->H' b=some (.tup Y)
 frzs:∀b o u,H b=some (.frz o u)->H' b=some (.frz o u)
 tbls:∀b tb,H b=some (.tbl tb)->H' b=some (.tbl tb)
section
variable{fs xv ex ex':List bp} {H H1 H2:Hp} {h h1 h2 h':cy} {a x e:bp} {o:HO}
def Un.any (u:Un fs ex H H1 h h1)(q:h.get? b=some d)(n:H b=none)(f:b∉ex):∃sl,h1.get? b=some {d with slots:=sl}:=by
 by_cases g:b∈fs
 .exact u.slot b d q n g f
 .exact⟨d.slots,u.keep b d q n g f⟩
def Un.kept (k:∀b u,h.get? b=some u->h'.get? b=some u):Un fs ex H H h h':=
 ⟨λb d q _ _ _=>k b d q,λb d q _ _ _=>⟨d.slots,k b d q⟩,λ_ _ _ n _=>n,λb d q _=>⟨d,k b d q⟩,λ_ _ q=>q,λ_ _ _ q=>q,λ_ _ q=>q⟩
def Un.refl:Un fs ex H H h h:=Un.kept λ_ _ q=>q
def Un.laid (k:∀b u,h.get? b=some u->h'.get? b=some u)(f:h.objs.size<=a)(d:H a=none):Un fs ex H (upd H a o) h h' where
 keep:=λb u q _ _ _=>k b u q
 slot:=λb u q _ _ _=>⟨u.slots,k b u q⟩
 free:=λb u q n _=>by rw[k9 (aAk<|aAr (aAf q) f)];exact n
 there:=λb u q _=>⟨u,k b u q⟩
 tups:=λb Y q=>by rw[k9 (p9 q d)];exact q
 frzs:=λb u Y q=>by rw[k9 (p9 q d)];exact q
 tbls:=λb g q=>by rw[k9 (p9 q d)];exact q
def Un.write (d:zw (H x))(m:e=x\/H e=some (.own x))(k:∀b u,b≠e->h.get? b=some u->h'.get? b=some u)(f:∃u,h'.get? e=some u):Un fs ex H (upd H x o) h h':=by
 have i:∀b,H b=none->b≠x:=λb n z=>by subst z;rw[n]at d;exact d
 have j:∀b,H b=none->b≠e:=λb n z=>by
  subst z;rcases m with r|r
  .exact i b n r
  .rw[n]at r;cases r
 have g:∀b u,H b=some u->¬zw (some u)->b≠x:=λb u q p z=>by subst z;rw[q]at d;exact p d
 refine⟨λb u q n _ _=>k b u (j b n) q,λb u q n _ _=>⟨u.slots,k b u (j b n) q⟩,λb u q n _=>by rw[k9 (i b n)];exact n,λb u q _=>?_,
  λb Y q=>by rw[k9 (g b _ q λz=>z)];exact q,λb u Y q=>by rw[k9 (g b _ q λz=>z)];exact q,λb s q=>by rw[k9 (g b _ q λz=>z)];exact q⟩
 by_cases l:b=e
 .subst l;exact f
 .exact⟨u,k b u l q⟩
end
def trk (h:cy)(H:Hp):List bp:=(aAU h.objs.size).filter λa=>(H a).isSome
def qC (h:cy)(H:Hp):cy:=PySem.W.hideAll h (trk h H)
def GV (h:cy)(H:Hp):(qC h H).objs.size=h.objs.size:=PySem.W.hideAll_size _ _
def KJ (e:h.get? b=some o)(n:H b=none):(qC h H).get? b=some o:=
 PySem.W.hideAll_get _ e λa=>by have q:(H b).isSome=true:=(aAx.mp a).2;rw[n]at q;simp at q
def RH (e:(qC h H).get? b=some o):h.get? b=some o/\H b=none:=by
 have a:h.get? b=some o:=PySem.W.of_hideAll (trk h H) e;refine⟨a,?_⟩;cases q:H b with
 |none=>rfl
 |some x=>have d:b∈trk h H:=aAx.mpr ⟨aBm.mpr (aAf a),by simp[q]⟩;have z:(qC h H).get? b=none:=PySem.W.hideAll_none (trk h H) d;rw[z]at e;cases e
def QQ (g h:cy)(L:bp):List (bp×Obj):=(aAU h.objs.size).filterMap λa=>if a=L\/(g.get? a).isSome=true then none else(h.get? a).map λo=>(a,o)
def rest (g h:cy)(L d:bp):List (bp×Obj):=(QQ g h L).filter λp=>decide (p.1≠d)
structure Mod (K:PySem.W.Frag)(mg:W6)(base:Heap):Prop where
 kin:K.In base
 glob:base.Ns mainGlobals mg
 blt:∃mb,base.Ns builtinsNs mb/\∀x:Str,x≠ "__name__"->mb x=bootBuiltins x
 nolimit:base.NoLimit
structure Cx where
 prog:Program
 w:World
 K:PySem.W.Frag
 mg:Str->Option Value
 base:Heap
 A:Around
 N:List Str
 sa:Shared
 Ha:Hp
 env:Env
 outer:List Env
 stack:List Env
 ex:List Addr
 fn:Str->Bool
 calm:Bool
 pn:List (Addr×Obj)
 xe:Value->Shared->Prop
def V6 (l:List Env):List bp:=l.filterMap (·.frame)
abbrev Cx.fs (X:Cx):List bp:=V6 X.outer
def tE (sc:gW)(x:Str):Prop:=sc.names.lookup x=some .local\/sc.names.lookup x=some .cell\/sc.names.lookup x=some .free
def Loc (sc:gW)(x:Str):Prop:=sc.names.lookup x=some .local\/sc.names.lookup x=some .cell
def Look (env:Env)(h:cy)(m:W6)(x:Str)(u:av):Prop:=
 (env.kindOf x=some .local/\m x=some u)\/((env.kindOf x=some .cell\/env.kindOf x=some .free)/\∃c,env.cells.lookup x=some c/\h.IsCell c (some u))
structure Cx.Ok (X:Cx):Prop where
 mod:Mod X.K X.mg X.base
 kind:X.env.scope.kind=.function
 glob:X.env.globals=mainGlobals
 blt:X.env.builtins=builtinsNs
 above:X.sa.heap.objs.size<=X.env.locals
 inj:∀x y c,X.env.cells.lookup x=some c->X.env.cells.lookup y=some c->x=y
 has:∀x,(X.env.kindOf x=some .cell\/X.env.kindOf x=some .free)->∃c,X.env.cells.lookup x=some c
 cab:∀x c,X.fn x=true->X.env.cells.lookup x=some c->X.sa.heap.objs.size<=c
 hd:X.calm=true->X.A.handled=none
 frames:X.A.frames=some X.stack
 stk:X.stack=X.outer\/(X.stack=X.env::X.outer/\X.env.frame=some X.env.locals)
 exf:∀b∈X.ex,b≠X.env.locals/\∀x c,X.env.cells.lookup x=some c->c≠b
 bs:∀b o,X.base.get? b=some o->X.sa.heap.get? b=some o/\X.Ha b=none
 bsz:X.base.objs.size<=X.sa.heap.objs.size
 noex:∀b o,X.base.get? b=some o->b∉X.ex
 exfs:∀b∈X.ex,b∉X.fs
 funs:X.sa.heap.FunFrames X.base X.outer
 frf:∀b∈X.fs,X.Ha b=none
structure Inv (X:Cx)(pins:K6)(σ:List (Option V))(H:Hp)(s:Shared):Prop where
 ok:X.Ok
 os:s.os=X.sa.os
 bare:AllBare s.gens
 base:Un X.fs X.ex X.Ha H X.sa.heap s.heap
 loc:∃m,s.heap.Ns X.env.locals m/\∀(i:Nat) (x:Str) (v:V),X.N[i]?=some x->σ[i]?=some (some v)->tE X.env.scope x->∃u,RelV v u/\Look X.env s.heap m x u
 cell:∀x c,X.env.cells.lookup x=some c->∃v,s.heap.IsCell c v
 free:H X.env.locals=none
 freeC:∀x c,X.env.cells.lookup x=some c->H c=none
 pin:∀p∈X.pn++pins,s.heap.get? p.1=some p.2/\H p.1=none/\p.1≠X.env.locals/\p.1∉X.fs/\∀v,p.2.data≠.cell v
 hok:Y3 X.prog X.w H s.heap
 len:σ.length=X.N.length
section
variable{X:Cx} {pins:K6} {σ:List (Option V)} {H H':Hp} {s:bb} {h':cy}
def Cx.Ok.nofr (ok:X.Ok)(e:X.base.get? b=some o):b∉X.fs:=λa=>by have:=(ok.funs.mem a).1;rw[e]at this;cases this
def Inv.bs (I:Inv X pins σ H s):∀b o,X.base.get? b=some o->s.heap.get? b=some o/\H b=none:=λb o e=>⟨I.base.keep b o (I.ok.bs b o e).1 (I.ok.bs b o e).2 (I.ok.nofr e) (I.ok.noex b o e),I.base.free b o (I.ok.bs b o e).1 (I.ok.bs b o e).2 (I.ok.noex b o e)⟩
def Inv.bk (I:Inv X pins σ H s):∀b o,X.base.get? b=some o->s.heap.get? b=some o:=λb o e=>(I.bs b o e).1
def Inv.mod (I:Inv X pins σ H s):Mod X.K X.mg X.base:=I.ok.mod
def Inv.kIn (I:Inv X pins σ H s):X.K.In s.heap:=I.ok.mod.kin.keeps I.bk
def Inv.lt (I:Inv X pins σ H s):X.env.locals<s.heap.objs.size:=let⟨_,a,_⟩:=I.loc;a.lt
def Inv.sz (I:Inv X pins σ H s):X.sa.heap.objs.size<=s.heap.objs.size:=aAq I.ok.above (aDb I.lt)
def Inv.ag4 (I:Inv X pins σ H s)(h:s.heap.objs.size<=a):a∉X.fs:=λb=>by obtain⟨_,o,d,_⟩:=I.ok.funs.mem b;exact absurd (aAr (aAf d)<|aAq I.sz h) (aBj _)
def Inv.cne (I:Inv X pins σ H s):∀x c,X.env.cells.lookup x=some c->c≠X.env.locals:=λx c e z=>by obtain⟨v,o,a,b⟩:=I.cell x c e;obtain⟨m,⟨g,h,i,d,f,_⟩,_⟩:=I.loc;rw[z,d]at a;cases a;rw[f]at b;cases b
def Inv.funs (I:Inv X pins σ H s):s.heap.FunFrames X.base X.outer:=by
 have all:∀(l:List Env),(∀b∈V6 l,b∈X.fs)->X.sa.heap.FunFrames X.base l->s.heap.FunFrames X.base l:=by
  intro l;induction l with
  |nil=>intro _ _;trivial
  |cons h r i=>intro g j;obtain⟨k,⟨L,o,a,m,n,p⟩,q⟩:=j;have d:L∈X.fs:=g L (by unfold V6;rw[aCi,a];exact aBn);obtain⟨t,e⟩:=I.base.slot L o n (I.ok.frf L d) d λz=>I.ok.exfs L z d;exact⟨k,⟨L,_,a,m,e,p⟩,i (λb f=>g b (by unfold V6;rw[aCi,a];exact aAe _ f)) q⟩
 exact all X.outer (λ_ f=>f) I.ok.funs
def Inv.stack (I:Inv X pins σ H s):s.heap.FunFrames X.base X.stack:=by
 rcases I.ok.stk with e|⟨e,a⟩
 .rw[e];exact I.funs
 .rw[e];obtain⟨m,b,_⟩:=I.loc;refine .cons (by rw[I.ok.kind];decide) a b ?_ I.funs;exact aEw (aAq I.ok.bsz I.ok.above)
def Inv.ab3 (I:Inv X pins σ H s):∀b∈V6 X.stack,b∈X.env.locals::X.fs:=λb a=>by
 rcases I.ok.stk with e|⟨e,d⟩
 .rw[e]at a;exact aAe _ a
 .rw[e]at a;unfold V6 at a;rw[aCi,d]at a;exact a
def Inv.ab7 (I:Inv X pins σ H s):∀b∈V6 X.stack,H b=none:=λb a=>by
 rcases aAd.mp (I.ab3 b a)with e|a
 .rw[e];exact I.free
 .obtain⟨_,o,d,_⟩:=I.ok.funs.mem a;exact I.base.free b o d (I.ok.frf b a) λz=>I.ok.exfs b z a
def Inv.step {g':Array GenState}{t':Nat}{d':Drawn}{ch:List bp}(I:Inv X pins σ H s)
  (E:∀b∈ch,(b∈X.ex\/X.sa.heap.objs.size<=b)/\b≠X.env.locals/\(∀x c,X.env.cells.lookup x=some c->c≠b)/\∀p∈X.pn++pins,p.1≠b)
  (g:∀b o,b≠X.env.locals->b∉X.fs->b∉ch->s.heap.get? b=some o->H b=none->h'.get? b=some o)
  (slot:∀b o,b≠X.env.locals->b∈X.fs->b∉ch->s.heap.get? b=some o->H b=none->∃sl,h'.get? b=some {o with slots:=sl}) (f:∀b o,b∉ch->s.heap.get? b=some o->H b=none->H' b=none)
  (y:∀b o,b∉ch->s.heap.get? b=some o->∃J,h'.get? b=some J)
  (L:∀b Y,H b=some (.tup Y)->H' b=some (.tup Y)) (N:∀b o u,H b=some (.frz o u)->H' b=some (.frz o u)) (O:∀b tb,H b=some (.tbl tb)->H' b=some (.tbl tb))
  (ns:∀m,s.heap.Ns X.env.locals m->h'.Ns X.env.locals m) (T:Y3 X.prog X.w H' h') (hg:AllBare g'):
  Inv X pins σ H' {s with heap:=h',gens:=g',drawn:=d',toks:=t'}:=by
 have Q:∀b o,X.sa.heap.get? b=some o->b≠X.env.locals:=λb o e=>aAk (aAr (aAf e) I.ok.above);have t:∀b o,X.sa.heap.get? b=some o->b∉X.ex->b∉ch:=λb o e a A=>by
  rcases(E b A).1 with z|z
  .exact a z
  .exact absurd (aAr (aAf e) z) (aBj _)
 have h:∀x c,X.env.cells.lookup x=some c->∀v,s.heap.IsCell c v->h'.IsCell c v:=λx c e v ⟨o,C,U⟩=>by
  have j:c∉ch:=λz=>(E c z).2.2.1 x c e rfl;by_cases hc:c∈X.fs
  .obtain⟨sl,q⟩:=slot c o (I.cne x c e) hc j C (I.freeC x c e);exact⟨_,q,U⟩
  .exact⟨o,g c o (I.cne x c e) hc j C (I.freeC x c e),U⟩
 refine⟨I.ok,I.os,hg,⟨λb o e n A a=>?_,λb o e n A a=>?_,λb o e n a=>?_,λb o e a=>?_,λb Y e=>L b Y (I.base.tups b Y e),λb o Y e=>N b o Y (I.base.frzs b o Y e),λb ps e=>?_⟩,?_,λx c e=>?_,?_,λx c e=>?_,λp hp=>?_,T,I.len⟩
 .exact g b o (Q b o e) A (t b o e a) (I.base.keep b o e n A a) (I.base.free b o e n a)
 .obtain⟨sl,B⟩:=I.base.slot b o e n A a;obtain⟨sl',e2⟩:=slot b _ (Q b o e) A (t b o e a) B (I.base.free b o e n a);exact⟨sl',e2⟩
 .obtain⟨J,B⟩:=I.base.there b o e a;exact f b J (t b o e a) B (I.base.free b o e n a)
 .obtain⟨J,B⟩:=I.base.there b o e a;exact y b J (t b o e a) B
 .exact O b ps (I.base.tbls b ps e)
 .obtain⟨m,hn,hl⟩:=I.loc;refine⟨m,ns m hn,λi x v B e2 e3=>?_⟩;obtain⟨u,r,l⟩:=hl i x v B e2 e3;refine⟨u,r,?_⟩;rcases l with l|⟨k,c,e,z⟩
  .exact .inl l
  .exact .inr ⟨k,c,e,h x c e _ z⟩
 .obtain⟨v,z⟩:=I.cell x c e;exact⟨v,h x c e v z⟩
 .obtain⟨m,⟨o,_,_,C,_⟩,_⟩:=I.loc;exact f _ o (λz=>(E _ z).2.1 rfl) C I.free
 .obtain⟨v,o,C,U⟩:=I.cell x c e;exact f c o (λz=>(E c z).2.2.1 x c e rfl) C (I.freeC x c e)
 .obtain⟨e,n,ne,nf,d⟩:=I.pin p hp;have j:p.1∉ch:=λz=>(E p.1 z).2.2.2 p hp rfl;exact⟨g p.1 p.2 ne nf j e n,f p.1 p.2 j e n,ne,nf,d⟩
def Inv.un {t':Nat}(I:Inv X pins σ H s)(u:Un X.fs [] H H' s.heap h')(a:Y3 X.prog X.w H' h'):Inv X pins σ H' {s with heap:=h',toks:=t'}:=by
 obtain⟨m,⟨o,p,q,h,r⟩,_⟩:=id I.loc;obtain⟨t,j⟩:=u.any h I.free (by simp);exact I.step (g':=s.gens) (d':=s.drawn) (ch:=[]) (λ_ z=>nomatch z) (λb o _ d _ e n=>u.keep b o e n d (by simp)) (λb o _ d _ e n=>u.slot b o e n d (by simp)) (λb o _ e n=>u.free b o e n (by simp)) (λb o _ e=>u.there b o e (by simp)) u.tups u.frzs u.tbls (λv k=>by obtain⟨x,f,g,i,l⟩:=k;rw[h]at i;cases i;exact⟨_,f,g,j,l⟩) a I.bare
def Inv.call {g':Array GenState}{t':Nat}{d':Drawn}{ch:List bp}(I:Inv X pins σ H s)(u:Un (V6 X.stack) ch H H' s.heap h')(d:Y3 X.prog X.w H' h')(l:AllBare g')
  (i:∀b∈ch,(b∈X.ex\/X.sa.heap.objs.size<=b)/\b≠X.env.locals/\(∀x c,X.env.cells.lookup x=some c->c≠b)/\∀p∈X.pn++pins,p.1≠b):
  Inv X pins σ H' {s with heap:=h',gens:=g',drawn:=d',toks:=t'}:=by
 obtain⟨m,⟨o,y,A,j,r⟩,_⟩:=id I.loc;obtain⟨B,f⟩:=u.any j I.free λz=>(i _ z).2.1 rfl;exact I.step (ch:=ch) i (λb o f q a e n=>u.keep b o e n (λz=>(aAd.mp<|I.ab3 b z).elim f q) a) (λb o _ _ a e n=>u.any e n a) (λb o a e n=>u.free b o e n a) (λb o a e=>u.there b o e a) u.tups u.frzs u.tbls (λC t=>by obtain⟨E,g,h,k,v⟩:=t;rw[j]at k;cases k;exact⟨_,g,h,f,v⟩) d l
def Inv.turned {t':Nat}{it:bp}(I:Inv X pins σ H s)(k:∀b o,b≠it->s.heap.get? b=some o->h'.get? b=some o)(g:H it=none)(f:it≠X.env.locals)
  (h:it∈X.ex\/X.sa.heap.objs.size<=it) (i:∀x c,X.env.cells.lookup x=some c->c≠it) (j:∀p∈X.pn++pins,p.1≠it):Inv X pins σ H {s with heap:=h',toks:=t'}:=by
 have d:∀b u,H b=some u->b≠it:=λb u e z=>by rw[z,g]at e;cases e
 refine I.step (g':=s.gens) (d':=s.drawn) (ch:=[it]) (λb l=>?_) (λb o _ _ a e _=>k b o (λz=>a (by simp[z])) e) (λb o _ _ a e _=>⟨o.slots,k b o (λz=>a (by simp[z])) e⟩) (λ_ _ _ _ n=>n)
  (λb o a e=>⟨o,k b o (λz=>a (by simp[z])) e⟩) (λ_ _ e=>e) (λ_ _ _ e=>e) (λ_ _ e=>e) (λm t=>?_) (λb u e=>?_) I.bare
 .have e:b=it:=by simpa using l
  subst e;exact⟨h,f,i,j⟩
 .obtain⟨o,w,y,A,r⟩:=t;exact⟨o,w,y,k _ o (aBU f) A,r⟩
 .refine(I.hok b u e).ab5 (λc v a q=>k c v ?_ q) (λ_ q=>q) λ_ _ _ q=>q;rcases a with z|z
  .rw[z];exact d b u e
  .exact d c _ z
def Inv.tok (I:Inv X pins σ H s)(t:Nat):Inv X pins σ H {s with toks:=t}:=I.un (h':=s.heap) (t':=t) Un.refl I.hok
def Inv.kept (I:Inv X pins σ H s)(k:∀b u,s.heap.get? b=some u->h'.get? b=some u):Inv X pins σ H {s with heap:=h',toks:=t'}:=I.un (Un.kept k) (I.hok.kept k)
def Inv.laid (I:Inv X pins σ H s)(k:∀b u,s.heap.get? b=some u->h'.get? b=some u)(d:s.heap.objs.size<=a)(e:ObjOk X.prog X.w (upd H a o) h' a o):
 Inv X pins σ (upd H a o) {s with heap:=h',toks:=t'}:=I.un (Un.laid k d<|I.hok.fresh d) (I.hok.laid k d e)
def Inv.write (I:Inv X pins σ H s)(f:zw (H x))(g:e=x\/H e=some (.own x))(k:∀b u,b≠e->s.heap.get? b=some u->h'.get? b=some u)(a:∃u,h'.get? e=some u)(d:ObjOk X.prog X.w (upd H x o) h' x o):Inv X pins σ (upd H x o) {s with heap:=h',toks:=t'}:=I.un (Un.write f g k a) (I.hok.write f g k a d)
def Inv.ad3 (I:Inv X pins σ H s)(h:∀p∈a,s.heap.get? p.1=some p.2/\H p.1=none/\p.1≠X.env.locals/\p.1∉X.fs/\∀v,p.2.data≠.cell v):Inv X a σ H s:=
 ⟨I.ok,I.os,I.bare,I.base,I.loc,I.cell,I.free,I.freeC,λp b=>(aAX.mp b).elim (λz=>I.pin p (aBI _ z)) (h p),I.hok,I.len⟩
def pI {N:List Str}(d:N.Nodup){i j:Nat}{x:Str}(a:N[i]?=some x)(b:N[j]?=some x):i=j:=by obtain⟨g,e⟩:=aAy.mp a;obtain⟨h,f⟩:=aAy.mp b;exact(List.getElem_inj d).mp (e.trans f.symm)
def qN {M:hV}{A:cq}{E:D3}{i:Nat}{x:Str}{v:V}{u:av}{Q:Unit->bb->Prop}(I:Inv X pins σ H s)(hN:X.N.Nodup)(T:X.N[i]?=some x)(B:Loc X.env.scope x)(r:RelV v u)
  (h:∀s',Inv X pins (σ.set i (some v)) H s'->(∃a,Heap.SameBut a s.heap s'.heap/\(a=X.env.locals\/X.env.cells.lookup x=some a))->Q () s') (hf:X.fn x=true\/X.env.scope.names.lookup x=some .local:=by first|exact .inl rfl|exact .inr rfl|assumption):bc M A (storeName X.env x u) Q E s:=by
 obtain⟨m,hn,hl⟩:=id I.loc;have U:(X.env.scope.kind==.class||(X.env.scope.kind==.module&&X.env.locals !=X.env.globals))=false:=by rw[I.ok.kind];rfl
 have yr:i<σ.length:=by rw[I.len];exact(aAy.mp T).1
 have cne:=I.cne;have g:∀{a:bp} {h':cy},(∃o,s.heap.get? a=some o/\H a=none)->Heap.SameBut a s.heap h'->Y3 X.prog X.w H h':=λ{a h'} ha f b ob e=>by
  obtain⟨_,_,jn⟩:=ha;refine(I.hok b ob e).ab5 (λc w' t q=>(f.2 c ?_).trans q) (λ_ q=>q) λ_ _ _ q=>q;rintro rfl;rcases t with rfl|t
  .rw[jn]at e;cases e
  .rw[jn]at t;cases t
 rcases B with J|J
 .refine wpAny_storeName_local J hn (λh' hn' f=>?_) U;obtain⟨oL,_,_,hoL,_⟩:=id hn;refine h _ ⟨I.ok,I.os,I.bare,⟨λb o e n L B=>?_,λb o e n L B=>?_,I.base.free,λb o e B=>?_,I.base.tups,I.base.frzs,I.base.tbls⟩,⟨_,hn',λj y v' l C e3=>?_⟩,λy c e=>?_,I.free,I.freeC,λp hp=>?_,g ⟨oL,hoL,I.free⟩ f,by simpa using I.len⟩ ⟨_,f,.inl rfl⟩
  .exact(f.2 b (aAk<|aAr (aAf e) I.ok.above)).trans (I.base.keep b o e n L B)
  .obtain⟨sl,l⟩:=I.base.slot b o e n L B;exact⟨sl,(f.2 b (aAk<|aAr (aAf e) I.ok.above)).trans l⟩
  .obtain⟨o',l⟩:=I.base.there b o e B;exact⟨o',(f.2 b (aAk<|aAr (aAf e) I.ok.above)).trans l⟩
  .by_cases O:j=i
   .subst O;rw[T]at l;cases l;rw[aBh yr]at C;cases C;exact⟨u,r,.inl ⟨J,by simp⟩⟩
   .rw[aCx (aBU O)]at C;obtain⟨u',r',q⟩:=hl j y v' l C e3;refine⟨u',r',?_⟩;rcases q with⟨k,e⟩|⟨k,c,e,z⟩
    .refine .inl ⟨k,?_⟩;have:y≠x:=λe=>O (pI hN l<|e▸T);simp[this,e]
    .exact .inr ⟨k,c,e,z.sameBut f (cne y c e)⟩
  .obtain⟨w',z⟩:=I.cell y c e;exact⟨w',z.sameBut f (cne y c e)⟩
  .obtain⟨e,n,ne,nf,d⟩:=I.pin p hp;exact⟨(f.2 p.1 ne).trans e,n,ne,nf,d⟩
 .have yb:X.fn x=true:=by
   rcases hf with z|z
   .exact z
   .rw[z]at J;cases J
  obtain⟨c,t⟩:=I.ok.has x (.inl J);obtain⟨w',z⟩:=I.cell x c t;refine wpAny_storeName_cell I.ok.kind J t z (λh' Y f=>?_);obtain⟨oc,uh,hocd⟩:=id z;refine h {s with heap:=h'} ⟨I.ok,I.os,I.bare,⟨λb o e n L B=>?_,λb o e n L B=>?_,I.base.free,λb o e B=>?_,I.base.tups,I.base.frzs,I.base.tbls⟩,⟨m,hn.sameBut f (aBU<|cne x c t),λj y v' l C e3=>?_⟩,λy c' e=>?_,I.free,I.freeC,λp hp=>?_,g ⟨oc,uh,I.freeC x c t⟩ f,by simpa using I.len⟩ ⟨c,f,.inr t⟩
  .exact(f.2 b (aAk<|aAr (aAf e)<|I.ok.cab x c yb t)).trans (I.base.keep b o e n L B)
  .obtain⟨sl,l⟩:=I.base.slot b o e n L B;exact⟨sl,(f.2 b (aAk<|aAr (aAf e)<|I.ok.cab x c yb t)).trans l⟩
  .obtain⟨o',l⟩:=I.base.there b o e B;exact⟨o',(f.2 b (aAk<|aAr (aAf e)<|I.ok.cab x c yb t)).trans l⟩
  .by_cases O:j=i
   .subst O;rw[T]at l;cases l;rw[aBh yr]at C;cases C;exact⟨u,r,.inr ⟨.inl J,c,t,Y⟩⟩
   .rw[aCx (aBU O)]at C;obtain⟨u',r',q⟩:=hl j y v' l C e3;refine⟨u',r',?_⟩;rcases q with q|⟨k,c',e,z'⟩
    .exact .inl q
    .refine .inr ⟨k,c',e,z'.sameBut f ?_⟩;rintro rfl;exact O (pI hN l<|I.ok.inj _ _ _ e t▸T)
  .by_cases hcc:c'=c
   .subst hcc;exact⟨_,Y⟩
   .obtain⟨w2,z2⟩:=I.cell y c' e;exact⟨w2,z2.sameBut f hcc⟩
  .obtain⟨e,n,ne,nf,d⟩:=I.pin p hp;refine⟨(f.2 p.1 ?_).trans e,n,ne,nf,d⟩;intro q;rw[q,uh]at e;have q':oc=p.2:=Option.some.inj e;exact d w' (by rw[<-q'];exact hocd)
def V9 {E:D3}{Q:Unit->bb->Prop}(I:Inv X pins σ H s)(a:X.N.Nodup)(b:X.N[i]?=some x)(d:Loc X.env.scope x)(r:RelV v u)(h:∀s',Inv X pins (σ.set i (some v)) H s'->Q () s')(e:X.fn x=true\/X.env.scope.names.lookup x=some .local:=by first|exact .inl rfl|exact .inr rfl|assumption):bc M A (storeName X.env x u) Q E s:=
 qN I a b d r (λs' f _=>h s' f) e
def Inv.af0 (I:Inv X pins σ H s)(d:s'.os=s.os)(u:Un (V6 X.stack) ch H H' s.heap s'.heap)(a:Y3 X.prog X.w H' s'.heap)(f:AllBare s'.gens)(g:∀b∈ch,(b∈X.ex\/X.sa.heap.objs.size<=b)/\b≠X.env.locals/\(∀x c,X.env.cells.lookup x=some c->c≠b)/\∀p∈X.pn++pins,p.1≠b):Inv X pins σ H' s':=by obtain⟨h',g',d',t',h⟩:=s';have e:h=s.os:=d;subst e;exact I.call (g':=g') (t':=t') (d':=d') u a f g
end
abbrev XK:=av->Option bp->Hp->Prop
abbrev St:=List (Option V)
abbrev VK:=V->Hp->Prop
abbrev TE:=St->Hp->VK->Prop
abbrev TT:=St->Hp->(Bool->Hp->Prop)->Prop
abbrev TA:=St->Hp->(List V->Hp->Prop)->Prop
structure Ends where
 nx:St->Hp->Prop
 rt:VK
 bk:St->Hp->Prop:=λ_ _=>False
 ct:St->Hp->Prop:=λ_ _=>False
abbrev TS:=Ends->St->Hp->Prop
def EP (X:Cx)(a:K6)(σ:St)(Q:VK)(u:av)(s':bb):Prop:=∃v b,Inv X a σ b s'/\RelV v u/\Q v b
def TP (X:Cx)(a:K6)(σ:St)(Q:Bool->Hp->Prop)(b:Bool)(s':bb):Prop:=∃d,Inv X a σ d s'/\Q b d
def AP (X:Cx)(a:K6)(σ:St)(Q:List V->Hp->Prop)(e:List av)(s':bb):Prop:=∃b d,Inv X a σ d s'/\l4 b e/\Q b d
def SP (X:Cx)(a:K6)(D:Ends)(f:Flow)(s':bb):Prop:=
 match f with
 |.next=>∃d b,Inv X a d b s'/\D.nx d b
 |.brk=>∃d b,Inv X a d b s'/\D.bk d b
 |.cont=>∃d b,Inv X a d b s'/\D.ct d b
 |.ret u=>∃v d b,Inv X a d b s'/\RelV v u/\D.rt v b
def PE (X:Cx)(e:cv)(t:TE):Prop:=
 ∀(a:K6) (s:bb) (σ:St) (H:Hp) (Q:VK),Inv X a σ H s->t σ H Q->bc (bt X.prog X.w) X.A (dq e X.env) (EP X a σ Q) X.xe s
def PT (X:Cx)(e:cv)(t:TT):Prop:=
 ∀(a:K6) (s:bb) (σ:St) (H:Hp) (Q:Bool->Hp->Prop),Inv X a σ H s->t σ H Q->bc (bt X.prog X.w) X.A (isTrue e X.env<|dq e X.env) (TP X a σ Q) X.xe s
def PW (X:Cx)(e:cv)(t:TT):Prop:=
 ∀(b:Sem av) (a:K6) (s:bb) (σ:St) (H:Hp) (Q:Bool->Hp->Prop),Inv X a σ H s->t σ H Q->bc (bt X.prog X.w) X.A (isTrue e X.env b) (TP X a σ Q) X.xe s
def PW.pt (h:PW X e t):PT X e t:=h _
def PA (X:Cx)(es:List cv)(t:TA):Prop:=
 ∀(pos:Pos) (a:K6) (s:bb) (σ:St) (H:Hp) (Q:List V->Hp->Prop),Inv X a σ H s->t σ H Q->bc (bt X.prog X.w) X.A (spliced<|cz pos<|a9 es X.env) (AP X a σ Q) X.xe s
def PS (X:Cx)(st:dm)(t:TS):Prop:=
 ∀(a:K6) (s:bb) (σ:St) (H:Hp) (D:Ends),Inv X a σ H s->t D σ H->bc (bt X.prog X.w) X.A (exec st X.env) (SP X a D) X.xe s
def uR (X:Cx)(st:List dm)(t:TS):Prop:=
 ∀(a:K6) (s:bb) (σ:St) (H:Hp) (D:Ends),Inv X a σ H s->t D σ H->bc (bt X.prog X.w) X.A (execs st X.env) (SP X a D) X.xe s
def B1 {α:Type}{t:Sem α}{Q b:α->bb->Prop}{M:hV}{A:cq}{E:D3}{s:bb}(h:bc M A t Q E s)(d:∀a s,Q a s->b a s):bc M A t b E s:=aBG h d λ_ _ x=>x
section
variable{X:Cx}
def oz (i:Nat):TE:=λσ H Q=>∃v,σ[i]?=some (some v)/\Q v H
def tC (v:V):TE:=λ_ H Q=>Q v H
def M3 (k:X.N[i]?=some x)(n:tE X.env.scope x)(f:(x==jd)=false:=by decide)(o:(x==ka)=false:=by decide):PE X (.Name x pos) (oz i):=by
 intro d s σ H Q I h;obtain⟨v,e,h⟩:=h;obtain⟨m,p,q⟩:=I.loc;obtain⟨u,r,l⟩:=q i x v k e n;have a:EP X d σ Q u s:=⟨v,H,I,r,h⟩;rcases l with⟨b,t⟩|⟨b,c,g,j⟩
 .exact wpAny_Name (wpAny_loadName_local I.ok.kind b p t a) f
 .rcases b with b|b
  .exact wpAny_Name (wpAny_loadName_cell I.ok.kind b g j a) f
  .exact wpAny_Name (wpAny_loadName_free I.ok.kind b g j a o) f
def ZZ {i j pos}:PE X (.Constant (.int i) j pos) (tC (.int i)):=λ_ _ _ H _ I h=>wpAny_Constant_int ⟨.int i,H,I.tok _,⟨_,rfl⟩,h⟩
def fx {b j pos}:PE X (.Constant (.bool b) j pos) (tC (.bl b)):=λ_ _ _ H _ I h=>Constant_bool ⟨.bl b,H,I,rfl,h⟩
def WL {j pos}:PE X (.Constant .none j pos) (tC .non):=λ_ _ _ H _ I h=>Constant_none ⟨.non,H,I,rfl,h⟩
def ZG {x j pos}:PE X (.Constant (.str x) j pos) (tC (.str x)):=λ_ _ _ H _ I h=>Calls.Constant_str ⟨.str x,H,I.tok _,⟨_,rfl⟩,h⟩
def Gl (X:Cx)(x:Str):Prop:=X.env.kindOf x=some .globalImplicit
def aM {E:D3}{Q:D3}(I:Inv X a σ H s)(b:Gl X x)(d:X.mg x=some u)(h:Q u s)(e:(x==jd)=false:=by decide):bc (bt X.prog X.w) X.A (dq (.Name x pos) X.env) Q E s:=
 Calls.Name_function_global I.ok.kind b (Calls.loadGlobal_global (by rw[I.ok.glob];exact I.mod.glob.keeps I.bk) d h) e
def N2 {E:D3}{Q:D3}(I:Inv X a σ H s)(b:Gl X x)(d:X.mg x=none)(e:dt x=some u)(h:Q u s)(f:x≠ "__name__":=by decide)(g:(x==jd)=false:=by decide):bc (bt X.prog X.w) X.A (dq (.Name x pos) X.env) Q E s:=by obtain⟨k,i,j⟩:=I.mod.blt;exact Calls.Name_function_global I.ok.kind b (Calls.loadGlobal_builtin (by rw[I.ok.glob];exact I.mod.glob.keeps I.bk) d (by rw[I.ok.blt];exact i.keeps I.bk) ((j x f).trans e) h) g
def FT (a:Gl X x)(b:X.mg x=some u)(r:RelV v u)(d:(x==jd)=false:=by decide):PE X (.Name x pos) (tC v):=
 λ_ _ _ H _ I h=>aM I a b ⟨v,H,I,r,h⟩ d
def TL (a:Gl X x)(b:X.mg x=none)(d:dt x=some u)(r:RelV v u)(e:x≠ "__name__":=by decide)(f:(x==jd)=false:=by decide):PE X (.Name x pos) (tC v):=
 λ_ _ _ H _ I h=>N2 I a b d ⟨v,H,I,r,h⟩ e f
variable{a b:cv} {ta tb:TE} {pos:Pos}
def tB (t:TE):TT:=λσ H Q=>t σ H λx d=>∃c,x=.bl c/\Q c d
def XB {e:cv}{t:TE}(h:PE X e t)(g:∀whole,isTrue e X.env whole=(do let v<-whole;standAt e.pos;fh [v] (truthy v)):=by intro _;rfl):PT X e (tB t):=by intro f s σ H Q I i;refine isTrue_plain (B1 (h f s σ H _ I i) λv n ⟨x,j,k,l,m⟩=>?_) (g _);obtain⟨d,rfl,q⟩:=m;cases l;exact aBy ⟨j,k,q⟩
variable{tA tB':TT} {rest:List cv}
def a0v (t u:TT):TT:=λσ H Q=>t σ H λc d=>if c=true then u σ d Q else Q false d
def tOr (t u:TT):TT:=λσ H Q=>t σ H λc d=>if c=true then Q true d else u σ d Q
def a0k (t:TT):TT:=λσ H Q=>t σ H λc d=>Q (!c) d
def TN (f:PT X a tA):PW X (.BoolOp .And [a] pos) tA:=by
 intro g d s σ H Q I h;refine isTrue_and (B1 (f d s σ H Q I h) λc i e=>?_);cases c with
 |true=>exact isTrue_and_nil e
 |false=>exact e
def WP (f:PT X a tA):PW X (.BoolOp .Or [a] pos) tA:=by
 intro g d s σ H Q I h;refine isTrue_or (B1 (f d s σ H Q I h) λc i e=>?_);cases c with
 |false=>exact isTrue_or_nil e
 |true=>exact e
def XN (i:PT X a tA)(j:PW X (.BoolOp .And (b::rest) pos) tB'):PW X (.BoolOp .And (a::b::rest) pos) (a0v tA tB'):=by
 intro k d s σ H Q I h;refine isTrue_and (B1 (i d s σ H _ I h) λc l ⟨e,f,g⟩=>?_);cases c with
 |true=>exact j k d l σ e Q f g
 |false=>exact⟨e,f,g⟩
def ez (i:PT X a tA)(j:PW X (.BoolOp .Or (b::rest) pos) tB'):PW X (.BoolOp .Or (a::b::rest) pos) (tOr tA tB'):=by
 intro k d s σ H Q I h;refine isTrue_or (B1 (i d s σ H _ I h) λc l ⟨e,f,g⟩=>?_);cases c with
 |true=>exact⟨e,f,g⟩
 |false=>exact j k d l σ e Q f g
def WW (e:PT X a tA):PT X (.UnaryOp .Not a pos) (a0k tA):=by intro d s σ H Q I h;exact isTrue_not (e d s σ H (λc f=>Q (!c) f) I h)
def a0b (ta tb:TE):TE:=λσ H Q=>ta σ H λx d=>∃c,x=.bl c/\if c=true then Q (.bl true) d else tb σ d Q
def qx (ta:TE):TE:=λσ H Q=>ta σ H λx d=>∃c,x=.bl c/\Q (.bl (!c)) d
def YQ {op}(h:PE X a t):PE X (.BoolOp op [a] pos) t:=λd s σ H Q I e=>BoolOp_one (h d s σ H Q I e)
def gz (i:PE X a ta)(j:PE X (.BoolOp .Or (b::rest) pos) tb):PE X (.BoolOp .Or (a::b::rest) pos) (a0b ta tb):=by
 intro d s σ H Q I h;refine BoolOp_or (B1 (i d s σ H _ I h) λv k ⟨x,f,g,l,e⟩=>?_);obtain⟨c,rfl,e⟩:=e;cases l;refine aBy ?_;cases c with
 |false=>exact j d k σ f Q g e
 |true=>exact⟨.bl true,f,g,rfl,e⟩
def WS (f:PE X a ta):PE X (.UnaryOp .Not a pos) (qx ta):=by intro d s σ H Q I h;refine UnaryOp_ (B1 (f d s σ H _ I h) λv k ⟨x,g,i,j,e⟩=>?_);obtain⟨c,rfl,e⟩:=e;cases j;exact not_of (aBy ⟨.bl (!c),g,i,rfl,e⟩)
end
def N0 (K:jb)(H:Hp)(a:bp)(Y:List V):Prop:=
 Rd H a (.lst Y)\/
  ∃(o:Obj) (b:Array av) (n:Nat),K.lookup a=some o/\o.cls=.type "list"/\o.dict=none/\o.data=.seq b n/\b.size<=sizeLine/\l4 Y b.toList
def W0 (K:jb)(H:Hp)(a:bp)(Y:List V):Prop:=
 Rd H a (.tup Y)\/
  ∃(o:Obj) (b:Array av) (n:Nat),K.lookup a=some o/\o.cls=.type "tuple"/\o.data=.seq b n/\b.size<=sizeLine/\l4 Y b.toList
def a0g:av->Option V
 |.none=>some .non
 |.bool b=>some (.bl b)
 |.int i _=>some (.int i)
 |.str x _=>some (.str x)
 |.bytes b _=>some (.byt b)
 |.float b _=>some (.flt b)
 |.ref a=>some (.ref a)
 |.type n=>some (.ty n)
 |_=>none
def RelV.abs (r:RelV x u):a0g u=some x:=by
 cases x with
 |non=>cases r;rfl
 |bl _=>cases r;rfl
 |int _=>obtain⟨t,rfl⟩:=r;rfl
 |str _=>obtain⟨t,rfl⟩:=r;rfl
 |byt _=>obtain⟨t,rfl⟩:=r;rfl
 |flt _=>obtain⟨t,rfl⟩:=r;rfl
 |ref _=>cases r;rfl
 |ty _=>cases r;rfl
def RelV.inj {x y:V}{u:av}(r:RelV x u)(q:RelV y u):x=y:=Option.some.inj (r.abs.symm.trans q.abs)
theorem l4.inj:∀{Y N:List V} {a:List av},l4 Y a->l4 N a->Y=N
 |_,_,_,.nil,.nil=>rfl
 |_,_,_,.cons r t,.cons b d=>by rw[r.inj b,l4.inj t d]
section
variable{X:Cx} {pins:K6} {σ:St} {H:Hp} {s:bb} {a:bp} {Y N:List V}
def N0.of {K:jb}(h:H a=some (.lst Y)):N0 K H a Y:=.inl (.inl h)
def W0.of {K:jb}(h:H a=some (.tup Y)):W0 K H a Y:=.inl (.inl h)
def Inv.list (I:Inv X pins σ H s)(h:N0 X.K H a Y):∃b:List av,l4 Y b/\PlainL s.heap a b.toArray/\Y.length<=sizeLine:=by
 rcases h with h|⟨o,b,n,d,f,g,i,j,r⟩
 .obtain⟨z,b,n,r,e⟩:=h.ok I.hok;exact⟨b,r,⟨_,n,e,rfl,rfl,rfl⟩,z⟩
 .refine⟨b.toList,r,⟨o,n,I.kIn a o d,f,g,by simpa using i⟩,?_⟩;have e:=r.length;simp only[aBb]at e
  lia
def Inv.tuple (I:Inv X pins σ H s)(h:W0 X.K H a Y):∃b:List av,l4 Y b/\IsTup s.heap a b.toArray/\Y.length<=sizeLine:=by
 rcases h with h|⟨o,b,n,d,f,g,i,r⟩
 .obtain⟨z,b,r,p⟩:=h.ok I.hok;exact⟨b,r,p,z⟩
 .refine⟨b.toList,r,⟨o,I.kIn a o d,f,n,by simpa using g⟩,?_⟩;have e:=r.length;simp only[aBb]at e
  lia
def Inv.ac1 (I:Inv X pins σ H s)(h:N0 X.K H a Y)(h':N0 X.K H a N):Y=N:=by
 obtain⟨f,r,⟨o,n,e,_,_,d⟩,_⟩:=I.list h;obtain⟨b,j,⟨l,m,g,_,_,i⟩,_⟩:=I.list h';rw[e]at g;cases g;rw[d]at i;injection i with k _;have:f=b:=by simpa using iu aFM k
 subst this;exact r.inj j
def Inv.ab6 (I:Inv X pins σ H s)(h:W0 X.K H a Y)(h':W0 X.K H a N):Y=N:=by
 obtain⟨f,r,⟨o,e,_,n,d⟩,_⟩:=I.tuple h;obtain⟨b,j,⟨l,g,_,m,i⟩,_⟩:=I.tuple h';rw[e]at g;cases g;rw[d]at i;injection i with k _;have:f=b:=by simpa using iu aFM k
 subst this;exact r.inj j
end
abbrev Cx.ab0 (X:Cx)(E:D3):Cx:={X with xe:=E}
abbrev Cx.nox (X:Cx):Cx:=X.ab0 λ_ _=>False
def Cx.Ok.ab0 {X:Cx}(ok:X.Ok)(E:D3):(X.ab0 E).Ok:=
 ⟨ok.mod,ok.kind,ok.glob,ok.blt,ok.above,ok.inj,ok.has,ok.cab,ok.hd,ok.frames,ok.stk,ok.exf,ok.bs,ok.bsz,ok.noex,ok.exfs,ok.funs,ok.frf⟩
def Cx.Ok.aa4 {X:Cx}{E:D3}(ok:(X.ab0 E).Ok):X.Ok:=
 ⟨ok.mod,ok.kind,ok.glob,ok.blt,ok.above,ok.inj,ok.has,ok.cab,ok.hd,ok.frames,ok.stk,ok.exf,ok.bs,ok.bsz,ok.noex,ok.exfs,ok.funs,ok.frf⟩
section
variable{X:Cx} {pins:K6} {σ:St} {H:Hp} {s:bb} {E:D3}
def Inv.ab0 (I:Inv X pins σ H s)(E:D3):Inv (X.ab0 E) pins σ H s:=⟨I.ok.ab0 E,I.os,I.bare,I.base,I.loc,I.cell,I.free,I.freeC,I.pin,I.hok,I.len⟩
def Inv.aa4 (I:Inv (X.ab0 E) pins σ H s):Inv X pins σ H s:=⟨I.ok.aa4,I.os,I.bare,I.base,I.loc,I.cell,I.free,I.freeC,I.pin,I.hok,I.len⟩
def SP.aa4 (h:SP (X.ab0 E) pins D f s'):SP X pins D f s':=by
 cases f with
 |next=>obtain⟨a,b,I,q⟩:=h;exact⟨a,b,I.aa4,q⟩
 |brk=>obtain⟨a,b,I,q⟩:=h;exact⟨a,b,I.aa4,q⟩
 |cont=>obtain⟨a,b,I,q⟩:=h;exact⟨a,b,I.aa4,q⟩
 |ret u=>obtain⟨v,a,b,I,r,q⟩:=h;exact⟨v,a,b,I.aa4,r,q⟩
def uR.nox {st:List dm}{t:TS}(h:uR X.nox st t):uR X st t:=λpins s σ H D I a=>aBG (h pins s σ H D (I.ab0 _) a) (λ_ _ q=>q.aa4) λ_ _ z=>aAg z
end
section
variable{X:Cx} {st:dm} {rest:List dm} {t u:TS} {e:cv} {te:TE} {pos:Pos}
def qz:TS:=λD σ H=>D.nx σ H
def a0w (t u:TS):TS:=λD σ H=>t {D with nx:=u D} σ H
def UO:uR X [] qz:=λ_ _ σ H _ I h=>aDV ⟨σ,H,I,h⟩
def MP (b:PS X st t)(d:uR X rest u):uR X (st::rest) (a0w t u):=by
 intro a s σ H D I h;refine aCK (B1 (b a s σ H {D with nx:=u D} I h) λf g q=>?_);cases f with
 |next=>obtain⟨i,j,k,q⟩:=q;exact d a g i j D k q
 |ret v=>exact q
 |brk=>exact q
 |cont=>exact q
def DF (b:PS X st t):uR X [st] t:=by
 intro a s σ H D I h;refine aCK (B1 (b a s σ H D I h) λf d q=>?_);cases f with
 |next=>exact aDV q
 |ret v=>exact q
 |brk=>exact q
 |cont=>exact q
def Inv.quiet (I:Inv X a σ H s):interactive X.env=false:=by simp[interactive,I.ok.kind]
def cj (te:TE):TS:=λD σ H=>te σ H λ_ a=>D.nx σ a
def lT (b:PE X e te)(d:et e none pos.line X.env=pure false:=by rfl):PS X (.Expr e pos) (cj te):=by intro a s σ H D I h;exact aGd (B1 (b a s σ H _ I h) λv j ⟨x,f,g,k,i⟩=>⟨σ,f,g,i⟩) I.quiet d
def a1t (te:TE):TS:=λD σ H=>te σ H D.rt
def NK (b:PE X e te):PS X (.Return (some e) pos) (a1t te):=by intro a s σ H D I h;exact wpAny_Return_some (B1 (b a s σ H _ I h) λv j ⟨x,d,f,g,i⟩=>⟨x,σ,d,f,g,i⟩)
def a0p (c:TT)(t u:TS):TS:=λD σ H=>c σ H λb a=>if b=true then t D σ a else u D σ a
def jk {c:cv}{a b:List dm}{g:TT}(m:PT X c g)(n:uR X a t)(o:uR X b u):PS X (.If c a b pos) (a0p g t u):=by
 intro f s σ H D I h;refine wpAny_If (B1 (m f s σ H _ I h) λd i ⟨j,k,l⟩=>?_);cases d with
 |true=>exact n f i σ j D k l
 |false=>exact o f i σ j D k l
def XO:TS:=λ_ _ _=>False
def ON:PS X st XO:=λ_ _ _ _ _ _ h=>h.elim
end
abbrev TG:=V->St->Hp->(St->Hp->Prop)->Prop
abbrev ZJ:=List V->St->Hp->(St->Hp->Prop)->Prop
def PG (X:Cx)(a:cv)(t:TG):Prop:=
 ∀(b:K6) (s:bb) (σ:St) (H:Hp) (v:V) (u:av) (Q:St->Hp->Prop),Inv X b σ H s->RelV v u->t v σ H Q->
  bc (bt X.prog X.w) X.A (f7 a X.env u) (λ_ f=>∃d e,Inv X b d e f/\Q d e) X.xe s
def bj (X:Cx)(g:List cv)(t:ZJ):Prop:=
 ∀(a:K6) (s:bb) (σ:St) (H:Hp) (b:List V) (d:List av) (Q:St->Hp->Prop),Inv X a σ H s->l4 b d->t b σ H Q->
  bc (bt X.prog X.w) X.A (assignInOrder ((dC g X.env).map (·.2)) d) (λ_ h=>∃e f,Inv X a e f h/\Q e f) X.xe s
abbrev SW:=V->V->V->Hp->(Hp->Prop)->Prop
def XH (X:Cx)(t:SW):Prop:=
 ∀(a:K6) (s:bb) (σ:St) (H:Hp) (o i v:V) (b d u:av) (Q:Hp->Prop),Inv X a σ H s->RelV o b->RelV i d->RelV v u->t o i v H Q->
  bc (bt X.prog X.w) X.A (setItem b d u) (λ_ f=>∃e,Inv X a σ e f/\Q e) X.xe s
section
variable{X:Cx} {pos:Pos}
def UW (i:Nat):TG:=λv σ H Q=>Q (σ.set i<|some v) H
def UD (b:X.N.Nodup)(d:X.N[i]?=some x)(e:Loc X.env.scope x)(f:X.fn x=true\/X.env.scope.names.lookup x=some .local:=by first|exact .inl rfl|exact .inr rfl|assumption):PG X (.Name x pos) (UW i):=by intro a s σ H v u Q I r h;exact wpAny_assign_Name (V9 I b d e r (λj g=>⟨_,H,g,h⟩) f)
def a1v:ZJ:=λa σ H Q=>a=[]/\Q σ H
def iq (t:TG)(u:ZJ):ZJ:=λa σ H Q=>∃v r,a=v::r/\t v σ H λb d=>u r b d Q
def RG:bj X [] a1v:=by intro a s σ H b d Q I r h;obtain⟨e,h⟩:=h;subst e;cases r;exact assignInOrder_nil ⟨σ,H,I,h⟩
def LV {e:cv}{es:List cv}{t:TG}{u:ZJ}(d:PG X e t)(f:bj X es u)
  (g:(dC (e::es) X.env).map (·.2)=f7 e X.env::(dC es X.env).map (·.2):=by rfl):bj X (e::es) (iq t u):=by
 intro a s σ H o p Q I r h;obtain⟨v,q,i,h⟩:=h;subst i;cases r with
 |cons r j=>rw[g];refine assignInOrder_cons (B1 (d a s σ H _ _ _ I r h) λ_ k ⟨b,l,m,n⟩=>?_);exact f a k b l _ _ Q m j n
def a1a (a b:TE)(t:SW):TG:=λv σ H Q=>a σ H λo d=>b σ d λi e=>t o i v e λf=>Q σ f
def BF {o i:cv}{e f:TE}{t:SW}(g:PE X o e)(j:PE X i f)(k:XH X t)
  (l:∀v,f7 (.Subscript o i pos) X.env v=(do
   let b<-fh [v] (dq o X.env)
   let d<-fh [v,b] (dq i X.env)
   standAt pos
   fh [v,b,d] (setItem b d v)
   release [v,b,d] []):=by intro _;rfl):PG X (.Subscript o i pos) (a1a e f t):=by
 intro a s σ H v u Q I r h;rw[l];refine aAa (aAR<|B1 (g a s σ H _ I h) λb m ⟨x,n,p,q,w⟩=>?_);refine aAa (aAR<|B1 (j a m σ n _ p w) λd z ⟨y,A,B,C,E⟩=>?_);refine aAa (aFp<|aAa<|aAR<|B1 (k a z σ A x y v b d u _ B q C r E) λ_ O ⟨J,L,N⟩=>?_);exact wpAny_release ⟨σ,J,L,N⟩
def tx (a:TE)(g:TG):TS:=λD σ H=>a σ H λx b=>g x σ b D.nx
def BN {b e:cv}{d:TE}{g:TG}(f:PE X e d)(i:PG X b g)(j:swapsWithSole [b] e pos.line X.env=pure false:=by rfl)(k:swappedStores [b] e X.env=pure none:=by rfl)
  (l:(dC [b] X.env).map (·.2)=[f7 b X.env]:=by rfl):PS X (.Assign [b] e pos) (tx d g):=by
 intro a s σ H D I h;refine wpAny_Assign_stores (B1 (f a s σ H _ I h) λv m ⟨x,n,o,p,r⟩=>?_) j k;rw[l];exact B1 (i a m σ n x v _ o p r) λ_ t q=>q
def OS {i:Nat}{x:Str}{e:cv}{d:TE}{a:Pos}(f:X.N.Nodup)(g:X.N[i]?=some x)(j:Loc X.env.scope x)(k:PE X e d)(l:et e (some (.Name x a)) pos.line X.env=pure false:=by rfl)(m:X.fn x=true\/X.env.scope.names.lookup x=some .local:=by first|exact .inl rfl|exact .inr rfl|assumption):
  PS X (.Assign [.Name x a] e pos) (tx d (UW i)):=by
 intro b s σ H D I h;refine aFh (B1 (k b s σ H _ I h) λv t ⟨y,n,o,p,q⟩=>?_) l;exact V9 o f g j p (λu r=>⟨_,n,r,q⟩) m
end
section
variable{X:Cx} {pos:Pos}
def XG (c:TT)(tb:TS):TS:=λD σ H=>∃W:Nat->St->Hp->Prop,(∃m,W m σ H)/\∀m σ H,W m σ H->
 c σ H λb a=>if b=true then∃N:St->Hp->Prop,(∀d e,N d e->∃f,f<m/\W f d e)/\tb {D with nx:=N,ct:=N,bk:=D.nx} σ a else D.nx σ a
def MK {c:cv}{body:List dm}{q:TT}{tb:TS}(r:PassesOwn (bt X.prog X.w) X.A X.env X.xe)(C:PT X c q)(E:uR X body tb):PS X (.While c body [] pos) (XG q tb):=by
 intro a s σ H D I h;obtain⟨W,⟨J,L⟩,turn⟩:=h;refine wpAny_While (codeAny_whileLoop (λn O=>∃t u,Inv X a t u O/\W n t u) ?_ J ⟨σ,H,I,L⟩);rintro n Q ⟨d,x,T,U⟩;refine aCV r (B1 (C a Q d x _ T<|turn n d x U) λb Y ⟨y,z,i⟩=>?_);cases b with
 |true=>
  obtain⟨N,B,i⟩:=i;rw[h9 rfl];refine aCV r (B1 (E a Y d y _ z i) λf s3 j=>?_);cases f with
  |next=>obtain⟨e,g,k,l⟩:=j;obtain⟨m,o,p⟩:=B e g l;exact⟨m,o,e,g,k,p⟩
  |cont=>obtain⟨e,g,k,l⟩:=j;obtain⟨m,o,p⟩:=B e g l;exact⟨m,o,e,g,k,p⟩
  |brk=>exact j
  |ret v=>exact j
 |false=>rw[ic aAV];exact aDV ⟨d,y,z,i⟩
end
structure It where
 go:Nat->Hp->Prop
 yld:Nat->Hp->V->Hp->Prop
 stop:Nat->Hp->Prop
def pV (X:Cx)(pins:K6)(H:Hp)(b:bp):Prop:=
 H b=none/\b≠X.env.locals/\b∉X.fs/\(b∈X.ex\/X.sa.heap.objs.size<=b)/\(∀x c,X.env.cells.lookup x=some c->c≠b)/\∀p∈X.pn++pins,p.1≠b
def Inv.af6 (I:Inv X a σ H s)(d:s.heap.objs.size<=b)(f:H' b=none):pV X a H' b:=by
 refine⟨f,aDt (aAr I.lt d),I.ag4 d,.inr (aAq I.sz d),λx c e z=>?_,λp g z=>?_⟩
 .obtain⟨v,q⟩:=I.cell x c e;exact absurd (aAr q.lt (by rw[z];exact d)) (aBj _)
 .exact absurd (aAr (aAf (I.pin p g).1) (by rw[z];exact d)) (aBj _)
structure Turn (P:Program)(w:World)(K:PySem.W.Frag)(tg:Expr)(J:It)(fp:List Addr)(it:Addr)(tn:Nat->Heap->Prop):Prop where
 mem:it∈fp
 obj:∀i h,tn i h->∀b∈fp,∃o,h.get? b=some o/\∀v,o.data≠.cell v
 keep:∀i h h',tn i h->(∀b∈fp,∀o,h.get? b=some o->h'.get? b=some o)->tn i h'
 item:∀(X:Cx),X.prog=P->X.w=w->X.K=K->X.calm=true->∀(i:Nat) (pins:K6) (s:Shared) (σ:St) (H:Hp) (E:D3),Inv X pins σ H s->(∀b∈fp,pV X pins H b)->tn i s.heap->J.go i H->
  wpAny (model P w) X.A (pyNext (.ref it)) (λr s1=>∃u,r=some u/\
   wpAny (model P w) X.A (letOwnedTupleGo tg (.ref it) u) (λ_ s2=>∃x H',Inv X pins σ H' s2/\RelV x u/\J.yld i H x H'/\tn (i+1) s2.heap/\∀b∈fp,H' b=none) E s1) E s
 done:∀(X:Cx),X.prog=P->X.w=w->X.K=K->X.calm=true->∀(i:Nat) (pins:K6) (s:Shared) (σ:St) (H:Hp) (E:D3),Inv X pins σ H s->(∀b∈fp,pV X pins H b)->tn i s.heap->J.stop i H->
  wpAny (model P w) X.A (pyNext (.ref it)) (λr s1=>r=none/\Inv X pins σ H s1) E s
 self:∀(A:Around) (i:Nat) (s:Shared) (Q:D3) (E:D3),tn i s.heap->Q (.ref it) s->wpAny (model P w) A (pyIter (.ref it)) Q E s
abbrev TI:=St->Hp->(It->Hp->Prop)->Prop
def PIE (X:Cx)(a:K6)(σ:St)(j:cv)(R:It->Hp->Prop)(d:av)(f:bb):Prop:=
 ∃(g:bp) (h:List bp) (i:Nat->cy->Prop) (J:It) (e:Hp),d=.ref g/\Inv X a σ e f/\Turn X.prog X.w X.K j J h g i/\i 0 f.heap/\(∀b∈h,pV X a e b)/\R J e
def PI (X:Cx)(b v6:cv)(d:TI):Prop:=
 ∀(a:K6) (s:bb) (σ:St) (H:Hp) (R:It->Hp->Prop),Inv X a σ H s->d σ H R->
  bc (bt X.prog X.w) X.A (dq v6 X.env) (λv e=>bc (bt X.prog X.w) X.A (pyIter v) (PIE X a σ b R) X.xe e) X.xe s
def LL {E : av → bb → Prop} {Q : Unit → bb → Prop} (b : s.heap.get? it = some o) (d : o.cls = .type n) (e : o.data = .fields vs) (f : ["enumerate", "zip", "dict_itemiterator", "dict_reverseitemiterator", "odict_iterator", "itertools.zip_longest", "itertools.pairwise"].contains n = false) (a : Q () s) : bc M A (letOwnedTupleGo g (.ref it) u) Q E s := by
  unfold letOwnedTupleGo;cases g <;> first
    | exact aAb a
    | (cases u <;> first
        | exact aAb a
        | (refine aAa (wpAny_load b ?_)
           rw [d, e];show bc M A (if (["enumerate", "zip", "dict_itemiterator", "dict_reverseitemiterator", "odict_iterator", "itertools.zip_longest", "itertools.pairwise"].contains n && vs[0]? == some (e9 _)) = true then _ else _) Q E s;rw [ic (by intro h; rw [f, Bool.false_and] at h; cases h)];exact aAb a))
def Itl (K:jb)(a:bp):It:=
 ⟨λi H=>∃Y x,N0 K H a Y/\Y[i]?=some x,λi H x b=>b=H/\∀Y,N0 K H a Y->Y[i]?=some x,λi H=>∃Y,N0 K H a Y/\Y.length<=i⟩
def Itt (K:jb)(a:bp):It:=
 ⟨λi H=>∃Y x,W0 K H a Y/\Y[i]?=some x,λi H x b=>b=H/\∀Y,W0 K H a Y->Y[i]?=some x,λi H=>∃Y,W0 K H a Y/\Y.length<=i⟩
def GA {P:cp}{w:cu}{K:jb}{tg:cv}(a it:bp):Turn P w K tg (Itl K a) [it] it (λi h=>h.IsListIter it a i)where
 mem:=by simp
 obj:=λi h st b g=>by
  have e:b=it:=by simpa using g
  subst e;obtain⟨o,e,c,d⟩:=st;exact⟨o,e,λv z=>by rw[d]at z;cases z⟩
 keep:=λi h l st k=>st.at λo e=>k it (by simp) o e
 item:=by intro X q r t U i f s σ H E I m st y;subst q r t;obtain⟨Y,x,n,A⟩:=y;obtain⟨B,C,p,hz⟩:=I.list n;obtain⟨u,hu,ru⟩:=C.get A;obtain⟨J,L,f2,O,Q,T⟩:=m it (by simp);refine wpAny_pyNext_list_item st p.isList (x:=u) (by simpa using hu) λl j sb=>?_;have I1:Inv X f σ H {s with heap:=l}:=I.turned (t':=s.toks) (λb o g e=>(sb.2 b g).trans e) J L O Q T;obtain⟨o,e,c,d⟩:=id j;exact⟨u,rfl,LL (s:={s with heap:=l}) e c d (by decide) ⟨x,H,I1,ru,⟨rfl,λN hy=>by rw[I.ac1 hy n];exact A⟩,j,λb g=>(m b g).1⟩⟩
 done:=by intro X q r t U i f s σ H E I m st y;subst q r t;obtain⟨Y,n,A⟩:=y;obtain⟨B,C,p,hz⟩:=I.list n;obtain⟨J,L,f2,O,Q,T⟩:=m it (by simp);have hl:=C.length;exact wpAny_pyNext_list_end (I.ok.hd U) st p.isList (by simp;lia) λl eb=>⟨rfl,I.turned (t':=s.toks) (λb o g e=>eb b o g e) J L O Q T⟩
 self:=λ_ _ _ _ _ st h=>wpAny_pyIter_listiter st h
def CL {P:cp}{w:cu}{K:jb}{tg:cv}(a it:bp):Turn P w K tg (Itt K a) [it] it (λi h=>h.IsTupleIter it a i)where
 mem:=by simp
 obj:=λi h st b g=>by
  have e:b=it:=by simpa using g
  subst e;obtain⟨o,e,c,d⟩:=st;exact⟨o,e,λv z=>by rw[d]at z;cases z⟩
 keep:=λi h m st k=>st.at λo e=>k it (by simp) o e
 item:=by intro X r t y U i f s σ H E I n st A;subst r t y;obtain⟨Y,x,q,B⟩:=A;obtain⟨j,C,p,hz⟩:=I.tuple q;obtain⟨u,hu,ru⟩:=C.get B;obtain⟨J,L,f2,O,Q,T⟩:=n it (by simp);refine wpAny_pyNext_tuple_item st (show s.heap.IsTuple a j.toArray from p) (x:=u) (by simpa using hu) λm l sb=>?_;have I1:Inv X f σ H {s with heap:=m}:=I.turned (t':=s.toks) (λb o g e=>(sb.2 b g).trans e) J L O Q T;obtain⟨o,e,c,d⟩:=id l;exact⟨u,rfl,LL (s:={s with heap:=m}) e c d (by decide) ⟨x,H,I1,ru,⟨rfl,λN hy=>by rw[I.ab6 hy q];exact B⟩,l,λb g=>(n b g).1⟩⟩
 done:=by intro X r t y U i f s σ H E I n st A;subst r t y;obtain⟨Y,q,B⟩:=A;obtain⟨j,C,p,hz⟩:=I.tuple q;obtain⟨J,L,f2,O,Q,T⟩:=n it (by simp);have hl:=C.length;exact wpAny_pyNext_tuple_end (I.ok.hd U) st (show s.heap.IsTuple a j.toArray from p) (by simp;lia) λm eb=>⟨rfl,I.turned (t':=s.toks) (λb o g e=>eb b o g e) J L O Q T⟩
 self:=λ_ _ _ _ _ st h=>wpAny_pyIter_tupleiter st h
section
variable{X:Cx} {tg:cv}
def my (K:jb)(d:TE):TI:=λσ H R=>d σ H λx b=>∃a,x=.ref a/\(∃Y,N0 K b a Y)/\R (Itl K a) b
def a0l (K:jb)(d:TE):TI:=λσ H R=>d σ H λx b=>∃a,x=.ref a/\(∃Y,W0 K b a Y)/\R (Itt K a) b
def UF (i:PE X l j):PI X tg l (my X.K j):=by
 intro d s σ H R I h;refine B1 (i d s σ H _ I h) λv f ⟨x,k,g,m,n⟩=>?_;obtain⟨a,e,⟨Y,r⟩,q⟩:=n;subst e;cases m;obtain⟨t,w,p,y⟩:=g.list r;refine aDz p.isList ?_;refine⟨f.heap.objs.size,[f.heap.objs.size],_,_,k,rfl,g.kept (t':=f.toks) λb o e=>aAc _ e,GA a _,⟨_,aAm _ rfl,rfl,rfl⟩,λb u=>?_,q⟩;have e:b=f.heap.objs.size:=by simpa using u
 subst e;exact g.af6 (aAi _) (g.hok.fresh<|aAi _)
def XX {l:cv}{j:TE}(k:PE X l j):PI X tg l (a0l X.K j):=by
 intro d s σ H R I h;refine B1 (k d s σ H _ I h) λv f ⟨x,m,g,n,r⟩=>?_;obtain⟨a,e,⟨Y,t⟩,q⟩:=r;subst e;cases n;obtain⟨i,w,p,y⟩:=g.tuple t;refine wpAny_pyIter_tuple (show f.heap.IsTuple a i.toArray from p) ?_;refine⟨f.heap.objs.size,[f.heap.objs.size],_,_,m,rfl,g.kept (t':=f.toks) λb o e=>aAc _ e,CL a _,⟨_,aAm _ rfl,rfl,rfl⟩,λb u=>?_,q⟩;have e:b=f.heap.objs.size:=by simpa using u
 subst e;exact g.af6 (aAi _) (g.hok.fresh<|aAi _)
def a1g (e:TI)(g:TG)(tb:TS):TS:=λD σ H=>e σ H λJ f=>∃W:Nat->Nat->St->Hp->Prop,(∃m,W 0 m σ f)/\∀i m σ H,W i m σ H->
 (J.stop i H/\D.nx σ H)\/(J.go i H/\∃N:St->Hp->Prop,(∀b a,N b a->∃d,d<m/\W (i+1) d b a)/\∀x a,J.yld i H x a->g x σ a λh j=>tb {D with nx:=N,ct:=N,bk:=D.nx} h j)
def oM (a:List bp)(h:cy):List (bp×Obj):=a.filterMap λb=>(h.get? b).map λo=>(b,o)
def bA (a:b∈d)(e:h.get? b=some o):(b,o)∈oM d h:=aBB.mpr ⟨b,a,by rw[e];rfl⟩
def HH (a:p∈oM d h):p.1∈d/\h.get? p.1=some p.2:=by
 obtain⟨b,f,e⟩:=aBB.mp a;cases q:h.get? b with
 |none=>rw[q]at e;cases e
 |some o=>rw[q]at e;have g:(b,o)=p:=Option.some.inj e;subst g;exact⟨f,q⟩
def Inv.pinned (I:Inv X a σ H s)(i:∀b∈f,pV X a H b)(j:∀b∈f,∃o,s.heap.get? b=some o/\∀v,o.data≠.cell v):Inv X (a++oM f s.heap) σ H s:=
 I.ad3 λp k=>(aAX.mp k).elim (λz=>I.pin p (aAH _ z)) λz=>by obtain⟨g,e⟩:=HH z;obtain⟨l,m,n,_⟩:=i p.1 g;obtain⟨o,h,d⟩:=j p.1 g;rw[e]at h;cases h;exact⟨e,l,m,n,d⟩
def Inv.ab4 (I:Inv X (a++d) σ H s):Inv X a σ H s:=I.ad3 λp b=>I.pin p (aAH _<|aBI _ b)
def WG (B:PassesOwn (bt X.prog X.w) X.A X.env X.xe)(hc:X.calm=true)(hi:PI X tg v6 wi)(hg:PG X tg g)(j:uR X body tb)(hs:∀x,eN v6 X.env x=pure x:=by intro _;rfl):PS X (.For tg v6 body [] pos) (a1g wi g tb):=by
 intro a s σ H D I h;refine wpAny_For (B1 (hi a s σ H _ I h) λv s1 h1=>B1 h1 λitv s2 h2=>?_) hs;obtain⟨it,C,tn,J,H2,e,I2,T,kh,f2,W,⟨m0,w0⟩,turn⟩:=h2;subst e;have k:∀{t:Hp},(∀b∈C,t b=none)->∀b∈C,pV X a t b:=λhn b j=>⟨hn b j,(f2 b j).2⟩;refine codeAny_forLoop_any (λn s'=>∃i E t,Inv X a E t s'/\tn i s'.heap/\(∀b∈C,t b=none)/\W i n E t) ?_ m0 ⟨0,σ,H2,I2,kh,λb j=>(f2 b j).1,w0⟩;rintro n s3 ⟨i,L,Y,I3,O,Q,w3⟩;rcases turn i n L Y w3 with⟨stop,qn⟩|⟨go,N,hN,step⟩
 .refine aCV B (B1 (T.done X rfl rfl rfl hc i a s3 L Y X.xe I3 (k Q) O stop) λr s4 ⟨hr,I4⟩=>?_);subst hr;exact aDV ⟨L,Y,I4,qn⟩
 .refine aCV B (B1 (T.item X rfl rfl rfl hc i a s3 L Y X.xe I3 (k Q) O go) λr s4 ⟨u,hr,h4⟩=>?_);subst hr;refine aCV B (B1 h4 λ_ s5 ⟨x,H5,I5,r5,y5,z,fr5⟩=>?_);have I5':=I5.pinned (k fr5) (T.obj _ _ z);refine aCV B (B1 (hg _ s5 L H5 x u _ I5' r5<|step x H5 y5) λ_ s6 ⟨σ6,H6,I6,q6⟩=>?_);refine aCV B (B1 (j _ s6 σ6 H6 _ I6 q6) λf s7 y=>?_);have again:∀{l:St} {p:Hp},Inv X (a++oM C s5.heap) l p s7->N l p->∃m,m<n/\∃i E t,Inv X a E t s7/\tn i s7.heap/\(∀b∈C,t b=none)/\W i m E t:=λ{l p} q U=>by obtain⟨m',hm,w7⟩:=hN l p U;refine⟨m',hm,i+1,l,p,q.ab4,T.keep _ _ _ z λb j o e=>(q.pin (b,o)<|aAH _<|aAH _<|bA j e).1,λb j=>?_,w7⟩;obtain⟨o,e,d⟩:=T.obj _ _ z b j;exact(q.pin (b,o)<|aAH _<|aAH _<|bA j e).2.1
  cases f with
  |next=>obtain⟨l,p,q,U⟩:=y;exact again q U
  |cont=>obtain⟨l,p,q,U⟩:=y;exact again q U
  |brk=>obtain⟨l,p,q,y⟩:=y;exact⟨l,p,q.ab4,y⟩
  |ret v=>obtain⟨x7,l,p,q,r7,y⟩:=y;exact⟨x7,l,p,q.ab4,r7,y⟩
end
abbrev R2:=V->V->Hp->VK->Prop
def kU (X:Cx)(f:av->av->Sem av)(r:R2):Prop:=
 ∀(a:K6) (s:bb) (σ:St) (H:Hp) (x y:V) (v u:av) (Q:VK),Inv X a σ H s->RelV x v->RelV y u->r x y H Q->
  bc (bt X.prog X.w) X.A (f v u) (EP X a σ Q) X.xe s
def UnR (X:Cx)(f:av->Sem av)(r:V->Hp->VK->Prop):Prop:=
 ∀(a:K6) (s:bb) (σ:St) (H:Hp) (x:V) (v:av) (Q:VK),Inv X a σ H s->RelV x v->r x H Q->
  bc (bt X.prog X.w) X.A (f v) (EP X a σ Q) X.xe s
def rQ (X:Cx)(f:av)(r:List V->Hp->VK->Prop):Prop:=
 ∀(a:K6) (s:bb) (σ:St) (H:Hp) (Y:List V) (b:List av) (Q:VK),Inv X a σ H s->l4 Y b->r Y H Q->
  bc (bt X.prog X.w) X.A (call f b) (EP X a σ Q) X.xe s
def tUn (r:V->Hp->VK->Prop)(ta:TE):TE:=λσ H Q=>ta σ H λx a=>r x a Q
def rI (C:Int->Int->Prop)(g:Int->Int->V):R2:=λx y H Q=>∃i j,x=.int i/\y=.int j/\C i j/\Q (g i j) H
def UT (g:Int->Int->V):R2:=λx y H Q=>∃i j,x=.int i/\y=.int j/\Q (g i j) H
def rU (g:Int->V):V->Hp->VK->Prop:=λx H Q=>∃i,x=.int i/\Q (g i) H
section
variable{X:Cx} {a b c:cv} {ta tb tc:TE} {pos:Pos}
def PY (j:PE X a ta)(k:PE X b tb){d:K6}{s:bb}{σ:St}{H:Hp}{R:V->V->Hp->Prop}(I:Inv X d σ H s)
  (h:ta σ H λx i=>tb σ i λy e=>R x y e) {Q:D3} {f:av->av->Sem av}
  (l:∀v u g x y e,Inv X d σ e g->RelV x v->RelV y u->R x y e->bc (bt X.prog X.w) X.A (f v u) Q X.xe g):
  bc (bt X.prog X.w) X.A (dq a X.env) (λv m=>bc (bt X.prog X.w) X.A (dq b X.env) (λu n=>bc (bt X.prog X.w) X.A (f v u) Q X.xe n) X.xe m) X.xe s:=by
 refine B1 (j d s σ H _ I h) λv o ⟨x,i,p,q,r⟩=>?_;refine B1 (k d o σ i _ p r) λu g ⟨y,e,t,z,B⟩=>?_;exact l v u g x y e t q z B
def jy {r:V->Hp->VK->Prop}(e:UnR X (unaryOp op) r)(f:PE X a ta):PE X (.UnaryOp op a pos) (tUn r ta):=by intro d s σ H Q I h;exact UnaryOp_ (B1 (f d s σ H _ I h) λv g ⟨x,i,j,k,l⟩=>e d g σ i x v Q j k l)
def opI {f:av->av->Sem av}{C:Int->Int->Prop}{g:Int->Int->Int}
  (rule:∀(i j:Int) (t u:Tok) (s:bb) (Q:D3) (E:D3),C i j->Q (.int (g i j) s.toks) {s with toks:=s.toks+1}->bc (bt X.prog X.w) X.A (f (.int i t) (.int j u)) Q E s):
  kU X f (rI C λi j=>.int (g i j)):=by
 intro d s σ H x y v u Q I e k h;obtain⟨i,j,rfl,rfl,l,q⟩:=h;obtain⟨t,rfl⟩:=e;obtain⟨m,rfl⟩:=k;exact rule i j t m s _ _ l ⟨.int (g i j),H,I.tok _,⟨_,rfl⟩,q⟩
def qy {f:av->av->Sem av}{g:Int->Int->Int}
  (rule:∀(i j:Int) (t u:Tok) (s:bb) (Q:D3) (E:D3),Q (.int (g i j) s.toks) {s with toks:=s.toks+1}->bc (bt X.prog X.w) X.A (f (.int i t) (.int j u)) Q E s):
  kU X f (UT λi j=>.int (g i j)):=by
 intro d s σ H x y v u Q I e k h;obtain⟨i,j,rfl,rfl,q⟩:=h;obtain⟨t,rfl⟩:=e;obtain⟨l,rfl⟩:=k;exact rule i j t l s _ _ ⟨.int (g i j),H,I.tok _,⟨_,rfl⟩,q⟩
def ZW {f:av->av->Sem av}{g:Int->Int->Bool}
  (rule:∀(i j:Int) (t u:Tok) (s:bb) (Q:D3) (E:D3),Q (.bool (g i j)) s->bc (bt X.prog X.w) X.A (f (.int i t) (.int j u)) Q E s):
  kU X f (UT λi j=>.bl (g i j)):=by
 intro d s σ H x y v u Q I e k h;obtain⟨i,j,rfl,rfl,q⟩:=h;obtain⟨t,rfl⟩:=e;obtain⟨l,rfl⟩:=k;exact rule i j t l s _ _ ⟨.bl (g i j),H,I,rfl,q⟩
def a0t (i j:Int):Prop:=0<=j/\j<=1000000/\i.natAbs<2^64
def YI:kU X (eQ .Add) (UT λi j=>.int (i+j)):=qy λ_ _ _ _ _ _ _ q=>add_int q
def WY:kU X (eQ .Sub) (UT λi j=>.int (i-j)):=qy λ_ _ _ _ _ _ _ q=>sub_int q
def QM:kU X (eQ .Mod) (rI (λ_ j=>j≠0) λi j=>.int (i.fmod j)):=opI λ_ _ _ _ _ _ _ d q=>mod_int' d q
def WD:kU X (eQ .Pow) (rI a0t λi j=>.int (i^j.toNat)):=opI λ_ _ _ _ _ _ _ d q=>pow_int_small d.1 d.2.1 d.2.2 q
def unI {f:av->Sem av}{g:Int->Int}
  (rule:∀(i:Int) (t:Tok) (s:bb) (Q:D3) (E:D3),Q (.int (g i) s.toks) {s with toks:=s.toks+1}->bc (bt X.prog X.w) X.A (f (.int i t)) Q E s):
  UnR X f (rU λi=>.int (g i)):=by
 intro d s σ H x v Q I e h;obtain⟨i,rfl,q⟩:=h;obtain⟨t,rfl⟩:=e;exact rule i t s _ _ ⟨.int (g i),H,I.tok _,⟨_,rfl⟩,q⟩
def YJ:UnR X (unaryOp .USub) (rU λi=>.int (-i)):=unI λ_ _ _ _ _ q=>neg_int q
end
section
variable{X:Cx} {a b c:cv} {ta tb tc:TE} {pos:Pos}
def aj (I:Inv X d σ H s)(q:Q (.bl k) H)(e:k=f):EP X d σ Q (.bool f) s:=by subst e;exact⟨.bl k,H,I,rfl,q⟩
def uj:kU X (d3 .Lt) (UT λi j=>.bl (decide (i<j))):=ZW λ_ _ _ _ _ _ _ q=>lt_int q
def oq:kU X (d3 .LtE) (UT λi j=>.bl (decide (i<=j))):=ZW λ_ _ _ _ _ _ _ q=>le_int q
def iz:kU X (d3 .Gt) (UT λi j=>.bl (decide (j<i))):=ZW λ_ _ _ _ _ _ _ q=>gt_int q
def ZO:kU X (d3 .Is) (λx y H Q=>y=.non/\Q (.bl (decide (x=.non))) H):=by
 intro d s σ H x y v u Q I e f h;obtain⟨rfl,q⟩:=h;cases f;refine is_none_gen (aj I q ?_);cases x<;>first
  |(cases e;rfl)
  |(obtain⟨t,rfl⟩:=e;rfl)
def AR (b:cv)(h:op≠.In:=by decide)(d:op≠.NotIn:=by decide):gu op b=false:=by
 have e:(op==CmpOp.In)=false:=by cases op<;>first|rfl|exact absurd rfl h
 have f:(op==CmpOp.NotIn)=false:=by cases op<;>first|rfl|exact absurd rfl d
 cases b<;>simp[gu,e,f]
def tR:(sizeLine:Nat)<2^63:=by rw[aFo];decide
def vals1 (r:l4 [x] d):∃u,d=[u]/\RelV x u:=by
 cases r with
 |cons e f=>cases f;exact⟨_,rfl,e⟩
def vals2 (r:l4 [x,y] e):∃u d,e=[u,d]/\RelV x u/\RelV y d:=by
 cases r with
 |cons f g=>
  cases g with
  |cons h i=>cases i;exact⟨_,_,rfl,f,h⟩
def MI:rQ X (.builtin "abs") (λY H Q=>∃i,Y=[.int i]/\Q (.int (if i<0 then-i else i)) H):=by intro d s σ H Y e Q I r h;obtain⟨i,rfl,q⟩:=h;obtain⟨u,rfl,t,rfl⟩:=vals1 r;exact call_abs_int λu f=>⟨.int (if i<0 then-i else i),H,I.tok _,⟨_,rfl⟩,q⟩
def sJ:rQ X (.type "int") (λY H Q=>(∃i,Y=[.int i]/\Q (.int i) H)\/∃k,Y=[.bl k]/\Q (.int (if k then 1 else 0)) H):=by
 intro d s σ H Y f Q I r h;rcases h with⟨i,rfl,q⟩|⟨k,rfl,q⟩
 .obtain⟨u,rfl,t,rfl⟩:=vals1 r;exact call_int_int ⟨.int i,H,I,⟨_,rfl⟩,q⟩
 .obtain⟨u,rfl,e⟩:=vals1 r;cases e;exact call_int_bool ⟨.int (if k then 1 else 0),H,I.tok _,⟨_,rfl⟩,q⟩
end
section
variable{prog:cp} {w:cu} {A:cq} {E:D3} {s:bb} {K:jb} {x dx C f:bp} {mA:W6} {name:Str} {v:av}
end
section
variable{P:cp} {w:cu} {H H':Hp} {h h':cy} {a C dx:bp} {fs xv:List (Str×V)}
end
section
variable{X:Cx} {pins:K6} {σ:St} {H:Hp} {s:bb} {a C dx:bp} {fs:List (Str×V)} {f:Str} {v:V} {A:cq} {E:D3}
end
section
variable{X:Cx} {o e value:cv} {f:Str} {pos pos' tpos:Pos} {ta tv:TE}
end
section
variable{X:Cx} {pins:K6} {σ:St} {H:Hp} {s:bb} {A:cq} {E:D3} {Q:D3} {c:av} {b:Bool}
end
structure Room (k:Nat)(A:Around):Prop where
 hd:A.handled=none
 dp:A.depth+3*k+5<recursionLimit
 un:A.units+16*k+200<cLine
def Room.mono (r:Room k A)(h:j<=k):Room j A:=⟨r.hd,by have:=r.dp;lia,by have:=r.un;lia⟩
def Room.deeper (r:Room (k+1) A)(env:Env):Room k (A.deeper env):=
 ⟨r.hd,by have:=r.dp;show A.depth+1+3*k+5<_;lia,by have:=r.un;show A.units+3+16*k+200<_;lia⟩
def Room.depth (r:Room k A):A.depth<recursionLimit:=by have:=r.dp;lia
def Room.units (r:Room k A):A.units+64<dy:=by have:=r.un;lia
def a1h:TA:=λ_ H Q=>Q [] H
def dj (ta:TE)(tr:TA):TA:=λσ H Q=>ta σ H λx a=>tr σ a λY b=>Q (x::Y) b
section
variable{X:Cx} {e:cv} {es:List cv} {te:TE} {t:TA} {pos:Pos}
def aY:PA X [] a1h:=λ_ _ _ _ H Q I h=>aFi ⟨[],H,I,.nil,h⟩
def J3 (b:PE X e te)(d:PA X es t)(f:a9 (e::es) X.env=(false,dq e X.env)::a9 es X.env:=by rfl):PA X (e::es) (dj te t):=by intro pos a s σ H Q I h;rw[f];show bc _ _ (spliced ((false,dq e X.env)::cz pos (a9 es X.env))) _ _ s;refine aDW (B1 (b a s σ H _ I h) λu g ⟨x,i,j,k,l⟩=>?_);exact B1 (d pos a g σ i _ j l) λq r ⟨Y,m,n,o,p⟩=>⟨x::Y,m,n,.cons k o,p⟩
def a0q (t:TA):TE:=λσ H Q=>t σ H λY a=>Y.length<=sizeLine/\∀p,a p=none->Q (.ref p) (upd a p<|.tup Y)
def a0x (t:TA):TE:=λσ H Q=>t σ H λY a=>Y.length<=sizeLine/\∀p,a p=none->Q (.ref p) (upd a p<|.lst Y)
def YC {i}(h:PA X es t):PE X (.Tuple es i pos) (a0q t):=by intro a s σ H Q I j;refine wpAny_Tuple_spliced (B1 (h pos a s σ H _ I j) λk d ⟨Y,f,g,r,z,q⟩=>⟨by rw[<-r.length];exact z,?_⟩);have l:f d.heap.objs.size=none:=g.hok.fresh (aAi _);refine⟨.ref d.heap.objs.size,upd f d.heap.objs.size (.tup Y),g.laid (t':=d.toks) (λb u e=>aAc _ e) (aAi _) ?_,rfl,q _ l⟩;exact⟨z,k,r,⟨_,aAm _ rfl,rfl,_,rfl⟩⟩
def QA (h:PA X es t):PE X (.List es pos) (a0x t):=by intro a s σ H Q I i;refine wpAny_List_spliced (B1 (h pos a s σ H _ I i) λj d ⟨Y,f,g,r,z,q⟩=>⟨by rw[<-r.length];exact z,?_⟩);have k:f d.heap.objs.size=none:=g.hok.fresh (aAi _);refine⟨.ref d.heap.objs.size,upd f d.heap.objs.size (.lst Y),g.laid (t':=d.toks) (λb u e=>aAc _ e) (aAi _) ?_,rfl,q _ k⟩;exact⟨z,j,0,r,aAm _ rfl⟩
end
abbrev Sp:=List V->Hp->VK->XK->Prop
abbrev KT:=List Env->Hp->bb->XK->av->bb->Prop
structure Env0 (P:Program)(w:World)(K:PySem.W.Frag)(mg:W6)(base:Heap)(A:Around)(outer:List Env)(s:Shared)(H:Hp):Prop where
 frames:A.frames=some outer
 mod:Mod K mg base
 bs:∀b o,base.get? b=some o->s.heap.get? b=some o/\H b=none
 bsz:base.objs.size<=s.heap.objs.size
 funs:s.heap.FunFrames base outer
 frf:∀b∈V6 outer,H b=none
 hok:Y3 P w H s.heap
 bare:AllBare s.gens
def CE (a:List Env)(P:cp)(w:cu)(H:Hp)(s:bb)(Q:VK)(u:av)(s':bb):Prop:=
 ∃v b,s'.os=s.os/\AllBare s'.gens/\Un (V6 a) [] H b s.heap s'.heap/\Y3 P w b s'.heap/\RelV v u/\Q v b
def CR (b:KT)(a:List Env)(P:cp)(w:cu)(H:Hp)(s:bb)(Q:VK)(E:XK)(r:Result)(s':bb):Prop:=
 match r with
 |.ok (.ret u)=>CE a P w H s Q u s'
 |.ok _=>False
 |.error e=>b a H s E e s'
structure FnOk (P:Program)(w:World)(K:PySem.W.Frag)(mg:W6)(base:Heap)(CX:KT)(k:Nat)(f:Addr)(fd:FuncData)(ps:List Str)(sp:Sp):Prop where
 len:∀vs H Q E,sp vs H Q E->vs.length=ps.length
 run:∀(A:Around) (outer:List Env) (s:Shared) (H:Hp) (args:Args) (us:List Value) (vs:List V) (Q:VK) (E:XK),Room k A->Env0 P w K mg base A outer s H->BindsTo s fd args (ps.zip us)->l4 vs us->sp vs H Q E->
  codeAny (model P w) A (.call (.ref f) args) (CR CX outer P w H s Q E) s
def FnOk.imp {P:cp}{w:cu}{K:jb}{mg:W6}{base:cy}{e:KT}{k:Nat}{f:bp}{fd:dA}{ps:List Str}{g b:Sp}(F:FnOk P w K mg base e k f fd ps g)
  (h:∀vs H Q E,b vs H Q E->g vs H Q E):FnOk P w K mg base e k f fd ps b:=
 ⟨λvs H Q E q=>F.len vs H Q E (h _ _ _ _ q),λA a s H d i vs Q E j l m n o=>F.run A a s H d i vs Q E j l m n (h _ _ _ _ o)⟩
section
variable{X:Cx} {pins:K6} {σ:St} {H:Hp} {s s':bb}
def Inv.ae5 (I:Inv X pins σ H s):Env0 X.prog X.w X.K X.mg X.base X.A X.stack s H:=
 ⟨I.ok.frames,I.ok.mod,I.bs,aAq I.ok.bsz I.sz,I.stack,I.ab7,I.hok,I.bare⟩
def Inv.after (I:Inv X pins σ H s)(h:CE X.stack X.prog X.w H s Q u s'):EP X pins σ Q u s':=by obtain⟨v,i,os,a,un,e,r,q⟩:=h;obtain⟨j,g,d,t,f⟩:=s';obtain rfl:f=s.os:=os;exact⟨v,i,I.call (h':=j) (g':=g) (d':=d) (t':=t) (ch:=[]) un e a (λb z=>absurd z (by simp)),r,q⟩
end
def wz (b:Sp)(a:List V)(E:XK)(t:TA):TE:=λσ H Q=>t σ H λd e=>b (d++a) e Q E
def Binds (K:jb)(fd:dA)(ps:List Str)(ds:List av):Prop:=
 ∀(s:bb) (us:List av),K.In s.heap->(us++ds).length=ps.length->BindsTo s fd ⟨us,[]⟩ (ps.zip<|us++ds)
def Binds.all {K:jb}{fd:dA}{ps:List Str}(h:∀a:List av,a.length=ps.length->bindArgs fd ⟨a,[]⟩=pure (ps.zip a)):Binds K fd ps []:=λs a _ b=>by rw[aBL]at b⊢;exact .of_eq (h a b)
def mZ (d:KT)(X:Cx)(E:XK):Prop:=∀(a:K6) (σ:St) (H:Hp) (s:bb) (e:av) (b:bb),Inv X a σ H s->d X.stack H s E e b->X.xe e b
section
variable{X:Cx} {CX:KT} {k:Nat} {f C:bp} {fd:dA} {ps:List Str} {sp:Sp} {dvs:List V} {ds:List av} {E:XK} {x m:Str} {p pos apos:Pos} {e o:cv} {es:List cv} {ta:TE} {t:TA}
def YN (F:FnOk X.prog X.w X.K X.mg X.base CX k f fd ps sp)(i:Room k X.A)(j:Binds X.K fd ps ds)(l:l4 dvs ds)(n:mZ CX X E)(I:Inv X a σ H s)(r:l4 vs b)(h:sp (vs++dvs) H Q E):bc (bt X.prog X.w) X.A (call (.ref f) b) (EP X a σ Q) X.xe s:=by
 have g:l4 (vs++dvs) (b++ds):=r.append l;have q:(b++ds).length=ps.length:=by rw[<-g.length];exact F.len _ _ _ _ h
 refine aFR (aDu (F.run X.A X.stack s H ⟨b,[]⟩ (b++ds) (vs++dvs) Q E i I.ae5 (j s b I.kIn q) g h) λr v d=>?_);cases r with
 |error e=>exact n a σ H s e v I d
 |ok y=>
  cases y with
  |ret u=>exact I.after d
  |next=>exact aAg d
  |brk=>exact aAg d
  |cont=>exact aAg d
def DB (F:FnOk X.prog X.w X.K X.mg X.base CX k f fd ps sp)(d:Room k X.A)(g:Gl X x)(i:X.mg x=some (.ref f))(j:PySem.W.keepIn X.K (.ref f)=true)(l:Binds X.K fd ps ds)(n:l4 dvs ds)(u:mZ CX X E)
  (v:PA X (e::es) t) (y:(x==jd)=false:=by decide) (z:a9 (e::es) X.env=(false,dq e X.env)::a9 es X.env:=by rfl) (B:(cz pos (a9 es X.env)).any (·.1)=false:=by rfl):
  PE X (.Call (.Name x p) (e::es) [] pos) (wz sp dvs E t):=by
 intro a s σ H Q I h;refine aAQ (aM I g i ?_ y);refine PySem.W.callWith_K (h₀:=X.base) I.ok.mod.kin j (B1 (v pos a s σ H _ I h) λJ L ⟨N,O,b,r,q⟩=>⟨b.kIn,?_⟩) z B;exact YN F d l n u b r q
end
section
variable{X:Cx} {CX:KT} {k:Nat} {f C:bp} {fd:dA} {ps ks:List Str} {sp:Sp} {E:XK} {x m:Str} {p pos apos kpos:Pos} {e o:cv} {es:List cv} {kws:List Keyword} {te ta:TE} {t tk:TA} {nm:Option Str}
variable{g:List av->List av->List av} {gV:List V->List V->List V}
end
structure FnScope (N P:List Str)(sc:Scope):Prop where
 kind:sc.kind=.function
 co:sc.isCoroutine=false
 gen:sc.isGenerator=false
 nd:N.Nodup
 pre:N.take P.length=P
 par:∀x∈P,sc.names.lookup x=some .local\/sc.names.lookup x=some .cell
 nofree:∀y∈sc.names,y.2≠.free
theorem qV {kindOf:Str->Option eR}{x:Str}:∀{binds:List (Str×av)} {m:W6},(∀v,(x,v)∉binds)->bindL kindOf binds m x=m x
 |[],_,_=>rfl
 |(n,v)::r,m,h=>by
  unfold bindL;rw[qV λw a=>h w (aAe _ a)];split
  .have:x≠n:=by rintro rfl;exact h v aBn
   simp[this]
  .rfl
theorem qL {kindOf:Str->Option eR}{x:Str}:∀{binds:List (Str×av)} {m:W6},(∀v,(x,v)∉binds)->bindC kindOf binds m x=m x
 |[],_,_=>rfl
 |(n,v)::r,m,h=>by
  unfold bindC;rw[qL λw a=>h w (aAe _ a)];split
  .rfl
  .have:x≠n:=by rintro rfl;exact h v aBn
   simp[this]
theorem rW {kindOf:Str->Option eR}{x:Str}{v:av}:∀{P:List Str} {vs:List av} {i:Nat} {m:W6},P.Nodup->P[i]?=some x->vs[i]?=some v->kindOf x=some .local->
  bindL kindOf (P.zip vs) m x=some v
 |[],_,_,_,_,h,_,_=>by simp at h
 |_::_,[],_,_,_,_,h,_=>by simp at h
 |p::P,w::vs,0,m,d,a,b,e=>by simp at a b;subst a;subst b;show bindL kindOf ((p,w)::P.zip vs) m p=_;unfold bindL;rw[qV λv f=>(aAS.mp d).1 (aDT f).1,h9 e];simp
 |p::P,w::vs,i+1,m,d,a,b,e=>by show bindL kindOf ((p,w)::P.zip vs) m x=_;unfold bindL;exact rW (i:=i) (aAS.mp d).2 (by simpa using a) (by simpa using b) e
theorem rF {kindOf:Str->Option eR}{x:Str}{v:av}:∀{P:List Str} {vs:List av} {i:Nat} {m:W6},P.Nodup->P[i]?=some x->vs[i]?=some v->kindOf x≠some .local->
  bindC kindOf (P.zip vs) m x=some v
 |[],_,_,_,_,h,_,_=>by simp at h
 |_::_,[],_,_,_,_,h,_=>by simp at h
 |p::P,w::vs,0,m,d,a,b,e=>by simp at a b;subst a;subst b;show bindC kindOf ((p,w)::P.zip vs) m p=_;unfold bindC;rw[qL λv f=>(aAS.mp d).1 (aDT f).1,ic e];simp
 |p::P,w::vs,i+1,m,d,a,b,e=>by show bindC kindOf ((p,w)::P.zip vs) m x=_;unfold bindC;exact rF (i:=i) (aAS.mp d).2 (by simpa using a) (by simpa using b) e
def start (N:List Str)(vs:List V):St:=vs.map some++aCO (N.length-vs.length) none
def uK (d:KT)(P:cp)(w:cu)(K:jb)(mg:W6)(base:cy)(N:List Str)(qual:Str)(a:gW)(f:bp)(cd:av)(A:cq)(outer:List Env)(s:bb)(H:Hp)(E:XK):Cx where
 prog:=P
 w:=w
 K:=K
 mg:=mg
 base:=base
 A:=A.deeper (envOfC qual a s.heap.objs.size f cd)
 N:=N
 sa:=s
 Ha:=H
 env:=envOfC qual a s.heap.objs.size f cd
 outer:=outer
 stack:=envOfC qual a s.heap.objs.size f cd::outer
 ex:=[]
 calm:=true
 fn:=λ_=>true
 pn:=[]
 xe:=λe g=>bc (bt P w) (A.deeper<|envOfC qual a s.heap.objs.size f cd) (leaving (envOfC qual a s.heap.objs.size f cd) e) (λ_ b=>d outer H s E e b) (λh b=>d outer H s E h b) g
def vX {sc:gW}{n:Nat}{x:Str}(h:sc.names.lookup x=some .cell):∃c,(d5 n sc.names []).lookup x=some c:=by have q:=PySem.W.cellsFrom_some sc.names n [] (.inl h);exact aFj.mp q
def GQ {L:KT}{P:cp}{w:cu}{K:jb}{mg:W6}{base:cy}{N ps:List Str}{qual:Str}{d:gW}{f:bp}{cd:av}{A:cq}{g:List Env}{s O:bb}{H:Hp}{E:XK}{J:List av}{vs:List V}
  (S:FnScope N ps d) (U:A.handled=none) (l:Env0 P w K mg base A g s H) (hl:vs.length=ps.length) (r:l4 vs J)
  (x:InCallC s s.heap.objs.size (bindL (envOfC qual d s.heap.objs.size f cd).kindOf (ps.zip J) λ_=>none) (d5 (s.heap.objs.size+1) d.names []) (bindC (envOfC qual d s.heap.objs.size f cd).kindOf (ps.zip J) λ_=>none) O):
  Inv (uK L P w K mg base N qual d f cd A g s H E) [] (start N vs) H O:=by
 have bg:ps.length<=N.length:=by have:=iu aGg S.pre;rw[aBP]at this;lia
 obtain⟨C,tk,rfl,Q⟩:=x.done;have m:∀b:bp,b∉(uK L P w K mg base N qual d f cd A g s H E).ex:=λb z=>absurd (show b∈([]:List bp)from z) (by simp);refine⟨⟨l.mod,S.kind,rfl,rfl,aAi _,λy z c C j=>?_,λy o=>?_,λy c _ h=>?_,λ_=>U,aFW l.frames,.inr ⟨rfl,rfl⟩,λb z=>absurd z (m b),l.bs,l.bsz,λb _ _=>m b,λb z=>absurd z (m b),l.funs,l.frf⟩,
  rfl,l.bare,Un.kept Q,⟨_,x.toInCall.ns,λi y v C j h3=>?_⟩,λy c h=>⟨_,x.cell y c h⟩,l.hok.fresh (aAi _),λy c h=>?_,λp t=>absurd (show p∈([]:K6)from t) (by simp),l.hok.kept Q,?_⟩
 .exact name_of_addr x.apart (PySem.mem_of_lookup C) (PySem.mem_of_lookup j)
 .have o:d.names.lookup y=some .cell\/d.names.lookup y=some .free:=o;rcases o with o|o
  .exact vX o
  .exact absurd rfl (S.nofree _<|PySem.mem_of_lookup o)
 .exact aDb (x.above y c<|PySem.mem_of_lookup h)
 .have I:i<vs.length:=by
   unfold start at j;by_cases I:i<vs.length
   .exact I
   .rw[aAA (by simpa using I)]at j;rw[aBq]at j;split at j<;>cases j
  have Y:vs[i]?=some v:=by
   unfold start at j;rw[aAT (by simpa using I),aAI]at j;cases e:vs[i]? with
   |none=>rw[e]at j;cases j
   |some a=>rw[e]at j;cases j;rfl
  obtain⟨u,T,rv⟩:=r.get Y;have t:ps[i]?=some y:=by rw[<-S.pre,List.getElem?_take_of_lt (by lia)];exact C
  have B:ps.Nodup:=by rw[<-S.pre];exact S.nd.sublist (List.take_sublist _ _)
  refine⟨u,rv,?_⟩;rcases S.par y (aAt t)with k|k
  .exact .inl ⟨k,rW B t T k⟩
  .obtain⟨c,e⟩:=vX (n:=s.heap.objs.size+1) k;refine .inr ⟨.inl k,c,e,?_⟩;have q:=x.cell y c e;rw[rF B t T (by show d.names.lookup y≠_;rw[k];decide)]at q;exact q
 .exact l.hok.fresh (aDb<|x.above y c<|PySem.mem_of_lookup h)
 .unfold start;show _=N.length;rw[aAK,aAh,aCo]
  lia
def OA {p:KT}{P:cp}{w:cu}{K:jb}{mg:W6}{base:cy}{k:Nat}{f:bp}{name qual:Str}{g:Arguments}{body:List dm}{a:gW}{dV kV i pm U ct oc:av}{an od:Option bp}
  {B:Array (Option av)} {N ps:List Str} {C:Sp} (lk:K.lookup f=some ⟨oc,od,.func (PySem.W.fnOf name qual g body a dV kV i pm an U ct),B⟩) (dn:PySem.W.codeIn K U qual=true) (S:FnScope N ps a)
  (len:∀vs H Q E,C vs H Q E->vs.length=ps.length)
  (vp:∀(A:cq) (d:List Env) (s:bb) (H:Hp) (vs:List V) (Q:VK) (E:XK),Room k (A.deeper (envOfC qual a s.heap.objs.size f U))->C vs H Q E->
   ∃t,uR (uK p P w K mg base N qual a f U A d s H E) body t/\t {nx:=λ_ H'=>Q .non H',rt:=Q} (start N vs) H):
  FnOk P w K mg base p (k+1) f (PySem.W.fnOf name qual g body a dV kV i pm an U ct) ps C:=by
 refine⟨len,λA d s H args us vs Q E L j hb r l=>?_⟩;have hl:=len _ _ _ _ l;have KX:K.In s.heap:=j.mod.kin.keeps λb o e=>(j.bs b o e).1;have O:s.heap.NoLimit:=j.mod.nolimit.keeps λb o e=>(j.bs b o e).1;have oh:∀y∈ps.zip us,a.names.lookup y.1=some .local\/(a.names.lookup y.1=some .cell/\((d5 (s.heap.objs.size+1) a.names []).lookup y.1).isSome=true):=λ⟨n,v⟩ hy=>by
  rcases S.par n (aDT hy).1 with q|q
  .exact .inl q
  .exact .inr ⟨q,PySem.W.cellsFrom_some _ _ _ (.inl q)⟩
 refine codeAny_call_function L.depth (KX _ _ lk) rfl S.co S.gen rfl (PySem.W.codeRec_of KX dn) (hb _ _ _ _ ?_);refine wpAny_newFunctionEnv_cells S.kind oh λenv he s1 x=>?_;subst he;refine⟨O.keeps x.toInCall.keep,codeAny_func ?_⟩;obtain⟨t,ht,hq⟩:=vp A d s H vs Q E (L.deeper _) l;have I:Inv (uK p P w K mg base N qual a f U A d s H E) [] (start N vs) H s1:=GQ S L.hd j hl r x;refine aBG (ht [] s1 (start N vs) H _ I hq) (λfl T h=>?_) λe T h=>h;have m:∀{z:St} {H':Hp} {v:V} {u:av},Inv (uK p P w K mg base N qual a f U A d s H E) [] z H' T->RelV v u->Q v H'->CE d P w H s Q u T:=
  λ{z H' v u} J Y q=>⟨v,H',J.os,J.bare,J.base,J.hok,Y,q⟩
 cases fl with
 |ret u=>obtain⟨v,z,H',J,Y,q⟩:=h;exact m J Y q
 |next=>obtain⟨z,H',J,q⟩:=h;exact m (v:=V.non) (u:=Value.none) J rfl q
 |brk=>obtain⟨_,_,_,q⟩:=h;exact aAg q
 |cont=>obtain⟨_,_,_,q⟩:=h;exact aAg q
section
variable{X:Cx} {x:Str} {p pos:Pos} {e:cv} {es:List cv} {t:TA} {id T:String} {r:List V->Hp->VK->Prop}
end
end L2
namespace HT
open PySem PyProof.Rows
def lexLt:List Int->List Int->Bool
 |[],[]=>false
 |[],_::_=>true
 |_::_,[]=>false
 |x::Y,y::N=>if x=y then lexLt Y N else decide (x<y)
def F5 (x y:Int)(Y N:List Int):lexLt (x::Y) (y::N)=if x=y then lexLt Y N else decide (x<y):=rfl
def X7:lexLt [] []=false:=rfl
def M7 (y:Int)(N:List Int):lexLt [] (y::N)=true:=rfl
def C5 (x:Int)(Y:List Int):lexLt (x::Y) []=false:=rfl
def yK (A:cq)(s:bb)(a:Int)(t:Tok)(c:Int)(u:Tok):∃e,SeqAt.EqAt A s (.int a t) (.int c u) e/\(e=true↔a=c):=
 ⟨(a==c),aEV a t c u,by simp⟩
def wY (A:cq)(s:bb)(a:Int)(t:Tok)(c:Int)(u:Tok)(prog:cp)(w:cu)(E:D3)(Q:D3)(h:Q (.bool (decide (a<c))) s):
  bc (bt prog w) A (richCompare .Lt (.int a t) (.int c u)) Q E s:=
 (PyProof.Rows.lt_int h:bc (bt prog w) A (d3 .Lt (.int a t) (.int c u)) Q E s)
section
open PySem.SeqAt
open PySem.AutoSeq1 (wpAny_loadPart')
open PySem.MeetsSeq PySem.MeetsSeq2 PySem.MeetsSeq3
def qF (l b:bp)(B m:Array av)(n n2:Nat)(dd vt:Option bp)(sl uo:Array (Option av))(ns z:List Int)(U:IntsAre B.toList ns)(Y:IntsAre m.toList z):
  Meets (Builtin.«tuple.__lt__» ⟨[.ref l,.ref b],[]⟩)
   (λ_ R s=>s.heap.get? l=some {cls:=.type "tuple",dict:=dd,data:=.seq B n,slots:=sl}/\s.heap.get? b=some {cls:=.type "tuple",dict:=vt,data:=.seq m n2,slots:=uo}/\
    R (.ok (.ret (.bool (lexLt ns z)))) s):=
 .of_wp λj w A R s h=>by
  obtain⟨C,g,d,E,os⟩:=s;obtain⟨hl,hb,h⟩:=h;have f2:=AutoSeq1.sub_tuple_tuple;have z1:B.size=ns.length:=by rw[<-U.length];simp
  have z2:m.size=z.length:=by rw[<-Y.length];simp
  wp_walk using aEC hl,aEC hb,aCw _ (λrest b L=>b.1=none/\L=⟨C,g,d,E,os⟩/\∃(H I:List av) (o p:List Int),rest=H.zip I/\
   IntsAre H o/\IntsAre I p/\o.length+m.size=p.length+B.size/\R (.ok (.ret (.bool (lexLt o p)))) ⟨C,g,d,E,os⟩) _
  case turn=>
   rintro⟨y,x⟩ rest b L ⟨N,rfl,H,I,o,p,i,O,J,f,k⟩;cases O with
   |nil=>rw[List.zip_nil_left]at i;cases i
   |cons a t r=>
    cases J with
    |nil=>rw[List.zip_nil_right]at i;cases i
    |cons c u v=>
     rw[aBW]at i;injection i with Q ai;injection Q with hy hx;subst hy hx;rw[F5]at k;simp only[aAv]at f;obtain⟨e,he,vv⟩:=yK A.in1 ⟨C,g,d,E,os⟩ a t c u;refine aAa (he j w _ _ ?_);cases e with
     |true=>
      rw[h9 (vv.mp rfl)]at k
      wp_walk
      exact⟨rfl,rfl,_,_,_,_,ai,r,v,by lia,k⟩
     |false=>
      rw[ic (λq=>absurd (vv.mpr q) aAV)]at k;have T:=wY A.in1 ⟨C,g,d,E,os⟩ a t c u j w
      wp_walk using T
      exact⟨_,rfl,by simpa using k⟩
  case fin=>
   rintro⟨b1,b2⟩ L ⟨N,rfl,H,I,o,p,i,O,J,f,k⟩;simp only at N;subst N;have hv:lexLt o p=decide (B.size<m.size):=by
    cases O with
    |nil=>
     cases J with
     |nil=>simp only[aBr]at f;rw[X7];exact(decide_eq_false (by lia)).symm
     |cons c u hw=>simp only[aBr,aAv]at f;rw[M7];exact(decide_eq_true (by lia)).symm
    |cons a t hv=>
     cases J with
     |nil=>simp only[aBr,aAv]at f;rw[C5];exact(decide_eq_false (by lia)).symm
     |cons c u hw=>rw[aBW]at i;cases i
   rw[hv]at k
   wp_walk
   exact⟨_,rfl,by simpa[Builtin.Tuple.tupleCompareSizes]using k⟩
  case h=>exact⟨rfl,rfl,B.toList,m.toList,ns,z,rfl,U,Y,by lia,h⟩
end
section
variable{prog:cp} {w:cu} {A:cq} {E:D3} {s:bb}
def lt_tupInts {Q:D3}(p:IsTup s.heap l B)(q:IsTup s.heap b e)(r:IntsAre B.toList ns)(t:IntsAre e.toList d)(u:A.units<dy)(h:Q (.bool (lexLt ns d)) s):bc (bt prog w) A (d3 .Lt (.ref l) (.ref b)) Q E s:=by
 obtain⟨⟨cls,v,f,y⟩,g,i,n,j⟩:=id p;obtain⟨⟨k,z,data2,C⟩,m,o,H,a⟩:=id q;simp only at i j o a;subst i j o a;exact richCompare_meets_room (op:=.Lt) ⟨_,g,rfl⟩ ⟨_,m,rfl⟩ PySem.F.slot_tuple_lt PySem.F.entry_tuple_lt (PySem.F.args_tuple_lt_2 _ _) (qF l b B e n H v z y C ns d r t)
  ⟨g,m,show aCJ (lexLt ns d)≠Value.notImplemented/\Q (.bool (lexLt ns d)) s from⟨(λx=>nomatch x),h⟩⟩ u
def cat_tup {Q:D3}(u:IsTup s.heap t vs.toArray)(v:IsTup s.heap b ws.toArray)(h:vs≠[])(x:ws=[]->Q (.ref t) s)(y:ws≠[]->Q (.ref s.heap.objs.size) {s with heap:=s.heap.push {cls:=.type "tuple",data:=.seq (vs++ws).toArray}})(z:vs.length+ws.length<=sizeLine):bc (bt prog w) A (eQ .Add (.ref t) (.ref b)) Q E s:=by
 obtain⟨⟨cls,i,data,j⟩,d,k,n,l⟩:=id u;obtain⟨⟨m,o,data2,p⟩,f,q,r,a⟩:=id v;simp only at k l q a;subst k l q a;have e:vs.toArray++ws.toArray=(vs++ws).toArray:=by simp
 by_cases g:ws=[]
 .exact aFN ⟨_,d,rfl⟩ ⟨_,f,rfl⟩ aFw seq_tuple_add PySem.F.slot_tuple_add PySem.F.entry_tuple_add (PySem.F.args_tuple_add_2 _ _)
   (tuple_addW1 t b vs.toArray ws.toArray n r i o j p (by simpa using h) (by simp[g])) ⟨d,f,x g⟩
 .refine aFN ⟨_,d,rfl⟩ ⟨_,f,rfl⟩ aFw seq_tuple_add PySem.F.slot_tuple_add PySem.F.entry_tuple_add (PySem.F.args_tuple_add_2 _ _)
   (tuple_addW2 t b vs.toArray ws.toArray n r i o j p (by simpa using h) (by simpa using g) (by rw[aAl,aAl];exact z)) ⟨d,f,?_⟩
  rw[e];exact y g
def sIx (n d:Nat):Option Int->Nat
 |none=>d
 |some v=>if v<0 then(v+(n:Int)).toNat else min v.toNat n
def sIx_none (n d:Nat):sIx n d none=d:=rfl
def sIx_nat (n d k:Nat):sIx n d (some (k:Int))=min k n:=by show(if(k:Int)<0 then((k:Int)+(n:Int)).toNat else min (k:Int).toNat n)=min k n;rw[ic (by lia),aBT]
def WV (n d:Nat)(b:d<=n)(o:Option Int):sIx n d o<=n:=by
 cases o with
 |none=>exact b
 |some v=>
  show(if v<0 then(v+(n:Int)).toNat else min v.toNat n)<=n;by_cases a:v<0
  .rw[h9 a];lia
  .rw[ic a];exact Nat.min_le_right _ _
def DA (v:Int)(n d:Nat):(if v<0 then max (v+(n:Int)) 0 else min v (n:Int))=((sIx n d (some v):Nat):Int):=by
 show(if v<0 then max (v+(n:Int)) 0 else min v (n:Int))=(((if v<0 then(v+(n:Int)).toNat else min v.toNat n):Nat):Int);by_cases a:v<0
 .simp only[h9 a];lia
 .simp only[ic a];lia
def BQ (lo a:Option Int)(n:Nat):aDF lo a 1 (n:Int)=(((sIx n 0 lo:Nat):Int),((sIx n n a:Nat):Int)):=by
 have b:¬((1:Int)<0):=by lia
 unfold aDF;simp only[b,if_false];refine aFQ ?_ ?_
 .cases lo with
  |none=>rfl
  |some v=>exact DA v n 0
 .cases a with
  |none=>rfl
  |some v=>exact DA v n n
def BU (i j:Nat):aCP (i:Int) (j:Int) 1=j-i:=by
 unfold aCP;have a:(1:Int)>0:=by lia
 simp only[a,if_true,Int.ediv_one];split<;>lia
def nR {Q:Option Int->bb->Prop}(p:IsPart v o)(h:Q o s):bc (bt prog w) A (Builtin.Slice.slicePartIndex v) Q E s:=by
 cases p with
 |none=>exact slicePart_none h
 |int i t=>exact slicePart_int h
def jZ {sl:bp}{d e:av}{lo a:Option Int}{n:Nat}{Q:Int×Int×Nat->bb->Prop}(g:s.heap.IsSliceOf sl d e .none)(i:IsPart d lo)(j:IsPart e a)
  (h:Q (((sIx n 0 lo:Nat):Int),1,sIx n n a-sIx n 0 lo) s):bc (bt prog w) A (aEO (.ref sl) (pure (n:Int))) Q E s:=by
 obtain⟨os,b,k,f⟩:=id g;unfold aEO Builtin.Slice.sliceFields;refine aAa (aAa<|aCQ b f (x:=d) rfl<|aAa<|aCQ b f (x:=e) rfl<|aAa<|aCQ b f (x:=.none) rfl<|aAb ?_);refine aAa (slicePart_none ?_);show bc _ _ (if((1:Int)==0)=true then _ else _) _ _ s;rw[ic (by decide)];refine aAa (nR i<|aAa<|nR j<|aAa<|aAb ?_);show bc _ _ (match aDF lo a 1 (n:Int)with|(lo,a)=>pure (lo,(1:Int),aCP lo a 1)) _ _ s;rw[BQ lo a n];show bc _ _ (pure (((sIx n 0 lo:Nat):Int),(1:Int),aCP ((sIx n 0 lo:Nat):Int) ((sIx n n a:Nat):Int) 1)) _ _ s;rw[BU];exact aAb h
def OM (Y:Array av)(i k:Nat):((aAU k).filterMap λ(m:Nat)=>Y[((i:Int)+(m:Int)*1).toNat]?).toArray=((Y.toList.drop i).take k).toArray:=by
 have e:(λ(m:Nat)=>Y[((i:Int)+(m:Int)*1).toNat]?)=λm=>Y[i+m]?:=by
  funext m
  have:((i:Int)+(m:Int)*1).toNat=i+m:=by lia
  rw[this]
 rw[e];have:=pick_run Y i k;rw[aDm]at this;have a:((λx=>Y[x]?)∘λx=>i+x)=λm=>Y[i+m]?:=rfl;rw[a]at this;rw[this]
def getItem_tuple_cut {t sl:bp}{B:Array av}{i j:av}{lo a:Option Int}{Q:D3}(b:IsTup s.heap t B)(k:s.heap.IsSliceOf sl i j .none)(l:IsPart i lo)(n:IsPart j a)
  (o:¬(sIx B.size 0 lo=0/\sIx B.size B.size a=B.size))
  (h:Q (.ref s.heap.objs.size) {s with heap:=s.heap.push {cls:=.type "tuple",data:=.seq ((B.toList.drop (sIx B.size 0 lo)).take (sIx B.size B.size a-sIx B.size 0 lo)).toArray}})
  (r:B.size<=sizeLine):bc (bt prog w) A (getItem (.ref t) (.ref sl)) Q E s:=by
 have d:sizeOk (.seq ((B.toList.drop<|sIx B.size 0 lo).take (sIx B.size B.size a-sIx B.size 0 lo)).toArray):=by
  show((B.toList.drop<|sIx B.size 0 lo).take (sIx B.size B.size a-sIx B.size 0 lo)).toArray.size<=sizeLine;rw[aAl,aBP,aDJ,aBb]
  lia
 have u:sIx B.size B.size a<=B.size:=WV _ _ (aAi _) a;obtain⟨os,e,p,v⟩:=id k;have f:s.TypeIs (.ref sl) "slice":=⟨os,e,p⟩;unfold getItem;try with_reducible refine aAR ?_
 first|refine aAa (aAb ?_)|skip
 refine aAa (wpAny_sequenceKey b.typeIs (by decide) ?_);refine aAa (aCy (name:=aDv "__getitem__") b.typeIs aCA
  (aBs aCA b.typeIs entry_tuple_getitem ?_ (args_tuple_getitem _ _)))
 show bc _ _ (aDD (.ref t)>>=_) _ _ s;refine aAa (tupleItemsOf_ b ?_);refine aAa (aDP f ?_);rw[h9 (by decide)];refine aAa (jZ k l n ?_);have g:¬((((sIx B.size 0 lo:Nat):Int)==0&&(1:Int)==1&&(sIx B.size B.size a-sIx B.size 0 lo)==B.size)=true):=by intro q;rw[aAF,aAF]at q;have x:((sIx B.size 0 lo:Nat):Int)=0:=eq_of_beq q.1.1;have y:sIx B.size B.size a-sIx B.size 0 lo=B.size:=eq_of_beq q.2;exact o ⟨by lia,by lia⟩
 show bc _ _ (if(((sIx B.size 0 lo:Nat):Int)==0&&(1:Int)==1&&(sIx B.size B.size a-sIx B.size 0 lo)==B.size)=true then _ else _) _ _ s;rw[ic g,OM];first
  |exact aAa (m:=aCW _) (aBH (aAb ⟨_,rfl,aAb h⟩) d)
  |exact aAa (m:=aCW _) (aBH (aAa<|aAb<|aAb ⟨_,rfl,aAb h⟩) d)
  |exact aAa (aAa (m:=aCW _)<|aBH (aAb<|aAb ⟨_,rfl,aAb h⟩) d)
  |exact aAa (aAa (m:=aCW _)<|aBH (aAb ⟨_,rfl,aAb h⟩) d)
end
end HT
namespace L2
open PySem PySem.Spec PyProof.Rows
abbrev TO:=St->Hp->(Option Int->Hp->Prop)->Prop
def PO (X:Cx)(e:Option cv)(t:TO):Prop:=
 ∀(a:K6) (s:bb) (σ:St) (H:Hp) (Q:Option Int->Hp->Prop),Inv X a σ H s->t σ H Q->
  bc (bt X.prog X.w) X.A (evalPart e X.env) (λu d=>∃o b,Inv X a σ b d/\IsPart u o/\Q o b) X.xe s
def UI:TO:=λ_ H Q=>Q none H
def qj (t:TE):TO:=λσ H Q=>t σ H λx a=>∃i,x=.int i/\Q (some i) a
section
variable{X:Cx} {e:cv} {te:TE} {lo hi:Option cv} {tl th:TO} {pos p2:Pos}
def QP:PO X none UI:=by intro a s σ H Q I h;rw[evalPart_none];exact aAb ⟨none,H,I,.none,h⟩
def TM (h:PE X e te):PO X (some e) (qj te):=by intro a s σ H Q I b;rw[evalPart_some];refine B1 (h a s σ H _ I b) λu k ⟨x,d,f,g,j⟩=>?_;obtain⟨i,rfl,q⟩:=j;obtain⟨t,rfl⟩:=g;exact⟨some i,d,f,.int i t,q⟩
def ZL (X:Cx)(r:V->Option Int->Option Int->Hp->VK->Prop):Prop:=
 ∀(a:K6) (s:bb) (σ:St) (H:Hp) (x:V) (v b d:av) (lo hi:Option Int) (f:bp) (Q:VK),Inv X a σ H s->RelV x v->s.heap.IsSliceOf f b d .none->IsPart b lo->IsPart d hi->r x lo hi H Q->
  ∃T id,typeLookup (.type T) "__getitem__"=pure (some<|.builtin id)/\s.TypeIs v T/\bc (bt X.prog X.w) X.A (getItem v<|.ref f) (EP X a σ Q) X.xe s
def ZL.or {r b:V->Option Int->Option Int->Hp->VK->Prop}(h:ZL X r)(h':ZL X b):ZL X (λx lo hi H Q=>r x lo hi H Q\/b x lo hi H Q):=by
 intro a s σ H x v d f lo hi g Q I i j k l q;rcases q with q|q
 .exact h a s σ H x v d f lo hi g Q I i j k l q
 .exact h' a s σ H x v d f lo hi g Q I i j k l q
def tSl (r:V->Option Int->Option Int->Hp->VK->Prop)(te:TE)(tl th:TO):TE:=λσ H Q=>te σ H λx a=>tl σ a λl b=>th σ b λu d=>r x l u d Q
def KO {r:V->Option Int->Option Int->Hp->VK->Prop}(j:ZL X r)(k:PE X e te)(m:PO X lo tl)(n:PO X hi th):PE X (.Subscript e (.Slice lo hi none p2) pos) (tSl r te tl th):=by intro a s σ H Q I h;refine Subscript_ (B1 (k a s σ H _ I h) λv o ⟨x,p,t,y,z⟩=>?_);refine wpAny_Slice (B1 (m a o σ p _ t z) λf B ⟨l,C,E,J,L⟩=>B1 (n a B σ C _ E L) λg d ⟨u,i,N,O,U⟩=>?_);rw[evalPart_none];refine aAb ?_;have Y:Inv X a σ i {d with heap:=d.heap.push {cls:=.type "slice",data:=.fields #[f,g,.none]}}:=N.kept (t':=d.toks) λb ob q=>aAc _ q;obtain⟨T,id,hT,ht,hg⟩:=j a {d with heap:=d.heap.push {cls:=.type "slice",data:=.fields #[f,g,.none]}} σ i x v f g l u d.heap.objs.size Q Y y (Heap.IsSliceOf.new ..) J O U;show bc (bt X.prog X.w) X.A (subscriptTail e (.Slice lo hi none p2) v<|.ref d.heap.objs.size) (EP X a σ Q) X.xe {d with heap:=d.heap.push {cls:=.type "slice",data:=.fields #[f,g,.none]}};exact tail_any (ops:=[.ref d.heap.objs.size,v]) ht hT hg (by with_unfolding_all rfl)
def yH (Y:List V)(lo hi:Option Int):List V:=(Y.drop<|HT.sIx Y.length 0 lo).take (HT.sIx Y.length Y.length hi-HT.sIx Y.length 0 lo)
def kN (Y:List V)(lo hi:Option Int):(yH Y lo hi).length<=Y.length:=by
 unfold yH;rw[aBP,aDJ]
 lia
def uz (K:jb):V->Option Int->Option Int->Hp->VK->Prop:=λx lo hi H Q=>∃a Y,x=.ref a/\W0 K H a Y/\
 ¬(HT.sIx Y.length 0 lo=0/\HT.sIx Y.length Y.length hi=Y.length)/\∀p,H p=none->Q (.ref p) (upd H p<|.tup (yH Y lo hi))
def aw:ZL X (uz X.K):=by
 intro g s σ H x v u w lo hi y Q I k l m n h;obtain⟨a,Y,rfl,p,t,q⟩:=h;cases k;obtain⟨f,r,i,j⟩:=I.tuple p;have d:f.toArray.size=Y.length:=by rw[aAl];exact r.length.symm
 refine⟨"tuple",_,aCA.lookup,i.typeIs,?_⟩;refine HT.getItem_tuple_cut i l m n (by rw[d];exact t) ?_ (by rw[d];exact j);rw[d];refine⟨.ref s.heap.objs.size,_,I.laid (t':=s.toks) (o:=.tup (yH Y lo hi)) (λb z q=>aAc _ q) (aAi _) ?_,rfl,q _ (I.hok.fresh<|aAi _)⟩;exact⟨aAq (kN Y lo hi) j,_,(r.drop<|HT.sIx Y.length 0 lo).take (HT.sIx Y.length Y.length hi-HT.sIx Y.length 0 lo),IsTup.new _ _⟩
def cx (K:jb):R2:=λx y H Q=>∃a b Y N,x=.ref a/\y=.ref b/\W0 K H a Y/\W0 K H b N/\Y≠[]/\Y.length+N.length<=sizeLine/\
 (N=[]->Q (.ref a) H)/\(N≠[]->∀p,H p=none->Q (.ref p) (upd H p<|.tup (Y++N)))
def l4.ac5 (r:l4 Y a):a=[]↔Y=[]:=by
 cases r with
 |nil=>simp
 |cons _ _=>simp
def ER:kU X (eQ .Add) (cx X.K):=by intro g s σ H x y v u Q I j k h;obtain⟨a,b,Y,N,rfl,rfl,l,m,n,i,p,r⟩:=h;cases j;cases k;obtain⟨t,f,A,_⟩:=I.tuple l;obtain⟨B,d,p2,_⟩:=I.tuple m;refine HT.cat_tup A p2 (λz=>n (f.ac5.mp z)) (λz=>⟨.ref a,H,I,rfl,p (d.ac5.mp z)⟩) (λz=>?_) (by rw[<-f.length,<-d.length];exact i);refine⟨.ref s.heap.objs.size,_,I.laid (t':=s.toks) (o:=.tup (Y++N)) (λb C q=>aAc _ q) (aAi _) ?_,rfl,r (λw=>z (d.ac5.mpr w)) _ (I.hok.fresh<|aAi _)⟩;exact⟨by rw[aAK];exact i,_,f.append d,IsTup.new _ _⟩
end
def zH (n:Nat)(i:Int):Option Nat:=if 0<=i then(if i<n then some i.toNat else none)else if-(n:Int)<=i then some (i+n).toNat else none
def nQ {α:Type}(Y:List α)(i:Int):Option α:=(zH Y.length i).bind λj=>Y[j]?
def EJ (h:zH n i=some j):seqIndex? i n=some j/\j<n/\-(n:Int)<=i/\i<n:=by
 unfold zH at h;by_cases b:0<=i
 .rw[h9 b]at h;by_cases a:i<n
  .rw[h9 a]at h;have e:i.toNat=j:=Option.some.inj h;exact⟨by rw[seqIndex_of b a,e],by lia,by lia,a⟩
  .rw[ic a]at h;cases h
 .rw[ic b]at h;by_cases a:-(n:Int)<=i
  .rw[h9 a]at h;have e:(i+n).toNat=j:=Option.some.inj h;exact⟨by rw[seqIndex_neg (by lia) a,e],by lia,a,by lia⟩
  .rw[ic a]at h;cases h
def EY {α:Type}{Y:List α}{i:Int}{v:α}(h:nQ Y i=some v):∃j,seqIndex? i Y.length=some j/\Y[j]?=some v/\j<Y.length/\-(Y.length:Int)<=i/\i<Y.length:=by
 unfold nQ at h;cases e:zH Y.length i with
 |none=>rw[e]at h;cases h
 |some j=>rw[e]at h;obtain⟨a,b,d,f⟩:=EJ e;exact⟨j,a,h,b,d,f⟩
def RF (b:cv):Prop:=∀o i,subscripted b false o i=operate [o,i] (getItem o i)
def IxR (X:Cx)(r:R2):Prop:=
 ∀(d a:cv) (b:K6) (s:bb) (σ:St) (H:Hp) (x y:V) (v u:av) (Q:VK),Inv X b σ H s->RelV x v->RelV y u->r x y H Q->
  subscripted a false v u=operate [v,u] (getItem v u)->bc (bt X.prog X.w) X.A (subscriptTail d a v u) (EP X b σ Q) X.xe s
def MtR (X:Cx)(id:String)(r:V->List V->Hp->VK->Prop):Prop:=
 ∀(a:K6) (s:bb) (σ:St) (H:Hp) (x:V) (Y:List V) (v:av) (b:List av) (Q:VK),Inv X a σ H s->RelV x v->l4 Y b->r x Y H Q->
  bc (bt X.prog X.w) X.A (call (.builtin id) (v::b)) (EP X a σ Q) X.xe s
section
variable{X:Cx} {a b:cv} {ta tb:TE} {pos:Pos}
def a0c (K:jb):R2:=λx y H Q=>∃p Y i v,x=.ref p/\y=.int i/\N0 K H p Y/\nQ Y i=some v/\Q v H
def a1l (K:jb):R2:=λx y H Q=>∃p Y i v,x=.ref p/\y=.int i/\W0 K H p Y/\nQ Y i=some v/\Q v H
def UB:IxR X (a0c X.K):=by
 intro g k d s σ H x y v u Q I E J h A;obtain⟨p,Y,i,z,rfl,rfl,L,N,q⟩:=h;cases E;obtain⟨t,rfl⟩:=J;obtain⟨l,r,m,hz⟩:=I.list L;obtain⟨j,f,O,h3,T,U⟩:=EY N;obtain⟨w,B,n⟩:=r.get O;have hl:=r.length;have hn:=tR;have e:EP X d σ Q w s:=⟨z,H,I,n,q⟩;by_cases C:0<=i
 .have o:i.toNat=j:=by rw[seqIndex_of C U]at f;exact Option.some.inj f
  exact item_listR m.isList C (by lia) (by rw[o];simpa using B) e A
 .have o:(i+(l.toArray.size:Int)).toNat=j:=by rw[seqIndex_neg (by lia) T]at f;rw[aAl,<-hl];exact Option.some.inj f
  exact subscriptTail_builtinR (x:=w) m.isList.typeIs aFk.lookup
   (wpAny_getItem_list_neg (Q:=λr s'=>r=w/\EP X d σ Q r s') m.isList (by lia) (by rw[aAl]<;>lia) (by lia) (by rw[o];simpa using B) ⟨rfl,e⟩) A
def WN:IxR X (a1l X.K):=by
 intro e f d s σ H x y v u Q I m n h o;obtain⟨p,Y,i,z,rfl,rfl,A,B,q⟩:=h;cases m;obtain⟨t,rfl⟩:=n;obtain⟨C,r,l,T⟩:=I.tuple A;obtain⟨j,E,J,U,h4,h5⟩:=EY B;obtain⟨w,L,g⟩:=r.get J;have N:=r.length;have hn:=tR;have k:EP X d σ Q w s:=⟨z,H,I,g,q⟩;exact subscriptTail_builtinR (x:=w) l.typeIs aCA.lookup
  (getItem_tuple (j:=j) (Q:=λr O=>r=w/\EP X d σ Q r O) l (by lia) (by lia) (by rw[aAl,<-N];exact E) (by simpa using L) ⟨rfl,k⟩) o
def AK (d:List av)(n j:Nat)(u:av):aBx (·.setIfInBounds j u) {cls:=.type "list",data:=.seq d.toArray n}={cls:=.type "list",data:=.seq (d.set j u).toArray n}:=by simp[aBx]
def Inv.lst {f:K6}{σ:St}{H:Hp}{s:bb}{p:bp}{Y:List V}(I:Inv X f σ H s)(h:H p=some (.lst Y)):
  ∃(d:List av) (n:Nat),l4 Y d/\s.heap.get? p=some {cls:=.type "list",data:=.seq d.toArray n}/\Y.length<=sizeLine:=by
 obtain⟨z,d,n,r,e⟩:=I.hok p _ h;exact⟨d,n,r,e,z⟩
def Inv.af1 {d:K6}{σ:St}{H:Hp}{s:bb}{p:bp}{Y N:List V}{g its':List av}{n i:Nat}{f:Obj->Obj}(I:Inv X d σ H s)(h:H p=some (.lst Y))
  (k:s.heap.get? p=some {cls:=.type "list",data:=.seq g.toArray n}) (j:f {cls:=.type "list",data:=.seq g.toArray n}={cls:=.type "list",data:=.seq its'.toArray i}) (r:l4 N its') (hz:N.length<=sizeLine) (t:Nat):
  Inv X d σ (upd H p (.lst N)) {s with heap:=s.heap.update p f,toks:=t}:=by
 have e:(s.heap.update p f).get? p=some {cls:=.type "list",data:=.seq its'.toArray i}:=by rw[aBf f k (by rw[j]<;>rfl),j]
 refine I.write (x:=p) (e:=p) (by rw[h];trivial) (.inl rfl) (λb u l q=>(aAC _ _<|aBU l).trans q) ⟨_,e⟩ ?_;exact⟨hz,its',i,r,e⟩
def nq:V->V->V->Hp->(Hp->Prop)->Prop:=λo i v H Q=>∃p Y k j,o=.ref p/\i=.int k/\H p=some (.lst Y)/\zH Y.length k=some j/\Q (upd H p<|.lst (Y.set j v))
def xL:XH X nq:=by
 intro d s σ H o i v N O u Q I B C E h;obtain⟨p,Y,k,j,rfl,rfl,w,J,q⟩:=h;cases B;obtain⟨t,rfl⟩:=C;obtain⟨e,n,r,g,L⟩:=I.lst w;obtain⟨f,T,x,y⟩:=EJ J;have l:=r.length;have U:=tR;have z:Inv X d σ (upd H p<|.lst (Y.set j v)) {s with heap:=s.heap.update p (aBx (·.setIfInBounds j u))}:=
  I.af1 w g (AK e n j u) (r.set E j) (by rw[aED];exact L) s.toks
 by_cases A:0<=k
 .have m:k.toNat=j:=by rw[seqIndex_of A y]at f;exact Option.some.inj f
  exact PySem.W.ki_setAt g A (by lia) (by rw[aAl,<-l];exact y) (by rw[m];exact⟨_,z,q⟩)
 .have m:(k+(e.toArray.size:Int)).toNat=j:=by rw[seqIndex_neg (by lia) x]at f;rw[aAl,<-l];exact Option.some.inj f
  exact PySem.W.ki_setBack g (by lia) (by rw[aAl,<-l];exact x) (by lia) (by rw[m];exact⟨_,z,q⟩)
def tK (lo d:Option Int)(n:Nat):(fg lo d none n).1=((HT.sIx n 0 lo:Nat):Int)/\(fg lo d none n).2.1=((HT.sIx n n d:Nat):Int)/\(fg lo d none n).2.2=1:=by
 refine⟨?_,?_,rfl⟩
 .cases lo with
  |none=>simp[fg,HT.sIx]
  |some i=>
   simp only[fg,HT.sIx,Option.getD_none,show(1:Int)>0 by decide,if_true];by_cases h:i<0
   .simp only[h,if_true]<;>lia
   .simp only[h,if_false]<;>lia
 .cases d with
  |none=>simp[fg,HT.sIx]
  |some i=>
   simp only[fg,HT.sIx,Option.getD_none,show(1:Int)>0 by decide,if_true];by_cases h:i<0
   .simp only[h,if_true]<;>lia
   .simp only[h,if_false]<;>lia
def qA (d:List av)(lo e:Option Int):slicePick d.toArray lo e none=((d.drop (HT.sIx d.length 0 lo)).take (HT.sIx d.length d.length e-HT.sIx d.length 0 lo)).toArray:=by obtain⟨f,g,h⟩:=tK lo e d.toArray.size;unfold slicePick;rw[f,g,h];simp only[sliceRange_one,pick_run,aAl]<;>rfl
def jw (K:jb):V->Option Int->Option Int->Hp->VK->Prop:=λx lo d H Q=>∃a Y,x=.ref a/\N0 K H a Y/\∀p,H p=none->Q (.ref p) (upd H p<|.lst (yH Y lo d))
def QU:ZL X (jw X.K):=by intro e s σ H x v p t lo d u Q I g i j k h;obtain⟨a,Y,rfl,l,q⟩:=h;cases g;obtain⟨m,r,f,n⟩:=I.list l;have hlen:=r.length;refine⟨"list",_,aFk.lookup,f.isList.typeIs,?_⟩;refine wpAny_getItem_list_slice f.isList i j k .none (by simp) ?_ (by rw[aAl]<;>lia);rw[qA,<-hlen];refine⟨.ref s.heap.objs.size,_,I.laid (t':=s.toks) (o:=.lst (yH Y lo d)) (λb w q=>aAc _ q) (aAi _) ?_,rfl,q _ (I.hok.fresh<|aAi _)⟩;exact⟨aAq (kN Y lo d) n,_,0,(r.drop<|HT.sIx Y.length 0 lo).take (HT.sIx Y.length Y.length d-HT.sIx Y.length 0 lo),aAm _ rfl⟩
def iH:rQ X (.builtin "len") (λY H Q=>∃p N,Y=[.ref p]/\(N0 X.K H p N\/W0 X.K H p N)/\Q (.int N.length) H):=by
 intro j s σ H Y m Q I r h;obtain⟨p,N,rfl,e,q⟩:=h;obtain⟨u,rfl,k⟩:=vals1 r;cases k;have n:=tR;rcases e with e|e
 .obtain⟨f,g,i,l⟩:=I.list e;have d:=g.length;exact Calls.call_len_list i.isList (by simp only[aAl]<;>lia) ⟨.int N.length,H,I.tok _,⟨s.toks+1,by rw[aAl,d]⟩,q⟩
 .obtain⟨f,g,i,l⟩:=I.tuple e;have d:=g.length;exact len_tuple i (by simp only[aAl]<;>lia) ⟨.int N.length,H,I.tok _,⟨s.toks+1,by rw[aAl,d]⟩,q⟩
def gJ:rQ X (.type "list") (λY H Q=>∃p N,Y=[.ref p]/\(N0 X.K H p N\/W0 X.K H p N)/\∀l,H l=none->Q (.ref l) (upd H l (.lst N))):=by
 intro j s σ H Y J Q I r h;obtain⟨p,N,rfl,k,q⟩:=h;obtain⟨u,rfl,E⟩:=vals1 r;cases E;have m:∀(d:List av),l4 N d->N.length<=sizeLine->∀(f:cy) (g:Nat),(∀b C,s.heap.get? b=some C->f.get? b=some C)->
   f.get? s.heap.objs.size=some {cls:=.type "list",dict:=none,data:=.seq d.toArray g,slots:=#[]}->EP X j σ Q (.ref s.heap.objs.size) {s with heap:=f}:=λd i t f g v e=>
  ⟨.ref s.heap.objs.size,_,I.laid (t':=s.toks) v (aAi _) (show ObjOk X.prog X.w _ f _ (.lst N)from⟨t,d,g,i,e⟩),rfl,q _ (I.hok.fresh<|aAi _)⟩
 rcases k with k|k
 .obtain⟨d,i,y,t⟩:=I.list k;have x:=i.length;obtain⟨o,z,A,n,B⟩:=y.isList;exact call_list_seq p (.inl rfl) z A B (λf g v e=>m d i t f g v e) (by simp only[aAl]<;>lia)
 .obtain⟨d,i,y,t⟩:=I.tuple k;have x:=i.length;obtain⟨o,z,A,n,B⟩:=y;exact call_list_seq p (.inr rfl) z A B (λf g v e=>m d i t f g v e) (by simp only[aAl]<;>lia)
def eM:rQ X (.type "tuple") (λY H Q=>∃p N,Y=[.ref p]/\((N0 X.K H p N/\∀l,H l=none->Q (.ref l) (upd H l (.tup N)))\/(W0 X.K H p N/\Q (.ref p) H))):=by
 intro d s σ H Y z Q I r h;obtain⟨p,N,rfl,h⟩:=h;obtain⟨u,rfl,v⟩:=vals1 r;cases v;rcases h with⟨i,q⟩|⟨i,q⟩
 .obtain⟨f,j,k,m⟩:=I.list i;have n:=j.length;refine call_tuple_list k.isList (λg x=>?_) (by simp only[aAl]<;>lia);have t:Inv X d σ H {s with heap:=g}:=I.kept (t':=s.toks) x;have y:Inv X d σ (upd H g.objs.size<|.tup N) {s with heap:=g.push {cls:=.type "tuple",data:=.seq f.toArray}}:=
   t.laid (t':=s.toks) (λb o e=>aAc _ e) (aAi _) (show ObjOk X.prog X.w _ _ _ (.tup N)from⟨m,f,j,IsTup.new _ _⟩)
  exact⟨.ref g.objs.size,_,y,rfl,q _ (t.hok.fresh<|aAi _)⟩
 .obtain⟨f,j,k,m⟩:=I.tuple i;exact call_tuple_same k ⟨.ref p,H,I,rfl,q⟩
def tyV (K : jb) (T : String) (x : V) (H : Hp) : Prop := match x with
  | .str _ => T = "str"
  | .int _ => T = "int"
  | .ref p => (T = "list" ∧ ∃ Y, N0 K H p Y) ∨ (T = "tuple" ∧ ∃ o, K.lookup p = some o ∧ o.cls = .type "tuple" ∧ o.dict = none) ∨
      (T = "dict" ∧ ((∃ J, H p = some (.dK J)) ∨ ∃ J, H p = some (.dT J))) ∨ (T = "set" ∧ ∃ S n, H p = some (.set S n))
  | _ => False
def KC (I:Inv X k σ H s)(r:RelV x v)(g:tyV X.K T x H):
  s.TypeIs v T/\∀a,v=.ref a->∃l,s.heap.get? a=some l/\l.dict=none:=by
 cases x with
 |str z=>obtain⟨t,rfl⟩:=r;cases(show T= "str"from g);exact⟨typeIs_str s z t,λ_ e=>nomatch e⟩
 |int i=>obtain⟨t,rfl⟩:=r;cases(show T= "int"from g);exact⟨typeIs_int s i t,λ_ e=>nomatch e⟩
 |ref p=>
  cases r;rcases g with⟨rfl,Y,q⟩|⟨rfl,o,d,u,h⟩|⟨rfl,d⟩|⟨rfl,S,n,d⟩
  .obtain⟨w,_,m,_⟩:=I.list q;refine⟨m.isList.typeIs,λa e=>?_⟩;cases e;obtain⟨o,n,e,c,h,_⟩:=m;exact⟨o,e,h⟩
  .refine⟨⟨o,I.kIn p o d,u⟩,λa e=>?_⟩;cases e;exact⟨o,I.kIn _ o d,h⟩
  .have z:∃o,s.heap.get? p=some o/\o.ExactDict:=by
    rcases d with⟨J,d⟩|⟨J,d⟩
    .obtain⟨_,_,_,_,o,_,_,e,f,_⟩:=I.hok p _ d;exact⟨o,e,f⟩
    .obtain⟨_,_,_,_,o,_,_,e,f,_⟩:=I.hok p _ d;exact⟨o,e,f⟩
   obtain⟨o,e,f⟩:=z;refine⟨⟨o,e,f.1⟩,λa j=>?_⟩;cases j;exact⟨o,e,f.2.1⟩
  .obtain⟨o,_,_,_,e,f,_⟩:=I.hok p _ d;refine⟨⟨o,e,f.1⟩,λa j=>?_⟩;cases j;exact⟨o,e,f.2.1⟩
 |_=>exact aAg g
def a0z (K:jb)(T:String)(r:V->List V->Hp->VK->Prop)(e:TE):TE:=λσ H Q=>e σ H λx d=>tyV K T x d/\r x [] d Q
def tBM (K:jb)(T:String)(r:V->List V->Hp->VK->Prop)(e:TE)(t:TA):TE:=λσ H Q=>e σ H λx d=>tyV K T x d/\t σ d λY f=>r x Y f Q
variable{o e:cv} {es:List cv} {to:TE} {t:TA} {name:Str} {apos ao:Pos} {T id:String} {r:V->List V->Hp->VK->Prop}
def MO (j:PlainAttrs T)(slot:Slot T name id)(f:typeOf (.builtin id)=pure (.type "method_descriptor"))(k:MtR X id r)(l:PE X o to)
  (m:gv o name X.env (dq o X.env)=dq o X.env:=by rfl) (n:(apos.endLine==ao.line)=true:=by rfl):PE X (.Call (.Attribute o name apos) [] [] ao) (a0z X.K T r to):=by
 intro d s σ H Q I h;refine wpAny_Call_method0_late m n (B1 (l d s σ H _ I h) λv p ⟨x,q,g,i,u,w⟩=>?_);obtain⟨y,z⟩:=KC g i u;exact⟨T,id,j,slot,f,y,z,aFD rfl (PySem.evalArgs_none<|k d p σ q x [] v [] Q g i .nil w)⟩
def VS (k:PlainAttrs T)(slot:Slot T name id)(f:typeOf (.builtin id)=pure (.type "method_descriptor"))(l:MtR X id r)(m:PE X o to)(n:PA X (e::es) t)
  (p:gv o name X.env (dq o X.env)=dq o X.env:=by rfl)
  (q:((cz ao (a9 (e::es) X.env)).all (λx=>!x.1)&&(backToKw ao (keywordEach [] X.env)).all (λx=>x.1.isSome)
   &&decide ((e::es).length+([]:List Keyword).length+(if([]:List Keyword).isEmpty then 0 else 1)<30))=true:=by rfl)
  (u:(apos.endLine==ao.line)=true:=by rfl) (w:a9 (e::es) X.env=(false,dq e X.env)::a9 es X.env:=by rfl) (y:(cz ao (a9 es X.env)).any (·.1)=false:=by rfl):
  PE X (.Call (.Attribute o name apos) (e::es) [] ao) (tBM X.K T r to t):=by
 intro d s σ H Q I h;refine wpAny_Call_method_late p q u rfl (B1 (m d s σ H _ I h) λv z ⟨x,A,g,i,B,C⟩=>?_);obtain⟨E,J⟩:=KC g i B;refine⟨T,id,k,slot,f,E,J,?_⟩;have j:=n ao d z σ A _ g C;rw[w]at j⊢;refine aFD (by show(false||(cz ao<|a9 es X.env).any (·.1))=false;rw[y]<;>rfl) (aFX ?_);exact B1 j λL N ⟨O,U,Y,r2,q2⟩=>l d N σ U x O v L Q Y i r2 q2
end
def MtM (X:Cx)(id:String)(r:V->List V->Hp->VK->Prop):Prop:=
 ∀(a:K6) (s:bb) (σ:St) (H:Hp) (x:V) (Y:List V) (v:av) (b:List av) (Q:VK),Inv X a σ H s->RelV x v->l4 Y b->r x Y H Q->
  bc (bt X.prog X.w) X.A (call (.builtin id) (v::b)) (EP X a σ Q) X.xe s
theorem l4.one:∀{x:V} {a:List av},l4 [x] a->∃u,a=[u]/\RelV x u
 |_,_,.cons r .nil=>⟨_,rfl,r⟩
theorem l4.zero:∀{a:List av},l4 [] a->a=[]
 |_,.nil=>rfl
def l4.dropLast (h:l4 Y a):l4 Y.dropLast a.dropLast:=by
 induction h with
 |nil=>exact .nil
 |cons r t b=>
  cases t with
  |nil=>exact .nil
  |cons q d=>exact .cons r b
def zU {α:Type}(l:List α):l.eraseIdx (l.length-1)=l.dropLast:=by
 induction l with
 |nil=>rfl
 |cons a r d=>
  cases r with
  |nil=>rfl
  |cons b r=>
   have e:(a::b::r).length-1=((b::r).length-1)+1:=by
    have f:(a::b::r).length=r.length+2:=rfl;have g:(b::r).length=r.length+1:=rfl
    lia
   rw[e,aFq,d]
   all_goals rfl
section
variable{X:Cx} {pins:K6} {σ:St} {H:Hp} {s:bb} {l b:bp} {Y N zs:List V}
def Inv.af5 {a its':List av}{n:Nat}{f:Array av->Array av}{t':Nat}(I:Inv X pins σ H s)(d:H l=some (.lst Y))
  (e:s.heap.get? l=some {cls:=.type "list",data:=.seq a.toArray n}) (g:f a.toArray=its'.toArray) (h:l4 N its') (hz:N.length<=sizeLine):
  Inv X pins σ (upd H l (.lst N)) {s with heap:=s.heap.update l (aBx f),toks:=t'}:=by
 have q:=PySem.IsL.update e f;rw[g]at q;refine I.write (x:=l) (e:=l) (by rw[d];exact trivial) (.inl rfl) (λk u i j=>(aAC s.heap (aBx f)<|aBU i).trans j) ⟨_,q⟩ ?_;exact⟨hz,its',_,h,q⟩
def Inv.ag3 (I:Inv X pins σ H s)(d:l4 N a)(hz:N.length<=sizeLine):
  Inv X pins σ (upd H s.heap.objs.size (.lst N)) {s with heap:=s.heap.push {cls:=.type "list",data:=.seq a.toArray},toks:=t'}:=
 I.laid (λ_ _ q=>aAc _ q) (aAi _) ⟨hz,a,0,d,aAm _ rfl⟩
def Inv.fresh (I:Inv X pins σ H s):H s.heap.objs.size=none:=I.hok.fresh (aAi _)
def Inv.af3 (I:Inv X pins σ H s)(d:H l=some (.lst Y)):Y.length<=sizeLine/\∃(a:List av) (n:Nat),l4 Y a/\Y.length=a.length/\s.heap.get? l=some {cls:=.type "list",data:=.seq a.toArray n}:=by obtain⟨z,a,n,r,e⟩:=I.hok l _ d;exact⟨z,a,n,r,r.length,e⟩
def MT (h:n<=sizeLine):aCX n=false:=by unfold aCX;exact decide_eq_false (by lia)
end
section
variable{X:Cx}
def QJ:V->List V->Hp->VK->Prop:=λx a H Q=>∃l Y y,x=.ref l/\a=[y]/\H l=some (.lst Y)/\Y.length<sizeLine/\Q .non (upd H l<|.lst (Y++[y]))
def qZ:MtM X "list.append" QJ:=by
 intro b s σ H x j v k Q I f g h;obtain⟨l,Y,y,rfl,rfl,d,m,q⟩:=h;cases f;obtain⟨u,rfl,i⟩:=g.one;obtain⟨z,a,n,r,o,e⟩:=I.af3 d;refine call_meets F.slot_list_append ⟨_,e,rfl⟩ F.entry_list_append (F.args_list_append_2 _ _) (PySem.list_append l a.toArray n u (by rw[aAl];lia)) ⟨e,?_⟩;refine⟨.non,_,I.af5 (its':=a++[u]) d e (by simp) (r.append<|.cons i .nil) ?_,rfl,q⟩;rw[aAK,aFG]
 lia
def a0y:V->List V->Hp->VK->Prop:=λx a H Q=>∃l Y y,x=.ref l/\a=[]/\H l=some (.lst Y)/\Y[Y.length-1]?=some y/\Q y (upd H l<|.lst Y.dropLast)
def NH:MtM X "list.pop" a0y:=by
 intro f s σ H x t v w Q I i j h;obtain⟨l,Y,y,rfl,rfl,g,k,q⟩:=h;cases i;have b:=j.zero;subst b;obtain⟨z,a,n,r,m,e⟩:=I.af3 g;obtain⟨u,o,p⟩:=r.get k;have d:a.toArray[a.toArray.size-1]?=some u:=by show a.toArray[a.length-1]?=some u;rw[<-aAD,<-m];exact o
 refine call_meets F.slot_list_pop ⟨_,e,rfl⟩ F.entry_list_pop (F.args_list_pop_1 _) (MeetsSeq.list_pop_last l a.toArray n u d (by rw[aAl];lia)) ⟨e,?_⟩;refine⟨y,_,I.af5 (its':=a.dropLast) g e ?_ r.dropLast ?_,p,q⟩
 .show a.toArray.eraseIdxIfInBounds (a.toArray.size-1)=a.dropLast.toArray;rw[aAl,List.eraseIdxIfInBounds_toArray,zU]
 .rw[aFY]
  lia
end
section
variable{prog:cp} {w:cu} {A:cq} {E:D3} {s:bb}
end
section
variable{X:Cx}
end
end L2
namespace Att
open PySem PySem.W PySem.Calls PyProof.Rows
def lE:∀(ns:List Int) (vs:List av),WellAll P h vs (ns.map WData.int)->IntsAre vs ns:=by
 intro ns;induction ns with
 |nil=>intro vs w;rw[aDw]at w;cases w;exact .nil
 |cons n ns d=>
  intro vs w;rw[aAp]at w;cases w with
  |cons a b=>cases a;exact .cons _ _ (d _ b)
def script_of {l:OpenLaw}{n:Nat}(m:l.most=some n){P:Params}{h:cy}{args:List WData}{b:List av}
  (j:l.row.toRowW.claim.pre args=true) (o:WellAll P h b args):
  ∃a vs ns,b=[aCU a]/\args=[WData.list (ns.map WData.int)]/\h.get? a=some {cls:=.type "list",data:=.seq vs.toArray}/\IntsAre vs ns/\ns.length<=n:=by
 have i:WShape.hasAll [] args [.list .int]=true:=(pre_splitW j).1;have k:l.pre.holds [] {args:=args}=true:=(pre_splitW j).2;obtain⟨d,r,rfl,p,s⟩:=hasAllW_cons i;obtain rfl:=hasAllW_nil s;obtain⟨Y,rfl,t⟩:=hasW_list p;obtain⟨ns,rfl⟩:=items_int t;have e:ns.length<=n:=by
  unfold OpenLaw.pre at k;have f:(WTm.not<|.lt (.lit (.int (n:Int))) (.len (.arg 0))).holds [] {args:=[.list (ns.map .int)]}=true:=by have f:=(holds_andW k).1;rw[m]at f;exact f
  have g:=condW_of f (w_not<|w_lt w_lit<|w_len_list<|w_arg rfl);rw[aAh]at g;refine aEr λq=>?_;have u:(n:Int)<((ns.length:Nat):Int):=by lia
  first
   |(rw[decide_eq_true u]at g;exact absurd g (by decide))
   |(simp at g;lia)
 cases o with
 |cons v w=>
  cases w;cases v with
  |list x y=>exact⟨_,_,ns,rfl,rfl,x,lE ns _ y,e⟩
def post_true (l:OpenLaw)(args:List WData):l.row.toRowW.claim.post args (.bool true) args=true:=
 postW_of (r:=l.row.toRowW) (X:=(true==true))
  (show WShape.has [] (.bool true) .bool=true by first|rfl|decide|simp[WShape.has,WShape.arms,WShape.armsAll])
  (show(WTm.eq .res (.lit (.bool true))).value [] {args:=args,res:=some (.bool true),after:=args}=some (.bool (true==true))from w_eq_bool (w_res rfl) w_lit) rfl
section
variable{prog:cp} {w:cu} {A:cq} {E:D3} {s:bb} {K:Frag}
def a1n (h:cy)(L d:bp):List (bp×Obj):=(aAU h.objs.size).filterMap λa=>if a=L\/a=d then none else(h.get? a).map λo=>(a,o)
end
end Att
namespace L2
open PySem PySem.Spec PyProof.Rows
theorem sE:∀{vs:List av} {ns:List Int},IntsAre vs ns->l4 (ns.map V.int) vs
 |_,_,.nil=>.nil
 |_,_,.cons n t h=>.cons ⟨t,rfl⟩ (sE h)
def E9 (s:dm):Arguments:=match s with
 |.FunctionDef _ a _ _ _ _ _ _ _ _=>a
 |_=>{posonlyargs:=[],args:=[],vararg:=none,kwonlyargs:=[],kw_defaults:=[],kwarg:=none,defaults:=[]}
def p5 (s:dm):List dm:=match s with
 |.FunctionDef _ _ b _ _ _ _ _ _ _=>b
 |_=>[]
def c6 (s:dm):gW:=match s with
 |.FunctionDef _ _ _ _ _ _ a _ _ _=>a
 |_=>{kind:=.function,names:=[],isGenerator:=false,isCoroutine:=false}
abbrev tW:KT:=λ_ _ _ _ _ _=>False
abbrev E0:XK:=λ_ _ _=>False
def gx:mZ tW X E0:=λ_ _ _ _ _ _ _ h=>h.elim
structure Fun (K:PySem.W.Frag)(x qual:Str)(st:Stmt)(f:Addr)(fd:FuncData):Prop where
 ex:∃(oc:Value) (od:Option Addr) (kV doc pm:Value) (an:Option Addr) (U ct:Value) (osl:Array (Option Value)),
  fd=PySem.W.fnOf x qual (E9 st) (p5 st) (c6 st) .none kV doc pm an U ct/\K.lookup f=some ⟨oc,od,.func fd,osl⟩/\PySem.W.codeIn K U qual=true
 kp:PySem.W.keepIn K (.ref f)=true
section
variable{P:cp} {w:cu} {K:jb} {mg:W6} {base:cy}
def Fun.ok {x qual:Str}{st:dm}{f:bp}{fd:dA}{N ps:List Str}{k:Nat}{b:Sp}(F:Fun K x qual st f fd)(S:FnScope N ps (c6 st))(len:∀vs H Q E,b vs H Q E->vs.length=ps.length)
  (e:∀(U:av) (A:cq) (a:List Env) (s:bb) (H:Hp) (vs:List V) (Q:VK) (E:XK),Room k (A.deeper (envOfC qual (c6 st) s.heap.objs.size f U))->b vs H Q E->
   ∃t,uR (uK tW P w K mg base N qual (c6 st) f U A a s H E).nox (p5 st) t/\t {nx:=λ_ H'=>Q .non H',rt:=Q} (start N vs) H):FnOk P w K mg base tW (k+1) f fd ps b:=by
 obtain⟨m,n,kV,g,o,p,U,r,i,rfl,lk,j⟩:=F.ex;refine OA lk j S len λA a s H vs Q E l d=>?_;obtain⟨t,h,q⟩:=e U A a s H vs Q E l d;exact⟨t,h.nox,q⟩
def Fun.binds {x qual:Str}{st:dm}{f:bp}{fd:dA}{ps:List Str}(F:Fun K x qual st f fd)
  (h:∀(kV a b:av) (d:Option bp) (U ct:av) (e:List av),e.length=ps.length->bindArgs (PySem.W.fnOf x qual (E9 st) (p5 st) (c6 st) .none kV a b d U ct) ⟨e,[]⟩=pure (ps.zip e)):Binds K fd ps []:=by
 obtain⟨i,j,kV,a,b,d,U,ct,g,rfl,lk,k⟩:=F.ex;exact .all (h kV a b d U ct)
def KA {x qual:Str}{st:dm}{f:bp}{g:av}{h d:Option bp}{b:Array (Option av)}{kV a e U ct:av}(l:K.lookup f=some ⟨g,h,.func (PySem.W.fnOf x qual (E9 st) (p5 st) (c6 st) .none kV a e d U ct),b⟩)
 (c:PySem.W.codeIn K U qual=true) (k:PySem.W.keepIn K (.ref f)=true):Fun K x qual st f (PySem.W.fnOf x qual (E9 st) (p5 st) (c6 st) .none kV a e d U ct):=⟨⟨g,h,kV,a,e,d,U,ct,b,rfl,l,c⟩,k⟩
end
def HN (h:n<=1000):n<sizeLine:=aCq h (by decide)
section
variable{X:Cx}
end
def Same (H H':Hp):Prop:=∀b o,H b=some o->H' b=some o
def Same.refl (H:Hp):Same H H:=λ_ _ h=>h
def Same.trans (a:Same H d)(b:Same d e):Same H e:=λc o h=>b c o (a c o h)
def Same.seq {K:jb}{H H':Hp}{a:bp}{Y:List V}(e:Same H H')(h:N0 K H a Y):N0 K H' a Y:=by
 rcases h with(h|⟨o,h⟩)|h
 .exact .inl (.inl (e _ _ h))
 .exact .inl (.inr ⟨o,e _ _ h⟩)
 .exact .inr h
end L2
namespace DL
open PySem PySem.Spec L2
open PyProof.Rows hiding St
section
inductive D where
 |non|bl (b:Bool)|int (i:Int)|str (x:Str)|tup (Y:List D)|lst (Y:List D)|dct
mutual
def m7:D->Int
 |.int i=>hashInt i
 |.tup Y=>reduceHash (aAP (sR Y))
 |_=>0
def sR:List D->List Int
 |[]=>[]
 |x::Y=>m7 x::sR Y
end
def R6:Nat->D->Bool
 |_,.int _=>true
 |n+1,.tup Y=>Y.all (R6 n)
 |_,_=>false
inductive R (α:Type)where
 |ok (a:α)|ex (e:Str)|bad
def R.bind {α β:Type}:R α->(α->R β)->R β
 |.ok a,f=>f a
 |.ex e,_=>.ex e
 |.bad,_=>.bad
@[simp]def R.aa0 {α β:Type}(a:α)(f:α->R β):(R.ok a).bind f=f a:=rfl
section
variable(K:jb) (H:Hp) (O:bp->Prop)
mutual
inductive Rep:V->D->Prop
 |non:Rep .non .non
 |bl {b:Bool}:Rep (.bl b) (.bl b)
 |int {i:Int}:Rep (.int i) (.int i)
 |str {x:Str}:Rep (.str x) (.str x)
 |tup {a:Addr} {vs:List V} {ds:List D} (h:W0 K H a vs) (r:Reps vs ds):Rep (.ref a) (.tup ds)
 |lst {a:Addr} {vs:List V} {ds:List D} (h:N0 K H a vs) (n:¬O a) (r:Reps vs ds):Rep (.ref a) (.lst ds)
 |dct {a:Addr} {o:Obj} (h:H a=some (.ext λh=>h.get? a=some o)) (x:o.ExactDict) (n:¬O a):Rep (.ref a) .dct
inductive Reps:List V->List D->Prop
 |nil:Reps [] []
 |cons {v:V} {d:D} {vs:List V} {ds:List D} (h:Rep v d) (t:Reps vs ds):Reps (v::vs) (d::ds)
end
end
section
variable{K:jb}
def _root_.L2.Same.tup {a:bp}{Y:List V}(e:Same H H')(h:W0 K H a Y):W0 K H' a Y:=by
 rcases h with(h|⟨o,h⟩)|h
 .exact .inl (.inl (e _ _ h))
 .exact .inl (.inr ⟨o,e _ _ h⟩)
 .exact .inr h
mutual
theorem Rep.mono (f:∀a Y,W0 K H a Y->W0 K H' a Y)(b:∀a Y,¬O a->N0 K H a Y->¬g a/\N0 K H' a Y)(e:∀a φ,¬O a->H a=some (.ext φ)->¬g a/\H' a=some (.ext φ)):∀{v:V} {d:D},Rep K H O v d->Rep K H' g v d
 |_,_,.non=>.non
 |_,_,.bl=>.bl
 |_,_,.int=>.int
 |_,_,.str=>.str
 |_,_,.tup h r=>.tup (f _ _ h) (Reps.mono f b e r)
 |_,_,.lst h n r=>.lst (b _ _ n h).2 (b _ _ n h).1 (Reps.mono f b e r)
 |_,_,.dct h x n=>.dct (e _ _ n h).2 x (e _ _ n h).1
theorem Reps.mono (b:∀a Y,W0 K H a Y->W0 K H' a Y)(d:∀a Y,¬O a->N0 K H a Y->¬e a/\N0 K H' a Y)(f:∀a φ,¬O a->H a=some (.ext φ)->¬e a/\H' a=some (.ext φ)):∀{vs:List V} {ds:List D},Reps K H O vs ds->Reps K H' e vs ds
 |_,_,.nil=>.nil
 |_,_,.cons h t=>.cons (Rep.mono b d f h) (Reps.mono b d f t)
end
def Rep.same (e:Same H H')(r:Rep K H O v d):Rep K H' O v d:=r.mono (λ_ _ h=>e.tup h) (λ_ _ n h=>⟨n,e.seq h⟩) λ_ _ n h=>⟨n,e _ _ h⟩
def Reps.same (e:Same H H')(r:Reps K H O v d):Reps K H' O v d:=r.mono (λ_ _ h=>e.tup h) (λ_ _ n h=>⟨n,e.seq h⟩) λ_ _ n h=>⟨n,e _ _ h⟩
def Rep.sub (e:∀a,b a->O a)(r:Rep K H O v d):Rep K H b v d:=r.mono (λ_ _ h=>h) (λ_ _ n h=>⟨λz=>n (e _ z),h⟩) λ_ _ n h=>⟨λz=>n (e _ z),h⟩
def Reps.sub (e:∀a,b a->O a)(r:Reps K H O v d):Reps K H b v d:=r.mono (λ_ _ h=>h) (λ_ _ n h=>⟨λz=>n (e _ z),h⟩) λ_ _ n h=>⟨λz=>n (e _ z),h⟩
theorem Reps.length:∀{vs:List V} {ds:List D},Reps K H O vs ds->vs.length=ds.length
 |_,_,.nil=>rfl
 |_,_,.cons _ t=>by simp[Reps.length t]
theorem Reps.get:∀{vs:List V} {ds:List D} {i:Nat} {d:D},Reps K H O vs ds->ds[i]?=some d->∃v,vs[i]?=some v/\Rep K H O v d
 |_,_,_,_,.nil,e=>by simp at e
 |_,_,0,_,.cons r _,e=>by simp at e;subst e;exact⟨_,rfl,r⟩
 |_,_,i+1,d,.cons _ t,e=>by obtain⟨u,a,b⟩:=Reps.get (i:=i) (d:=d) t (by simpa using e);exact⟨u,by simpa using a,b⟩
theorem Reps.append:∀{vs ws:List V} {ds es:List D},Reps K H O vs ds->Reps K H O ws es->Reps K H O (vs++ws) (ds++es)
 |_,_,_,_,.nil,s=>s
 |_,_,_,_,.cons r t,s=>.cons r (Reps.append t s)
theorem Reps.take:∀{vs:List V} {ds:List D} (n:Nat),Reps K H O vs ds->Reps K H O (vs.take n) (ds.take n)
 |_,_,0,_=>.nil
 |_,_,_+1,.nil=>.nil
 |_,_,n+1,.cons r t=>.cons r (Reps.take n t)
theorem Reps.drop:∀{vs:List V} {ds:List D} (n:Nat),Reps K H O vs ds->Reps K H O (vs.drop n) (ds.drop n)
 |_,_,0,r=>r
 |_,_,_+1,.nil=>.nil
 |_,_,n+1,.cons _ t=>Reps.drop n t
theorem Reps.set (r:Rep K H O v d):∀{vs:List V} {ds:List D} (i:Nat),Reps K H O vs ds->Reps K H O (vs.set i v) (ds.set i d)
 |_,_,_,.nil=>.nil
 |_,_,0,.cons _ t=>.cons r t
 |_,_,i+1,.cons q t=>.cons q (Reps.set r i t)
def Reps.dropLast (r:Reps K H O vs ds):Reps K H O vs.dropLast ds.dropLast:=by rw[aEo,aEo,r.length];exact r.take _
def Reps.snoc (r:Reps K H O vs ds)(h:Rep K H O v d):Reps K H O (vs++[v]) (ds++[d]):=r.append (.cons h .nil)
theorem Reps.ints:∀(ns:List Int),Reps K H O (ns.map V.int) (ns.map D.int)
 |[]=>.nil
 |_::ns=>.cons .int (Reps.ints ns)
theorem Reps.reverse:∀{vs:List V} {ds:List D},Reps K H O vs ds->Reps K H O vs.reverse ds.reverse
 |_,_,.nil=>.nil
 |_,_,.cons r t=>by rw[aAM,aAM];exact(Reps.reverse t).snoc r
end
def Kp (H:Hp)(O:bp->Prop)(H':Hp)(a:bp->Prop):Prop:=∀b o,H b=some o->¬O b->H' b=some o/\¬a b
section
def Kp.refl (H:Hp)(O:bp->Prop):Kp H O H O:=λ_ _ h n=>⟨h,n⟩
def Kp.of (s:Same H H'):Kp H O H' O:=λb o h n=>⟨s b o h,n⟩
def Kp.trans (a:Kp H O H' f)(b:Kp H' f d e):Kp H O d e:=λc o h n=>let⟨g,i⟩:=a c o h n;b c o g i
end
class Tabs where
 tbs:List (Addr×List (Pos×Str))
inductive Sl where
 |no|v (d:D)|o (Y:List D)|x (C:Value)|c (m:List D->R D) (φ:Hp->(Addr->Prop)->Addr->Prop)|d (J:List (D×D))
abbrev Ev:=List Sl
def Mt:HO->Prop
 |.lst _=>True
 |.dK _=>True
 |.dT _=>True
 |.ext _=>True
 |_=>False
def mK (K:jb)(H:Hp)(O:bp->Prop)(es:List DictEntry)(J:List (D×D)):Prop:=
 Paired (λ(e:DictEntry) (p:D×D)=>(∃a,e.key=.ref a/\Rep K H O (.ref a) p.1)/\(∃v,RelV v e.val/\Rep K H O v p.2)/\e.hash=m7 p.1/\R6 7 p.1=true) es J
def ND (a:bp)(o:Obj)(es:List DictEntry):Prop:=(a==sysModules)=false/\o.ExactDict/\∃b d,o.data=.dict b d/\b.toList=es
def IF:Sl->Prop
 |.o _=>True
 |.d _=>True
 |_=>False
section
variable(K:jb) (Ha H:Hp) (O:bp->Prop)
def gQ (x:Option (Option V)):Sl->Prop
 |.no=>True
 |.v d=>∃v,x=some (some v)/\Rep K H O v d
 |.o Y=>∃a b,x=some (some (V.ref a))/\O a/\Ha a=none/\H a=some (.lst b)/\Reps K H O b Y
 |.x C=>∃a o,x=some (some (V.ref a))/\H a=some (.frz o (.own a))/\o.cls=C
 |.c m φ=>∃a,x=some (some (V.ref a))/\∀e f,Kp H O e f->φ e f a
 |.d J=>∃a o g,x=some (some (V.ref a))/\O a/\Ha a=none/\H a=some (.ext λh=>h.get? a=some o)/\ND a o g/\mK K H O g J/\(J.map (·.1)).Nodup
end
variable [Tabs]
def Tb (H:Hp):Prop:=∀p∈Tabs.tbs,H p.1=some (.tbl p.2)
structure EnvOk (K:PySem.W.Frag)(Ha:Hp)(O0:Addr->Prop)(H:Hp)(O:Addr->Prop)(σ:St)(ρ:Ev):Prop where
 len:σ.length=ρ.length
 same:Same Ha H
 sub:∀a,O0 a->O a
 trk:∀a,O a->∃o,H a=some o/\Mt o
 trk0:∀a,O0 a->∃o,Ha a=some o
 tab:Tb H
 slot:∀(i:Nat) (sl:Sl),ρ[i]?=some sl->gQ K Ha H O σ[i]? sl
 inj:∀(i j:Nat) (x y:Sl) (a:Addr),ρ[i]?=some x->ρ[j]?=some y->IF x->IF y->σ[i]?=some (some (V.ref a))->σ[j]?=some (some (V.ref a))->i=j
section
variable{K:jb} {O0 O O':bp->Prop}
def Tb.same (h:Tb H)(s:Same H H'):Tb H':=λp a=>s _ _ (h p a)
def EnvOk.val (E:EnvOk K a O0 H O σ ρ)(i:Nat)(d:D)(h:ρ[i]?=some (Sl.v d)):∃v,σ[i]?=some (some v)/\Rep K H O v d:=E.slot i _ h
def EnvOk.own (E:EnvOk K b O0 H O σ ρ)(i:Nat)(Y:List D)(h:ρ[i]?=some (Sl.o Y)):∃a vs,σ[i]?=some (some (V.ref a))/\O a/\b a=none/\H a=some (.lst vs)/\Reps K H O vs Y:=E.slot i _ h
def EnvOk.exc (E:EnvOk K b O0 H O σ ρ)(i:Nat)(C:av)(h:ρ[i]?=some (Sl.x C)):∃a o,σ[i]?=some (some (V.ref a))/\H a=some (.frz o (.own a))/\o.cls=C:=E.slot i _ h
def mK.mono (f:∀{v:V} {d:D},Rep K H O v d->Rep K H' O' v d):∀{J:List (D×D)},mK K H O es J->mK K H' O' es J:=λ{_} r=>Paired.af2 r λ_ _ ⟨⟨v,a,b⟩,⟨w,e,g⟩,h⟩=>⟨⟨v,a,f b⟩,⟨w,e,f g⟩,h⟩
def gQ.move (h:gQ K y H O x sl)(i:∀a Y,W0 K H a Y->W0 K H' a Y)(j:∀a Y,¬O a->N0 K H a Y->¬O' a/\N0 K H' a Y)(z:∀a o u,H a=some (.frz o u)->H' a=some (.frz o u))(l:Kp H O H' O')(w:IF sl->∀a o,x=some (some (V.ref a))->O a->H a=some o->O' a/\H' a=some o):gQ K y H' O' x sl:=by
 have p:∀a φ,¬O a->H a=some (.ext φ)->¬O' a/\H' a=some (.ext φ):=λa φ n h=>⟨(l a _ h n).2,(l a _ h n).1⟩;cases sl with
 |no=>trivial
 |v d=>obtain⟨v,b,e⟩:=h;exact⟨v,b,e.mono i j p⟩
 |o Y=>obtain⟨a,A,b,e,f,q,s⟩:=h;obtain⟨g,t⟩:=w trivial a _ b e q;exact⟨a,A,b,g,f,t,s.mono i j p⟩
 |x C=>obtain⟨a,o,b,e,f⟩:=h;exact⟨a,o,b,z _ _ _ e,f⟩
 |c m φ=>obtain⟨a,b,e⟩:=h;exact⟨a,b,λB E k=>e B E (l.trans k)⟩
 |d J=>obtain⟨a,o,I,b,e,f,q,s,g⟩:=h;obtain⟨t,L⟩:=w trivial a _ b e q;exact⟨a,o,I,b,t,f,L,s,g.1.mono λr=>r.mono i j p,g.2⟩
def gQ.grow (h:gQ K a H O x sl)(e:Same H H'):gQ K a H' O x sl:=
 h.move (λ_ _ q=>e.tup q) (λ_ _ n q=>⟨n,e.seq q⟩) (λ_ _ _ q=>e _ _ q) (Kp.of e) λ_ _ _ _ b d=>⟨b,e _ _ d⟩
def EnvOk.grow (E:EnvOk K b O0 H O σ ρ)(e:Same H H'):EnvOk K b O0 H' O σ ρ where
 len:=E.len
 same:=E.same.trans e
 sub:=E.sub
 trk:=λa h=>let⟨o,q,m⟩:=E.trk a h;⟨o,e a o q,m⟩
 trk0:=E.trk0
 tab:=E.tab.same e
 slot:=λi d h=>(E.slot i d h).grow e
 inj:=E.inj
def EnvOk.fresh (E:EnvOk K a O0 H O σ ρ)(h:H p=none):¬O p:=λz=>by obtain⟨o,q,_⟩:=E.trk p z;rw[h]at q;cases q
def u5 {α:Type}{l:List α}{i j:Nat}{x:α}(h:i≠j):(l.set i x)[j]?=l[j]?:=aCx h
def A7 {α:Type}{l:List α}{i:Nat}{x y:α}(h:(l.set i x)[i]?=some y):y=x/\i<l.length:=by
 have a:i<l.length:=by have:=(aAy.mp h).1;simpa using this
 rw[aBh a]at h;exact⟨(Option.some.inj h).symm,a⟩
def EnvOk.put (E:EnvOk K f O0 H O σ ρ){v:Option V}{sl:Sl}(i:Nat)(no:¬IF sl)(r:gQ K f H O (some v) sl):EnvOk K f O0 H O (σ.set i v) (ρ.set i sl)where
 len:=by simpa using E.len
 same:=E.same
 sub:=E.sub
 trk:=E.trk
 trk0:=E.trk0
 tab:=E.tab
 slot:=λj s h=>by
  by_cases g:i=j
  .subst g;obtain⟨e,u⟩:=A7 h;subst e;rw[aBh (by rw[E.len];exact u)];exact r
  .rw[u5 g]at h⊢;exact E.slot j s h
 inj:=λj k x y a b d m n p t=>by
  have ne:∀(l:Nat) (z:Sl),(ρ.set i sl)[l]?=some z->IF z->i≠l:=λl z q o e=>by subst e;obtain⟨e,_⟩:=A7 q;subst e;exact no o
  have w:=ne j x b m;have A:=ne k y d n;rw[u5 w]at b p;rw[u5 A]at d t;exact E.inj j k x y a b d m n p t
def EnvOk.set (E:EnvOk K a O0 H O σ ρ)(i:Nat)(r:Rep K H O v d):EnvOk K a O0 H O (σ.set i (some v)) (ρ.set i (.v d)):=E.put i (λz=>z) ⟨v,rfl,r⟩
def gQ.at_ (h:gQ K i H O x sl)(o:IF sl):∃a u,x=some (some (V.ref a))/\O a/\i a=none/\H a=some u/\Mt u:=by
 cases sl with
 |o Y=>obtain⟨a,j,b,e,f,g,_⟩:=h;exact⟨a,_,b,e,f,g,trivial⟩
 |d J=>obtain⟨a,u,k,b,e,f,g,_⟩:=h;exact⟨a,_,b,e,f,g,trivial⟩
 |_=>exact o.elim
def EnvOk.af4 (E:EnvOk K t O0 H O σ ρ){a:bp}{sl:Sl}(i:Nat)(u:∀(j:Nat) (y:Sl),i≠j->ρ[j]?=some y->IF y->σ[j]?≠some (some (V.ref a)))(r:gQ K t H O (some (some (V.ref a))) sl):
  EnvOk K t O0 H O (σ.set i (some (V.ref a))) (ρ.set i sl)where
 len:=by simpa using E.len
 same:=E.same
 sub:=E.sub
 trk:=E.trk
 trk0:=E.trk0
 tab:=E.tab
 slot:=λj s h=>by
  by_cases d:i=j
  .subst d;obtain⟨e,z⟩:=A7 h;subst e;rw[aBh (by rw[E.len];exact z)];exact r
  .rw[u5 d]at h⊢;exact E.slot j s h
 inj:=λj k x y b n o v w g m=>by
  have at_:∀(l:Nat),i=l->(σ.set i<|some<|V.ref a)[l]?=some (some<|V.ref b)->b=a:=λl e q=>by subst e;obtain⟨e,_⟩:=A7 q;injection e with e;injection e
  by_cases d:i=j
  .by_cases f:i=k
   .exact d.symm.trans f
   .exfalso;have p:=at_ j d g;subst p;rw[u5 f]at o m;exact u k y f o w m
  .by_cases f:i=k
   .exfalso;have p:=at_ k f m;subst p;rw[u5 d]at n g;exact u j x d n v g
   .rw[u5 d]at n g;rw[u5 f]at o m;exact E.inj j k x y b n o v w g m
def j5 (h:H p=none)(o:HO):Same H (upd H p o):=λb u q=>by rw[k9 (p9 q h)];exact q
def EnvOk.ab8 (E:EnvOk K f O0 H O σ ρ)(h:H a=none)(g:K.lookup a=none)(m:Mt u):EnvOk K f O0 (upd H a u) (λb=>O b\/b=a) σ ρ:=by
 have s:=j5 h u;have ne:∀b Y,N0 K H b Y->b≠a:=λb Y q z=>by
  subst z;rcases q with(q|⟨o,q⟩)|⟨o,_,_,q,_⟩
  .rw[h]at q;cases q
  .rw[h]at q;cases q
  .rw[g]at q;cases q
 refine⟨E.len,E.same.trans s,λb z=>.inl (E.sub b z),λb z=>?_,E.trk0,E.tab.same s,λi j e=>?_,E.inj⟩
 .rcases z with z|z
  .obtain⟨o,q,m⟩:=E.trk b z;exact⟨o,s b o q,m⟩
  .subst z;exact⟨_,i9,m⟩
 .exact(E.slot i j e).move (λ_ _ q=>s.tup q) (λb Y n q=>⟨λz=>z.elim n (ne b Y q),s.seq q⟩) (λ_ _ _ q=>s _ _ q) (λb o d n=>⟨s b o d,λz=>z.elim n λe=>by subst e;rw[h]at d;cases d⟩) λ_ b o _ k l=>⟨.inl k,s _ _ l⟩
def YR (h:H a=none)(d:K.lookup a=none)(q:N0 K H b Y):b≠a:=λz=>by
 subst z;rcases q with(q|⟨o,q⟩)|⟨o,_,_,q,_⟩
 .rw[h]at q;cases q
 .rw[h]at q;cases q
 .rw[d]at q;cases q
def Reps.ab8 (h:H a=none)(e:K.lookup a=none)(r:Reps K H O v d):Reps K (upd H a u) (λb=>O b\/b=a) v d:=
 r.mono (λ_ _ q=>(j5 h u).tup q) (λb Y n q=>⟨λz=>z.elim n (YR h e q),(j5 h u).seq q⟩) λb φ n q=>⟨λz=>z.elim n (p9 q h),j5 h u _ _ q⟩
def EnvOk.ad8 (E:EnvOk K f O0 H O σ ρ)(i:Nat)(h:H a=none)(k:K.lookup a=none)(m:Mt u)(r:f a=none->gQ K f (upd H a u) (λb=>O b\/b=a) (some (some (V.ref a))) sl):
  EnvOk K f O0 (upd H a u) (λb=>O b\/b=a) (σ.set i (some (.ref a))) (ρ.set i sl):=by
 have l:f a=none:=by
  cases e:f a with
  |none=>rfl
  |some o=>have:=E.same a o e;rw[h]at this;cases this
 refine(E.ab8 h k m).af4 i (λj y _ e o q=>?_) (r l);obtain⟨b,w,d,_,_,g,_⟩:=(E.slot j y e).at_ o;rw[q]at d;injection d with d;injection d with d;injection d with d;subst d;rw[h]at g;cases g
def tH (h:H a=some u)(m:Mt u)(q:W0 K H b Y):W0 K (upd H a u') b Y:=by
 have ne:∀w,H b=some w->¬Mt w->b≠a:=λw e n z=>by subst z;rw[h]at e;cases e;exact n m
 rcases q with(q|⟨o,q⟩)|q
 .exact .inl (.inl (by rw[k9 (ne _ q λz=>z)];exact q))
 .exact .inl (.inr ⟨o,by rw[k9 (ne _ q λz=>z)];exact q⟩)
 .exact .inr q
def uJ (d:O a)(n:¬O b)(q:N0 K H b Y):N0 K (upd H a u') b Y:=by
 have ne:b≠a:=λz=>by subst z;exact n d
 rcases q with(q|⟨o,q⟩)|q
 .exact .inl (.inl (by rw[k9 ne];exact q))
 .exact .inl (.inr ⟨o,by rw[k9 ne];exact q⟩)
 .exact .inr q
def Rep.upd (h:H a=some u)(m:Mt u)(e:O a)(r:Rep K H O v d):Rep K (upd H a u') O v d:=r.mono (λ_ _ q=>tH h m q) (λ_ _ n q=>⟨n,uJ e n q⟩) λb _ n q=>⟨n,by rw[k9 (λz=>n (by rw[z];exact e))];exact q⟩
def Reps.upd (h:H a=some u)(m:Mt u)(e:O a)(r:Reps K H O v d):Reps K (upd H a u') O v d:=r.mono (λ_ _ q=>tH h m q) (λ_ _ n q=>⟨n,uJ e n q⟩) λb _ n q=>⟨n,by rw[k9 (λz=>n (by rw[z];exact e))];exact q⟩
def EnvOk.ae2 {i:Nat}{sl sl':Sl}{a:bp}{u u':HO}(E:EnvOk K t O0 H O σ ρ)(e:ρ[i]?=some sl)(v:IF sl)(A:σ[i]?=some (some (V.ref a)))(B:H a=some u)(m':Mt u')(ow':IF sl')
  (r:O a->t a=none->Mt u->gQ K t (upd H a u') O (some (some (V.ref a))) sl'):EnvOk K t O0 (upd H a u') O σ (ρ.set i sl')/\Kp H O (upd H a u') O:=by
 obtain⟨b,w,d,C,U,Y,m⟩:=(E.slot i sl e).at_ v;rw[A]at d;injection d with d;injection d with d;injection d with d;subst d;rw[B]at Y;cases Y;have kp:Kp H O (upd H a u') O:=λb o g n=>⟨by rw[k9 (λz=>by subst z;exact n C)];exact g,n⟩;have nf:∀b w,H b=some w->¬Mt w->upd H a u' b=some w:=λb w q n=>by rw[k9 (λz=>by subst z;rw[B]at q;cases q;exact n m)];exact q
 refine⟨⟨by simpa using E.len,λb o q=>?_,E.sub,λb z=>?_,E.trk0,λp hp=>nf _ _ (E.tab p hp) λz=>z,λj s h=>?_,λj k x y b I J o1 o2 L q4=>?_⟩,kp⟩
 .rw[k9 (λz=>by subst z;rw[U]at q;cases q)];exact E.same b o q
 .by_cases g:b=a
  .subst g;exact⟨_,i9,m'⟩
  .obtain⟨o,q,m⟩:=E.trk b z;exact⟨o,by rw[k9 g];exact q,m⟩
 .by_cases N:i=j
  .subst N;obtain⟨e',_⟩:=A7 h;subst e';rw[A];exact r C U m
  .rw[u5 N]at h;refine(E.slot j s h).move (λ_ _ q=>tH B m q) (λ_ _ n q=>⟨n,uJ C n q⟩) (λb o w q=>nf _ _ q λz=>z) kp λo b w I J L=>⟨J,?_⟩;rw[k9 (λz=>by subst z;exact N (E.inj i j sl s b e h v o A I))];exact L
 .have f:∀l z,(ρ.set i sl')[l]?=some z->IF z->∃z',ρ[l]?=some z'/\IF z':=λl z q o=>by
   by_cases hl:i=l
   .subst hl;exact⟨sl,e,v⟩
   .rw[u5 hl]at q;exact⟨z,q,o⟩
  obtain⟨x',u1,Q⟩:=f j x I o1;obtain⟨y',u2,T⟩:=f k y J o2;exact E.inj j k x' y' b u1 u2 Q T L q4
def EnvOk.ae8 {i:Nat}{sl sl':Sl}{a:bp}(E:EnvOk K v O0 H O σ ρ)(e:ρ[i]?=some sl)(A:IF sl)(p:σ[i]?=some (some (V.ref a)))(no:¬IF sl')(r:gQ K v H (λb=>O b/\b≠a) (some (some (V.ref a))) sl'):
  EnvOk K v O0 H (λb=>O b/\b≠a) σ (ρ.set i sl'):=by
 obtain⟨b,w,d,T,I,U,m⟩:=(E.slot i sl e).at_ A;rw[p]at d;injection d with d;injection d with d;injection d with d;subst d;have sub:∀b,(O b/\b≠a)->O b:=λb z=>z.1;refine⟨by simpa using E.len,E.same,λb z=>⟨E.sub b z,λq=>?_⟩,λb z=>E.trk b z.1,E.trk0,E.tab,λj s h=>?_,λj k x y b f g B C t J=>?_⟩
 .subst q;obtain⟨o,q⟩:=E.trk0 b z;rw[I]at q;cases q
 .by_cases u:i=j
  .subst u;obtain⟨l,_⟩:=A7 h;subst l;rw[p];exact r
  .rw[u5 u]at h;refine(E.slot j s h).move (λ_ _ q=>q) (λ_ _ n q=>⟨λz=>n z.1,q⟩) (λ_ _ _ q=>q) (λb o L n=>⟨L,λz=>n z.1⟩) λo b w f g t=>⟨⟨g,λz=>?_⟩,t⟩;subst z;exact u (E.inj i j sl s b e h A o p f)
 .have N:i≠j:=λz=>by subst z;obtain⟨l,_⟩:=A7 f;subst l;exact no B
  have Q:i≠k:=λz=>by subst z;obtain⟨l,_⟩:=A7 g;subst l;exact no C
  rw[u5 N]at f;rw[u5 Q]at g;exact E.inj j k x y b f g B C t J
end
def XW (X:Cx)(e:Str)(H:Hp):Prop:=False
def RC (X:Cx)(H:Hp)(O:bp->Prop)(r:R D)(Q:VK):Prop:=match r with
 |.ok d=>∀v a,Same H a->Rep X.K a O v d->Q v a
 |.ex e=>∀a,Same H a->XW X e a
 |.bad=>False
def A8 (K:jb)(H:Hp)(O:bp->Prop)(v:V)(d:D):Prop:=Rep K H O v d\/∃a b e,v=.ref a/\d=.lst e/\N0 K H a b/\Reps K H O b e
def PR (X:Cx)(H:Hp)(O:bp->Prop)(r:R D)(Q:VK):Prop:=match r with
 |.ok d=>∀v a,Same H a->A8 X.K a O v d->Q v a
 |.ex e=>∀a,Same H a->XW X e a
 |.bad=>False
def qP (X:Cx)(H:Hp)(r:R Bool)(Q:Bool->Hp->Prop):Prop:=match r with
 |.ok b=>∀a,Same H a->Q b a
 |.ex e=>∀a,Same H a->XW X e a
 |.bad=>False
def FU (X:Cx)(H:Hp)(O:bp->Prop)(r:R (List D))(Q:List V->Hp->Prop):Prop:=match r with
 |.ok d=>∀b a,Same H a->Reps X.K a O b d->Q b a
 |.ex e=>∀a,Same H a->XW X e a
 |.bad=>False
def ME (X:Cx)(H:Hp)(O:bp->Prop)(r:R (List D))(Q:List V->Hp->Prop):Prop:=match r with
 |.ok d=>∀b a,Same H a->Paired (A8 X.K a O) b d->Q b a
 |.ex e=>∀a,Same H a->XW X e a
 |.bad=>False
def tD (X:Cx)(f:Ev->R D):TE:=λσ H Q=>∃a b O ρ,EnvOk X.K a b H O σ ρ/\RC X H O (f ρ) Q
def tDB (X:Cx)(f:Ev->R D):TE:=λσ H Q=>∃a b O ρ,EnvOk X.K a b H O σ ρ/\PR X H O (f ρ) Q
def tDT (X:Cx)(f:Ev->R Bool):TT:=λσ H Q=>∃a b O ρ,EnvOk X.K a b H O σ ρ/\qP X H (f ρ) Q
def tDs (X:Cx)(f:Ev->R (List D)):TA:=λσ H Q=>∃a b O ρ,EnvOk X.K a b H O σ ρ/\FU X H O (f ρ) Q
def a1d (X:Cx)(f:Ev->R (List D)):TA:=λσ H Q=>∃a b O ρ,EnvOk X.K a b H O σ ρ/\ME X H O (f ρ) Q
def PD (X:Cx)(e:cv)(f:Ev->R D):Prop:=PE X e (tD X f)
def PB (X:Cx)(e:cv)(f:Ev->R D):Prop:=PE X e (tDB X f)
def zJ (X:Cx)(e:cv)(f:Ev->R Bool):Prop:=PT X e (tDT X f)
def AH (X:Cx)(es:List cv)(f:Ev->R (List D)):Prop:=PA X es (tDs X f)
def YE (X:Cx)(es:List cv)(f:Ev->R (List D)):Prop:=PA X es (a1d X f)
def NB {r:Hp->(bp->Prop)->Ev->VK->Prop}(h:PE X e t)(i:∀σ H Q a b O ρ,EnvOk X.K a b H O σ ρ->r H O ρ Q->t σ H Q):PE X e λσ H Q=>∃a b O ρ,EnvOk X.K a b H O σ ρ/\r H O ρ Q:=λd s σ H Q I q=>h d s σ H Q I (let⟨a,b,O,ρ,E,q⟩:=q;i σ H Q a b O ρ E q)
def ptI {r:Hp->(bp->Prop)->Ev->(Bool->Hp->Prop)->Prop}(h:PT X e t)(i:∀σ H Q a b O ρ,EnvOk X.K a b H O σ ρ->r H O ρ Q->t σ H Q):PT X e λσ H Q=>∃a b O ρ,EnvOk X.K a b H O σ ρ/\r H O ρ Q:=λd s σ H Q I q=>h d s σ H Q I (let⟨a,b,O,ρ,E,q⟩:=q;i σ H Q a b O ρ E q)
def zq {r:Hp->(bp->Prop)->Ev->(List V->Hp->Prop)->Prop}(h:PA X es t)(i:∀σ H Q a b O ρ,EnvOk X.K a b H O σ ρ->r H O ρ Q->t σ H Q):PA X es λσ H Q=>∃a b O ρ,EnvOk X.K a b H O σ ρ/\r H O ρ Q:=λpos d s σ H Q I q=>h pos d s σ H Q I (let⟨a,b,O,ρ,E,q⟩:=q;i σ H Q a b O ρ E q)
def rL {β:Type}{r:Hp->(bp->Prop)->Ev->β->Prop}{G:List (bp×Obj)->bb->St->Hp->β->Prop}(h:∀a s σ H Q,Inv X a σ H s->∀b d O ρ,EnvOk X.K b d H O σ ρ->r H O ρ Q->G a s σ H Q)(a s σ H Q)(I:Inv X a σ H s)(q:∃b d O ρ,EnvOk X.K b d H O σ ρ/\r H O ρ Q):G a s σ H Q:=let⟨b,d,O,ρ,E,q⟩:=q;h a s σ H Q I b d O ρ E q
def PD.pb (h:PD X e f):PB X e f:=NB h λσ H Q a b O ρ E q=>⟨a,b,O,ρ,E,by
 unfold RC PR at*
 cases e:f ρ with
 |ok d=>rw[e]at q;exactλv g s r=>q v g s (.inl r)
 |ex x=>rw[e]at q;exact q
 |bad=>rw[e]at q;exact q⟩
def RC.seq {O:bp->Prop}(h:RC X H O (r.bind g) Q):
  RC X H O r λv b=>∃d,r=.ok d/\Same H b/\Rep X.K b O v d/\RC X b O (g d) Q:=by
 cases r with
 |ok d=>
  intro v b f k;refine⟨d,rfl,f,k,?_⟩;have a:RC X H O (g d) Q:=h;cases e:g d with
  |ok m=>rw[e]at a;exactλw i j l=>a w i (f.trans j) l
  |ex x=>rw[e]at a;exactλi j=>a i (f.trans j)
  |bad=>rw[e]at a;exact a
 |ex x=>exact h
 |bad=>exact h
def PR.seq {O:bp->Prop}(h:RC X H O (r.bind g) Q):
  PR X H O r λv b=>∃d,r=.ok d/\Same H b/\A8 X.K b O v d/\RC X b O (g d) Q:=by
 cases r with
 |ok d=>
  intro v b f k;refine⟨d,rfl,f,k,?_⟩;have a:RC X H O (g d) Q:=h;cases e:g d with
  |ok m=>rw[e]at a;exactλw i j l=>a w i (f.trans j) l
  |ex x=>rw[e]at a;exactλi j=>a i (f.trans j)
  |bad=>rw[e]at a;exact a
 |ex x=>exact h
 |bad=>exact h
def RC.grow {O:bp->Prop}(h:RC X H O r Q)(e:Same H f):RC X f O r Q:=by
 cases r with
 |ok d=>exactλw a b g=>h w a (e.trans b) g
 |ex x=>exactλa b=>h a (e.trans b)
 |bad=>exact h
end
section
variable [Tabs]
section
variable{X:Cx}
def A8.same (e:Same H H')(r:A8 X.K H O v d):A8 X.K H' O v d:=by
 rcases r with r|⟨a,b,f,g,h,i,j⟩
 .exact .inl (r.same e)
 .exact .inr ⟨a,b,f,g,h,e.seq i,j.same e⟩
def A8.aa6 {K:jb}{ds:List D}(r:A8 K H O v (.lst ds)):∃a vs,v=.ref a/\N0 K H a vs/\Reps K H O vs ds:=by
 rcases r with r|⟨a,vs,g,d,b,e,f⟩
 .cases r with|lst h n r=>exact⟨_,_,rfl,h,r⟩
 .injection b with b;subst b;exact⟨a,vs,d,e,f⟩
def A8.af7 {K:jb}(r:A8 K H O v .dct):∃a o,v=.ref a/\H a=some (.ext λh=>h.get? a=some o)/\o.ExactDict:=by
 rcases r with r|⟨a,d,e,f,b,g,i⟩
 .cases r with|dct h x n=>exact⟨_,_,rfl,h,x⟩
 .cases b
def A8.tupI {K:jb}{ds:List D}(r:A8 K H O v (.tup ds)):∃a vs,v=.ref a/\W0 K H a vs/\Reps K H O vs ds:=by
 rcases r with r|⟨a,vs,d,e,b,f,g⟩
 .cases r with|tup h r=>exact⟨_,_,rfl,h,r⟩
 .cases b
def A8.aa7 {K:jb}{i:Int}(r:A8 K H O v (.int i)):v=.int i:=by
 rcases r with r|⟨a,d,e,f,b,g,h⟩
 .cases r;rfl
 .cases b
def A8.blI {K:jb}{i:Bool}(r:A8 K H O v (.bl i)):v=.bl i:=by
 rcases r with r|⟨a,d,e,f,b,g,h⟩
 .cases r;rfl
 .cases b
def A8.ac3 {K:jb}(r:A8 K H O v .non):v=.non:=by
 rcases r with r|⟨a,d,e,f,b,g,h⟩
 .cases r;rfl
 .cases b
def A8.ac6 {K:jb}{i:Str}(r:A8 K H O v (.str i)):v=.str i:=by
 rcases r with r|⟨a,d,e,f,b,g,h⟩
 .cases r;rfl
 .cases b
end
def bW (i:Nat)(ρ:Ev):R D:=match ρ[i]? with
 |some (.v d)=>.ok d
 |_=>.bad
def vS (i:Nat)(ρ:Ev):R D:=match ρ[i]? with
 |some (.v d)=>.ok d
 |some (.o Y)=>.ok (.lst Y)
 |_=>.bad
section
def d6 (i:Nat)(a:X.N[i]?=some x:=by rfl)(b:tE X.env.scope x:=by first|exact aCs rfl|exact aBC (aCs rfl)|exact aBC (aBC rfl))(f:(x==jd)=false:=by decide)(g:(x==ka)=false:=by decide):PD X (.Name x pos) (bW i):=NB (M3 a b f g) λσ H Q l n O ρ E q=>by
 unfold bW at q;cases e:ρ[i]? with
 |none=>rw[e]at q;exact q.elim
 |some h=>
  rw[e]at q;cases h with
  |no=>exact q.elim
  |x C=>exact q.elim
  |c m φ=>exact q.elim
  |d J=>exact q.elim
  |o Y=>exact q.elim
  |v d=>obtain⟨v,j,k⟩:=E.val i d e;exact⟨v,j,q v H (Same.refl H) k⟩
def b9 (i:Nat)(g:X.N[i]?=some x:=by rfl)(h:tE X.env.scope x:=by first|exact aCs rfl|exact aBC (aCs rfl)|exact aBC (aBC rfl))(j:(x==jd)=false:=by decide)(k:(x==ka)=false:=by decide):PB X (.Name x pos) (vS i):=NB (M3 g h j k) λσ H Q s t O ρ E q=>by
 unfold vS at q;cases e:ρ[i]? with
 |none=>rw[e]at q;exact q.elim
 |some l=>
  rw[e]at q;cases l with
  |no=>exact q.elim
  |x C=>exact q.elim
  |c m φ=>exact q.elim
  |d J=>exact q.elim
  |o Y=>obtain⟨a,n,b,f,u,p,r⟩:=E.own i Y e;exact⟨_,b,q _ H (Same.refl H) (.inr ⟨a,n,Y,rfl,rfl,N0.of p,r⟩)⟩
  |v d=>obtain⟨v,b,f⟩:=E.val i d e;exact⟨v,b,q v H (Same.refl H) (.inl f)⟩
def TV (d:D)(_:Ev):R D:=.ok d
def oI (h:PE X e (tC v))(r:∀H O,Rep X.K H O v d):PD X e (TV d):=NB h λσ H Q a b O ρ E q=>q v H (Same.refl H) (r H O)
def c9 {j pos}:PD X (.Constant (.int i) j pos) (TV (.int i)):=oI ZZ λ_ _=>.int
def eU {j pos}:PD X (.Constant (.bool i) j pos) (TV (.bl i)):=oI fx λ_ _=>.bl
def NU {j pos}:PD X (.Constant (.str i) j pos) (TV (.str i)):=oI ZG λ_ _=>.str
def CG {j pos}:PD X (.Constant .none j pos) (TV .non):=oI WL λ_ _=>.non
def kO (X:Cx)(f:av->av->Sem av)(g:D->D->R D):Prop:=
 ∀(H:Hp) (O:bp->Prop) (x y:V) (a b:D) (Q:VK),(∀p,H p=none->¬O p)->A8 X.K H O x a->A8 X.K H O y b->RC X H O (g a b) Q->∃r,kU X f r/\r x y H Q
def a1w (X:Cx)(O:bp->Prop)(g:D->D->R D)(Q:VK):V->V->Hp->Prop:=λx y H=>∃a b,(∀p,H p=none->¬O p)/\A8 X.K H O x a/\A8 X.K H O y b/\RC X H O (g a b) Q
def lS {f O:bp->Prop}(E:EnvOk X.K k f H O σ ρ)(q:RC X H O ((l ρ).bind λx=>(m ρ).bind λy=>g x y) Q):
  tDB X l σ H λx h=>tDB X m σ h λy i=>a1w X O g Q x y i:=by
 refine⟨k,f,O,ρ,E,?_⟩;have a:=PR.seq q;revert a;cases C:l ρ with
 |ok s=>
  intro a x h n t;obtain⟨d,e,_,r,u⟩:=a x h n t;cases e;have o:=E.grow n;refine⟨k,f,O,ρ,o,?_⟩;have b:=PR.seq u;revert b;cases I:m ρ with
  |ok v=>intro b y i j w;obtain⟨J,e,_,z,A⟩:=b y i j w;cases e;exact⟨s,v,λp B=>(o.grow j).fresh B,r.same j,z,A⟩
  |ex x=>intro b;exact b
  |bad=>intro b;exact b
 |ex x=>intro a;exact a
 |bad=>intro a;exact a
def d9 (f:kO X (eQ op) g)(i:PB X a j)(k:PB X b l):PD X (.BinOp a op b pos) (λρ=>(j ρ).bind λx=>(l ρ).bind λy=>g x y):=by refine rL λd s σ H Q I L N O ρ E q=>?_;refine wpAny_BinOp (PY i k I (lS E q) λv u m x y e n o p h=>?_);obtain⟨t,w,z,A,B,q⟩:=h;obtain⟨r,C,J⟩:=f e O x y t w Q z A B q;exact C d m σ e x y v u Q n o p J
def eZ (f:kO X (d3 op) g)(i:PB X a j)(k:PB X b l)(m:gu op b=false:=by first|exact AR _|with_unfolding_all rfl):
  PD X (.Compare a [op] [b] pos) (λρ=>(j ρ).bind λx=>(l ρ).bind λy=>g x y):=by
 refine rL λd s σ H Q I N T O ρ E q=>?_;refine wpAny_Compare1 (PY i k I (lS E q) λv u n x y e o p t h=>?_) m;obtain⟨w,z,A,B,C,q⟩:=h;obtain⟨r,J,L⟩:=f e O x y w z Q A B C q;exact J d n σ e x y v u Q o p t L
def CI:D->R Bool
 |.bl b=>.ok b
 |_=>.bad
def lZ {O:bp->Prop}{Q:Bool->Hp->Prop}(h:qP X H (r.bind CI) Q):RC X H O r λv a=>∃c,v=.bl c/\Q c a:=by
 cases r with
 |ok d=>
  cases d with
  |bl b=>intro v a e f;cases f;exact⟨b,rfl,h a e⟩
  |_=>exact(show False from h).elim
 |ex x=>exact h
 |bad=>exact h
def k7 (i:kO X (d3 op) g)(j:PB X a l)(m:PB X b n)(o:gu op b=false:=by first|exact AR _|with_unfolding_all rfl):
  zJ X (.Compare a [op] [b] pos) (λρ=>((l ρ).bind λx=>(n ρ).bind λy=>g x y).bind CI):=by
 refine rL λd s σ H Q I Ha O0 O ρ E q=>?_;have p:=lZ (O:=O) q;refine aEp (PY j m I (lS E p) λv u t x y f w A B h=>?_) o;obtain⟨C,J,L,N,T,q⟩:=h;obtain⟨r,U,Y⟩:=i f O x y C J _ L N T q;refine B1 (U d t σ f x y v u _ w A B Y) λc s3 z9=>?_;obtain⟨z,H3,I3,r3,k,e,q3⟩:=z9;subst e;cases r3;exact aBy ⟨H3,I3,q3⟩
def uN (h:PD X e f)(a:∀whole,isTrue e X.env whole=(do let v<-whole;standAt e.pos;fh [v] (truthy v)):=by intro _;rfl):zJ X e (λρ=>(f ρ).bind CI):=by refine ptI (XB h a) λσ H Q b d O ρ E q=>⟨b,d,O,ρ,E,lZ q⟩
def qP.seq {Q:Bool->Hp->Prop}(h:qP X H (r.bind g) Q):qP X H r λb f=>r=.ok b/\Same H f/\qP X f (g b) Q:=by
 cases r with
 |ok d=>
  intro f i;refine⟨rfl,i,?_⟩;have a:qP X H (g d) Q:=h;cases e:g d with
  |ok l=>rw[e]at a;exactλj k=>a j (i.trans k)
  |ex x=>rw[e]at a;exactλj k=>a j (i.trans k)
  |bad=>rw[e]at a;exact a
 |ex x=>exact h
 |bad=>exact h
def qP.af8 {O:bp->Prop}(h:RC X H O (r.bind g) Q):qP X H r λb a=>r=.ok b/\Same H a/\RC X a O (g b) Q:=by
 cases r with
 |ok d=>intro a e;refine⟨rfl,e,?_⟩;have f:RC X H O (g d) Q:=h;exact f.grow e
 |ex x=>exact h
 |bad=>exact h
def qP.mono {Q e:Bool->Hp->Prop}(h:qP X H r Q)(i:∀b a,Q b a->e b a):qP X H r e:=by
 cases r with
 |ok d=>exactλa f=>i _ _ (h a f)
 |ex x=>exact h
 |bad=>exact h
def RC.mono {O:bp->Prop}(h:RC X H O r Q)(i:∀b a,Q b a->e b a):RC X H O r e:=by
 cases r with
 |ok d=>exactλv a f g=>i _ _ (h v a f g)
 |ex x=>exact h
 |bad=>exact h
def CS (X:Cx)(e:cv)(f:Ev->R Bool):Prop:=PW X e (tDT X f)
def zQ (f g:Ev->R Bool):Ev->R Bool:=λρ=>(f ρ).bind λb=>if b=true then g ρ else .ok false
def zk (f g:Ev->R Bool):Ev->R Bool:=λρ=>(f ρ).bind λb=>if b=true then .ok true else g ρ
def WM (f:Ev->R Bool):Ev->R Bool:=λρ=>(f ρ).bind λb=>.ok (!b)
variable{rest:List cv}
def oA (b:zJ X a f):CS X (.BoolOp .And [a] pos) f:=TN b
def lV (b:zJ X a f):CS X (.BoolOp .Or [a] pos) f:=WP b
def LP (h:PW X e t)(i:∀σ H Q,t' σ H Q->t σ H Q):PW X e t':=λb a s σ H Q I q=>h b a s σ H Q I (i σ H Q q)
def uG (i:zJ X a f)(j:CS X (.BoolOp .And (b::rest) pos) g):CS X (.BoolOp .And (a::b::rest) pos) (zQ f g):=
 LP (XN i j) λσ H Q ⟨d,e,O,ρ,E,q⟩=>⟨d,e,O,ρ,E,qP.mono (qP.seq q)<|by
  rintro b k ⟨_,l,h⟩;cases b with
  |true=>rw[h9 rfl];exact⟨d,e,O,ρ,E.grow l,h⟩
  |false=>rw[ic aAV];exact h k (Same.refl _)⟩
def pF (i:zJ X a f)(j:CS X (.BoolOp .Or (b::rest) pos) g):CS X (.BoolOp .Or (a::b::rest) pos) (zk f g):=
 LP (ez i j) λσ H Q ⟨d,e,O,ρ,E,q⟩=>⟨d,e,O,ρ,E,qP.mono (qP.seq q)<|by
  rintro b k ⟨_,l,h⟩;cases b with
  |false=>rw[ic aAV];exact⟨d,e,O,ρ,E.grow l,h⟩
  |true=>rw[h9 rfl];exact h k (Same.refl _)⟩
def CS.pt (h:CS X e f):zJ X e f:=PW.pt h
def QZ (d:zJ X a f):zJ X (.UnaryOp .Not a pos) (WM f):=
 ptI (WW d) λσ H Q e g O ρ E q=>⟨e,g,O,ρ,E,qP.mono (qP.seq q)<|by rintro b h ⟨_,j,i⟩;exact i h (Same.refl _)⟩
def orV (f:Ev->R D)(g:Ev->R D):Ev->R D:=λρ=>((f ρ).bind CI).bind λb=>if b=true then .ok (.bl true)else g ρ
def fj (f:Ev->R D):Ev->R D:=λρ=>((f ρ).bind CI).bind λb=>.ok (.bl (!b))
def YD {op}{f:Ev->R D}(h:PD X a f):PD X (.BoolOp op [a] pos) f:=YQ h
def jx {f g:Ev->R D}(j:PD X a f)(k:PD X (.BoolOp .Or (b::rest) pos) g):PD X (.BoolOp .Or (a::b::rest) pos) (orV f g):=
 NB (gz j k) λσ H Q d h O ρ E q=>⟨d,h,O,ρ,E,RC.mono (lZ<|qP.af8 q) λv l ⟨c,e,_,m,i⟩=>⟨c,e,by
  cases c with
  |false=>rw[ic aAV];exact⟨d,h,O,ρ,E.grow m,i⟩
  |true=>rw[h9 rfl];exact i _ l (Same.refl _) .bl⟩⟩
def aq {f:Ev->R D}(b:PD X a f):PD X (.UnaryOp .Not a pos) (fj f):=
 NB (WS b) λσ H Q d g O ρ E q=>⟨d,g,O,ρ,E,RC.mono (lZ<|qP.af8 q)<|by rintro v h ⟨c,e,_,j,i⟩;exact⟨c,e,i _ h (Same.refl _) .bl⟩⟩
def YH:D->R D
 |.int i=>.ok (.int (-i))
 |_=>.bad
def aH {f:Ev->R D}(e:PD X a f):PD X (.UnaryOp .USub a pos) (λρ=>(f ρ).bind YH):=
 NB (jy YJ e) λσ H Q g h O ρ E q=>⟨g,h,O,ρ,E,by
  refine RC.mono (RC.seq q) λv j k=>?_;obtain⟨d,_,m,l,b⟩:=k;cases d with
  |int i=>cases l;exact⟨i,rfl,b _ j (Same.refl _) .int⟩
  |_=>exact(show False from b).elim⟩
def FU.seq {H:Hp}{O:bp->Prop}{r:R (List D)}{g:List D->R D}{Q:VK}(h:RC X H O (r.bind g) Q):
  FU X H O r λv a=>∃d,r=.ok d/\Same H a/\Reps X.K a O v d/\RC X a O (g d) Q:=by
 cases r with
 |ok d=>exactλv a b e=>⟨d,rfl,b,e,(show RC X H O (g d) Q from h).grow b⟩
 |ex x=>exact h
 |bad=>exact h
def FU.mono {O:bp->Prop}{Q e:List V->Hp->Prop}(h:FU X H O r Q)(i:∀b a,Q b a->e b a):FU X H O r e:=by
 cases r with
 |ok d=>exactλv a f g=>i _ _ (h v a f g)
 |ex x=>exact h
 |bad=>exact h
def ME.seq {H:Hp}{O:bp->Prop}{r:R (List D)}{g:List D->R D}{Q:VK}(h:RC X H O (r.bind g) Q):
  ME X H O r λv a=>∃d,r=.ok d/\Same H a/\Paired (A8 X.K a O) v d/\RC X a O (g d) Q:=by
 cases r with
 |ok d=>exactλv a b e=>⟨d,rfl,b,e,(show RC X H O (g d) Q from h).grow b⟩
 |ex x=>exact h
 |bad=>exact h
def PR.mono {O:bp->Prop}(h:PR X H O r Q)(i:∀b a,Q b a->e b a):PR X H O r e:=by
 cases r with
 |ok d=>exactλv a f g=>i _ _ (h v a f g)
 |ex x=>exact h
 |bad=>exact h
def l9 (f:Ev->R D)(g:Ev->R (List D)):Ev->R (List D):=λρ=>(f ρ).bind λd=>(g ρ).bind λa=>.ok (d::a)
def R3:Ev->R (List D):=λ_=>.ok []
def l5:AH X [] R3:=zq aY λσ H Q a b O ρ E q=>q [] H (Same.refl _) .nil
def i5 {f:Ev->R D}{g:Ev->R (List D)}(m:PD X e f)(n:AH X es g)(o:a9 (e::es) X.env=(false,dq e X.env)::a9 es X.env:=by rfl):AH X (e::es) (l9 f g):=
 zq (J3 m n o) λσ H Q k l O ρ E q=>⟨k,l,O,ρ,E,by
  unfold l9 at q;cases b:f ρ with
  |ok d=>
   rw[b]at q;intro v t h p;refine⟨k,l,O,ρ,E.grow h,?_⟩;cases i:g ρ with
   |ok u=>rw[i]at q;exactλr j a s=>q (v::r) j (h.trans a) (.cons (p.same a) s)
   |ex x=>rw[i]at q;exactλj a=>q j (h.trans a)
   |bad=>rw[i]at q;exact q
  |ex x=>rw[b]at q;exact q
  |bad=>rw[b]at q;exact q⟩
def A9:YE X [] R3:=zq aY λσ H Q a b O ρ E q=>q [] H (Same.refl _) .nil
def t7 {f:Ev->R D}{g:Ev->R (List D)}(m:PB X e f)(n:YE X es g)(o:a9 (e::es) X.env=(false,dq e X.env)::a9 es X.env:=by rfl):YE X (e::es) (l9 f g):=
 zq (J3 m n o) λσ H Q k l O ρ E q=>⟨k,l,O,ρ,E,by
  unfold l9 at q;cases b:f ρ with
  |ok d=>
   rw[b]at q;intro v t h p;refine⟨k,l,O,ρ,E.grow h,?_⟩;cases i:g ρ with
   |ok u=>rw[i]at q;exactλr j a s=>q (v::r) j (h.trans a) (.cons (p.same a) s)
   |ex x=>rw[i]at q;exactλj a=>q j (h.trans a)
   |bad=>rw[i]at q;exact q
  |ex x=>rw[b]at q;exact q
  |bad=>rw[b]at q;exact q⟩
def qD (ds:List D):R D:=if ds.length<=sizeLine then .ok (.tup ds)else .bad
def IQ (ds:List D):R D:=if ds.length<=sizeLine then .ok (.lst ds)else .bad
def zN {f:Ev->R (List D)}{e}(h:AH X es f):PD X (.Tuple es e pos) (λρ=>(f ρ).bind qD):=
 NB (YC h) λσ H Q g i O ρ E q=>⟨g,i,O,ρ,E,FU.mono (FU.seq q)<|by
  rintro k l ⟨m,_,n,b,a⟩;unfold qD at a;split at a
  .rename_i j;exact⟨by rw[b.length];exact j,λp d=>a (.ref p) _ (j5 d _) (.tup (W0.of i9) (b.same<|j5 d _))⟩
  .exact a.elim⟩
def aV {f:Ev->R (List D)}(h:AH X es f):PD X (.List es pos) (λρ=>(f ρ).bind IQ):=
 NB (QA h) λσ H Q e g O ρ E q=>⟨e,g,O,ρ,E,FU.mono (FU.seq q)<|by
  rintro k l ⟨m,_,i,d,a⟩;unfold IQ at a;split at a
  .rename_i j;exact⟨by rw[d.length];exact j,λp b=>a (.ref p) _ (j5 b _) (.lst (N0.of i9) ((E.grow i).fresh b) (d.same<|j5 b _))⟩
  .exact a.elim⟩
def eG (X:Cx)(f:av)(g:List D->R D):Prop:=
 ∀(H:Hp) (O:bp->Prop) (a:List V) (b:List D) (Q:VK),(∀p,H p=none->¬O p)->Paired (A8 X.K H O) a b->RC X H O (g b) Q->∃r,rQ X f r/\r a H Q
def yJ {x:Str}{id:String}{p:Pos}{f:Ev->R (List D)}{g:List D->R D}(j:eG X (.builtin id) g)(k:YE X (e::es) f)(l:Gl X x:=by rfl)(m:X.mg x=none:=by assumption)(n:dt x=some (.builtin id):=by decide+kernel)(o:x≠ "__name__":=by decide)
  (t:(x==jd)=false:=by decide) (u:a9 (e::es) X.env=(false,dq e X.env)::a9 es X.env:=by rfl) (v:(cz pos (a9 es X.env)).any (·.1)=false:=by rfl):
  PD X (.Call (.Name x p) (e::es) [] pos) (λρ=>(f ρ).bind g):=by
 refine rL λa s σ H Q I w y O ρ E q=>?_;refine aAQ (N2 I l m n ?_ o t);refine aBK (B1 (k pos a s σ H _ I ⟨w,y,O,ρ,E,ME.seq q⟩) λz A ⟨b,i,B,C,d,_,J,r,h⟩=>?_) u v;obtain⟨U,L,N⟩:=j i O b d Q (λp T=>(E.grow J).fresh T) r h;exact L a A σ i b z Q B C N
def N9 {x:Str}{T:String}{p:Pos}{f:Ev->R (List D)}{g:List D->R D}(j:eG X (.type T) g)(k:YE X (e::es) f)(l:Gl X x:=by rfl)(m:X.mg x=none:=by assumption)(n:dt x=some (.type T):=by decide+kernel)(o:x≠ "__name__":=by decide)
  (t:(x==jd)=false:=by decide) (u:a9 (e::es) X.env=(false,dq e X.env)::a9 es X.env:=by rfl) (v:(cz pos (a9 es X.env)).any (·.1)=false:=by rfl):
  PD X (.Call (.Name x p) (e::es) [] pos) (λρ=>(f ρ).bind g):=by
 refine rL λa s σ H Q I w y O ρ E q=>?_;refine aAQ (N2 I l m n ?_ o t);refine aBl (B1 (k pos a s σ H _ I ⟨w,y,O,ρ,E,ME.seq q⟩) λz A ⟨b,i,B,C,d,_,J,r,h⟩=>?_) u v;obtain⟨Y,L,N⟩:=j i O b d Q (λp U=>(E.grow J).fresh U) r h;exact L a A σ i b z Q B C N
end
mutual
def u0:D->D->Bool
 |.non,.non=>true
 |.bl a,.bl b=>a==b
 |.bl a,.int b=>(if a then 1 else 0)==b
 |.int a,.bl b=>a==(if b then 1 else 0)
 |.int a,.int b=>a==b
 |.str a,.str b=>a==b
 |.tup Y,.tup N=>T2 Y N
 |.lst Y,.lst N=>T2 Y N
 |.dct,.dct=>true
 |_,_=>false
def T2:List D->List D->Bool
 |[],[]=>true
 |x::Y,y::N=>u0 x y&&T2 Y N
 |_,_=>false
end
mutual
def E8:D->Nat
 |.tup Y=>J5 Y+1
 |.lst Y=>J5 Y+1
 |.dct=>dy
 |_=>0
def J5:List D->Nat
 |[]=>0
 |x::Y=>max (E8 x) (J5 Y)
end
mutual
theorem R1:∀d:D,u0 d d=true
 |.non=>by simp[u0]
 |.bl b=>by simp[u0]
 |.int i=>by simp[u0]
 |.str x=>by simp[u0]
 |.tup Y=>by rw[u0];exact jI Y
 |.lst Y=>by rw[u0];exact jI Y
 |.dct=>by simp[u0]
theorem jI:∀ds:List D,T2 ds ds=true
 |[]=>by simp[T2]
 |x::Y=>by rw[T2,R1 x,jI Y];rfl
end
def kJ (Y N:List D)(j:Nat):Bool:=match Y[j]?,N[j]? with
 |some a,some b=>u0 a b
 |_,_=>false
theorem fX:∀(Y N:List D),T2 Y N=((aAU (min Y.length N.length)).all (kJ Y N)&&(Y.length==N.length))
 |[],[]=>by simp[T2]
 |[],_::_=>by simp[T2]
 |_::_,[]=>by simp[T2]
 |x::Y,y::N=>by
  rw[T2,fX Y N,aAv,aAv,Nat.succ_min_succ,aFC,aFr,List.all_map];have a:kJ (x::Y) (y::N) 0=u0 x y:=rfl;have b:(kJ (x::Y) (y::N)∘Nat.succ)=kJ Y N:=by
   funext j
   simp[kJ]
  have d:(Y.length+1==N.length+1)=(Y.length==N.length):=by rw[aDX];simp
  rw[a,b,d,Bool.and_assoc]
theorem uI:∀{Y:List D} {d:D} {j:Nat},Y[j]?=some d->E8 d<=J5 Y
 |[],_,_,h=>by simp at h
 |x::Y,d,0,h=>by simp at h;subst h;rw[J5];exact Nat.le_max_left _ _
 |x::Y,d,j+1,h=>by rw[J5];exact aAq (uI (j:=j) (by simpa using h)) (Nat.le_max_right _ _)
section
def AN {K:jb}{H:Hp}{O:bp->Prop}{a:bp}{d:D}(h:Rep K H O (.ref a) d):(∃vs ds,d=.tup ds/\W0 K H a vs/\Reps K H O vs ds)\/(∃vs ds,d=.lst ds/\N0 K H a vs/\Reps K H O vs ds)\/(d=.dct/\∃o:Obj,H a=some (.ext λh=>h.get? a=some o)/\o.ExactDict):=by
 cases h with
 |tup h r=>exact .inl ⟨_,_,rfl,h,r⟩
 |lst h n r=>exact .inr (.inl ⟨_,_,rfl,h,r⟩)
 |dct h x n=>exact .inr (.inr ⟨rfl,_,h,x⟩)
def UZ (I:Inv X b σ H s)(h:W0 X.K H a vs)(h':N0 X.K H a ws):False:=by obtain⟨e,_,p,_⟩:=I.tuple h;obtain⟨d,_,f,_⟩:=I.list h';exact absurd rfl (SeqAt.ne_of_list_tuple (s:=s) f.isList p)
def VP {o:Obj}(I:Inv X b σ H s)(h':W0 X.K H a vs)(h:H a=some (.ext λh=>h.get? a=some o))(x:o.ExactDict):False:=by obtain⟨d,_,⟨f,g,c,_⟩,_⟩:=I.tuple h';have e:s.heap.get? _=some _:=(I.hok _ _ h).1;rw[g]at e;cases e;exact absurd (c.symm.trans x.1) (by decide)
def VD {o:Obj}(I:Inv X b σ H s)(h':N0 X.K H a vs)(h:H a=some (.ext λh=>h.get? a=some o))(x:o.ExactDict):False:=by obtain⟨d,_,p,_⟩:=I.list h';obtain⟨f,g,c,_⟩:=p.isList;have e:s.heap.get? _=some _:=(I.hok _ _ h).1;rw[g]at e;cases e;exact absurd (c.symm.trans x.1) (by decide)
mutual
theorem Rep.inj (I:Inv X g σ H s):∀{v:V} {d:D},Rep X.K H O v d->∀{d':D},Rep X.K H i v d'->d=d'
 |_,_,.non=>λh=>by cases h;rfl
 |_,_,.bl=>λh=>by cases h;rfl
 |_,_,.int=>λh=>by cases h;rfl
 |_,_,.str=>λh=>by cases h;rfl
 |_,_,.tup h r=>λb=>by
  rcases AN b with⟨_,_,rfl,a,f⟩|⟨_,_,rfl,a,_⟩|⟨rfl,_,a,x⟩
  .have e:=I.ab6 h a;subst e;rw[Reps.inj I r f]
  .exact(UZ I h a).elim
  .exact(VP I h a x).elim
 |_,_,.lst h _ r=>λb=>by
  rcases AN b with⟨_,_,rfl,a,_⟩|⟨_,_,rfl,a,f⟩|⟨rfl,_,a,x⟩
  .exact(UZ I a h).elim
  .have e:=I.ac1 h a;subst e;rw[Reps.inj I r f]
  .exact(VD I h a x).elim
 |_,_,.dct h x _=>λb=>by
  rcases AN b with⟨_,_,rfl,a,_⟩|⟨_,_,rfl,a,_⟩|⟨rfl,_⟩
  .exact(VP I a h x).elim
  .exact(VD I a h x).elim
  .rfl
theorem Reps.inj (I:Inv X a σ H s):∀{v:List V} {d:List D},Reps X.K H O v d->∀{d':List D},Reps X.K H g v d'->d=d'
 |_,_,.nil=>λh=>by cases h;rfl
 |_,_,.cons h t=>λb=>by
  cases b with
  |cons e f=>rw[Rep.inj I h e,Reps.inj I t f]
end
def lH (A:cq)(s:bb)(a ws:List av)(Y N:List D):Prop:=∀(j:Nat) (u w:av),a[j]?=some u->ws[j]?=some w->SeqAt.EqAt A.in1 s u w (kJ Y N j)
def wR (f:s.heap.IsList l a.toArray)(g:s.heap.IsList b ws.toArray)(e1:a.length=Y.length)(e2:ws.length=N.length)(h:A.units<dy)(o:lH A s a ws Y N):SeqAt.RcAt A s (.ref l) (.ref b) (T2 Y N)/\SeqAt.RcNeAt A s (.ref l) (.ref b) (!T2 Y N):=by
 rw[fX];by_cases d:Y.length=N.length
 .have e:a.toArray.size=ws.toArray.size:=by simp[e1,e2,d]
  have p:min Y.length N.length=a.toArray.size:=by simp[e1,d]
  have i:(Y.length==N.length)=true:=by simp[d]
  have k:∀j (m:j<a.toArray.size) (n:j<ws.toArray.size),SeqAt.EqAt A.in1 s a.toArray[j] ws.toArray[j] (kJ Y N j):=λj m n=>o j _ _ (by simp[aAj (show j<a.length by simpa using m)]) (by simp[aAj (show j<ws.length by simpa using n)]);rw[i,Bool.and_true,p];exact⟨SeqAt.RcAt.lists f g e h k,SeqAt.RcNeAt.lists f g e h k⟩
 .have e:(a.toArray.size !=ws.toArray.size)=true:=by simp[e1,e2,d]
  have i:(Y.length==N.length)=false:=by simp[d]
  rw[i,aGe];exact⟨SeqAt.RcAt.lists_lengths f g e h,SeqAt.RcNeAt.lists_lengths f g e h⟩
def jP (d:IsTup s.heap l a.toArray)(e:IsTup s.heap b ws.toArray)(e1:a.length=Y.length)(e2:ws.length=N.length)(f:A.units<dy)(k:lH A s a ws Y N):SeqAt.RcAt A s (.ref l) (.ref b) (T2 Y N)/\SeqAt.RcNeAt A s (.ref l) (.ref b) (!T2 Y N):=by
 rw[fX];have m:min Y.length N.length=min a.toArray.size ws.toArray.size:=by simp[e1,e2]
 have n:(Y.length==N.length)=(a.toArray.size==ws.toArray.size):=by simp[e1,e2]
 have g:∀j (h:j<a.toArray.size) (i:j<ws.toArray.size),SeqAt.EqAt A.in1 s a.toArray[j] ws.toArray[j] (kJ Y N j):=λj h i=>k j _ _ (by simp[aAj (show j<a.length by simpa using h)]) (by simp[aAj (show j<ws.length by simpa using i)]);rw[n,m];exact⟨SeqAt.RcAt.tuples d e f g,SeqAt.RcNeAt.tuples d e f g⟩
def u6 (A:cq):A.in1.units=A.units+1:=rfl
mutual
theorem YB (I:Inv X L σ H s):∀{x y:V} {w z:D} {v u:av} {A:cq},Rep X.K H O x w->Rep X.K H Y y z->RelV x v->RelV y u->A.units+E8 w<dy->A.units+E8 z<dy->SeqAt.EqAt A s v u (u0 w z)
 |_,_,_,_,v,u,A,.non,g,i,b,j,f=>by
  have d:A.units<dy:=by lia
  cases i;cases g with
  |dct=>exact absurd f (by rw[E8];lia)
  |non=>cases b;exact aDY _
  |bl=>cases b;simp only[u0];exact SeqAt.EqAt.none_bool _
  |int=>obtain⟨t,rfl⟩:=b;simp only[u0];exact SeqAt.EqAt.none_int _ _
  |str=>obtain⟨t,rfl⟩:=b;simp only[u0];exact SeqAt.EqAt.none_str _ _
  |tup h r=>cases b;obtain⟨_,_,p,_⟩:=I.tuple h;simp only[u0];exact SeqAt.EqAt.none_tuple p d
  |lst h _ r=>cases b;obtain⟨_,_,p,_⟩:=I.list h;simp only[u0];exact SeqAt.EqAt.none_list p.isList d
 |_,_,_,_,v,u,A,.bl,g,i,b,j,f=>by
  have d:A.units<dy:=by lia
  cases i;cases g with
  |dct=>exact absurd f (by rw[E8];lia)
  |non=>cases b;simp only[u0];exact SeqAt.EqAt.bool_none _
  |bl=>cases b;simp only[u0];exact SeqAt.EqAt.bool_bool _ _
  |int=>obtain⟨t,rfl⟩:=b;simp only[u0];exact SeqAt.EqAt.bool_int _ _ _
  |str=>obtain⟨t,rfl⟩:=b;simp only[u0];exact SeqAt.EqAt.bool_str _ _ _
  |tup h r=>cases b;obtain⟨_,_,p,_⟩:=I.tuple h;simp only[u0];exact SeqAt.EqAt.bool_tuple _ p d
  |lst h _ r=>cases b;obtain⟨_,_,p,_⟩:=I.list h;simp only[u0];exact SeqAt.EqAt.bool_list _ p.isList d
 |_,_,_,_,v,u,A,.int,g,i,b,j,f=>by
  have d:A.units<dy:=by lia
  obtain⟨N,rfl⟩:=i;cases g with
  |dct=>exact absurd f (by rw[E8];lia)
  |non=>cases b;simp only[u0];exact SeqAt.EqAt.int_none _ _
  |bl=>cases b;simp only[u0];exact SeqAt.EqAt.int_bool _ _ _
  |int=>obtain⟨t,rfl⟩:=b;simp only[u0];exact aEV _ _ _ _
  |str=>obtain⟨t,rfl⟩:=b;simp only[u0];exact aGm _ _ _ _
  |tup h r=>cases b;obtain⟨_,_,p,_⟩:=I.tuple h;simp only[u0];exact aFZ _ _ p d
  |lst h _ r=>cases b;obtain⟨_,_,p,_⟩:=I.list h;simp only[u0];exact SeqAt.EqAt.int_list _ _ p.isList d
 |_,_,_,_,v,u,A,.str,g,i,b,j,f=>by
  have d:A.units<dy:=by lia
  obtain⟨N,rfl⟩:=i;cases g with
  |dct=>exact absurd f (by rw[E8];lia)
  |non=>cases b;simp only[u0];exact SeqAt.EqAt.str_none _ _
  |bl=>cases b;simp only[u0];exact SeqAt.EqAt.str_bool _ _ _
  |int=>obtain⟨t,rfl⟩:=b;simp only[u0];exact aGn _ _ _ _
  |str=>obtain⟨t,rfl⟩:=b;simp only[u0];exact SeqAt.EqAt.str_str _ _ _ _
  |tup h r=>cases b;obtain⟨_,_,p,_⟩:=I.tuple h;simp only[u0];exact SeqAt.EqAt.str_tuple _ _ p d
  |lst h _ r=>cases b;obtain⟨_,_,p,_⟩:=I.list h;simp only[u0];exact SeqAt.EqAt.str_list _ _ p.isList d
 |_,_,_,_,v,u,A,.tup (a:=a) (vs:=vs) (ds:=ds) h r,g,i,b,j,f=>by
  have d:A.units<dy:=by lia
  cases i;obtain⟨B,n,p,_⟩:=I.tuple h;cases g with
  |dct=>exact absurd f (by rw[E8];lia)
  |non=>cases b;simp only[u0];exact SeqAt.EqAt.tuple_none p d
  |bl=>cases b;simp only[u0];exact SeqAt.EqAt.tuple_bool _ p d
  |int=>obtain⟨t,rfl⟩:=b;simp only[u0];exact aGa _ _ p d
  |str=>obtain⟨t,rfl⟩:=b;simp only[u0];exact SeqAt.EqAt.tuple_str _ _ p d
  |@tup C Q T k l=>
   cases b;obtain⟨o,q,m,_⟩:=I.tuple k;by_cases e:a=C
   .subst e;have E:=I.ab6 h k;subst E;have J:=Reps.inj I r l;subst J;rw[R1];exact aDY _
   .simp only[u0];refine aEW e (jP p m (by rw[<-n.length,r.length]) (by rw[<-q.length,l.length]) d<|iM I r l n q ?_ ?_).1
    .rw[E8]at j;rw[u6];lia
    .rw[E8]at f;rw[u6];lia
  |lst k _ l=>cases b;obtain⟨_,_,m,_⟩:=I.list k;simp only[u0];exact SeqAt.EqAt.tuple_list p m.isList d
 |_,_,_,_,v,u,A,.lst (a:=a) (vs:=vs) (ds:=ds) h nO r,g,i,b,j,f=>by
  have d:A.units<dy:=by lia
  cases i;obtain⟨B,n,p,_⟩:=I.list h;cases g with
  |dct=>exact absurd f (by rw[E8];lia)
  |non=>cases b;simp only[u0];exact SeqAt.EqAt.list_none p.isList d
  |bl=>cases b;simp only[u0];exact SeqAt.EqAt.list_bool _ p.isList d
  |int=>obtain⟨t,rfl⟩:=b;simp only[u0];exact SeqAt.EqAt.list_int _ _ p.isList d
  |str=>obtain⟨t,rfl⟩:=b;simp only[u0];exact SeqAt.EqAt.list_str _ _ p.isList d
  |tup k l=>cases b;obtain⟨_,_,m,_⟩:=I.tuple k;simp only[u0];exact SeqAt.EqAt.list_tuple p.isList m d
  |@lst C Q T k U l=>
   cases b;obtain⟨o,q,m,_⟩:=I.list k;by_cases e:a=C
   .subst e;have E:=I.ac1 h k;subst E;have J:=Reps.inj I r l;subst J;rw[R1];exact aDY _
   .simp only[u0];refine aEW e (wR p.isList m.isList (by rw[<-n.length,r.length]) (by rw[<-q.length,l.length]) d<|iM I r l n q ?_ ?_).1
    .rw[E8]at j;rw[u6];lia
    .rw[E8]at f;rw[u6];lia
 |_,_,_,_,v,u,A,.dct ..,g,i,b,j,f=>absurd j (by rw[E8];lia)
theorem iM (I:Inv X o σ H s):∀{vs ws:List V} {Y N:List D} {e f:List av} {A:cq},Reps X.K H O vs Y->Reps X.K H y ws N->l4 vs e->l4 ws f->A.in1.units+J5 Y<dy->A.in1.units+J5 N<dy->lH A s e f Y N
 |_,_,_,_,e,f,A,.nil,z,g,i,k,l=>λj u w a b=>by cases g;simp at a
 |_,_,_,_,e,f,A,.cons h t,.nil,g,i,k,l=>λj u w a b=>by cases i;simp at b
 |_,_,_,_,e,f,A,.cons (d:=d) (ds:=ds) h t,.cons (d:=B) (ds:=C) p r,g,i,k,l=>λj u w a b=>by
  cases g with
  |cons v x=>
   cases i with
   |cons m n=>
    rw[J5]at k l;cases j with
    |zero=>simp only[aDf,aGt]at a b;subst a b;exact YB I h p v m (by lia) (by lia)
    |succ j=>simp only[aFs]at a b;have q:=iM I (A:=A) t r x n (by lia) (by lia) j u w a b;exact q
end
def wj (I:Inv X L σ H s)(m:A8 X.K H O x z)(d:A8 X.K H T y f)(n:RelV x v)(e:RelV y u)(B:A.units+E8 z<dy)(j:A.units+E8 f<dy):
  SeqAt.RcAt A s v u (u0 z f)/\SeqAt.RcNeAt A s v u (!u0 z f):=by
 have b:A.units<dy:=by lia
 cases z with
 |dct=>exact absurd B (by rw[E8];lia)
 |non=>
  cases m.ac3;cases n;cases f with
  |dct=>exact absurd j (by rw[E8];lia)
  |non=>cases d.ac3;cases e;simp only[u0];exact⟨SeqAt.RcAt.none_none,SeqAt.RcNeAt.none_none⟩
  |bl=>cases d.blI;cases e;simp only[u0];exact⟨SeqAt.RcAt.none_bool _,SeqAt.RcNeAt.none_bool _⟩
  |int=>cases d.aa7;obtain⟨t,rfl⟩:=e;simp only[u0];exact⟨SeqAt.RcAt.none_int _ _,SeqAt.RcNeAt.none_int _ _⟩
  |str=>cases d.ac6;obtain⟨t,rfl⟩:=e;simp only[u0];exact⟨SeqAt.RcAt.none_str _ _,SeqAt.RcNeAt.none_str _ _⟩
  |tup N=>obtain⟨a,g,rfl,h,r⟩:=d.tupI;cases e;obtain⟨_,_,p,_⟩:=I.tuple h;simp only[u0];exact⟨SeqAt.RcAt.none_tuple p b,SeqAt.RcNeAt.none_tuple p b⟩
  |lst N=>obtain⟨a,g,rfl,h,r⟩:=d.aa6;cases e;obtain⟨_,_,p,_⟩:=I.list h;simp only[u0];exact⟨SeqAt.RcAt.none_list p.isList b,SeqAt.RcNeAt.none_list p.isList b⟩
 |bl=>
  cases m.blI;cases n;cases f with
  |dct=>exact absurd j (by rw[E8];lia)
  |non=>cases d.ac3;cases e;simp only[u0];exact⟨SeqAt.RcAt.bool_none _,SeqAt.RcNeAt.bool_none _⟩
  |bl=>cases d.blI;cases e;simp only[u0];exact⟨SeqAt.RcAt.bool_bool _ _,SeqAt.RcNeAt.bool_bool _ _⟩
  |int=>cases d.aa7;obtain⟨t,rfl⟩:=e;simp only[u0];exact⟨SeqAt.RcAt.bool_int _ _ _,SeqAt.RcNeAt.bool_int _ _ _⟩
  |str=>cases d.ac6;obtain⟨t,rfl⟩:=e;simp only[u0];exact⟨SeqAt.RcAt.bool_str _ _ _,SeqAt.RcNeAt.bool_str _ _ _⟩
  |tup N=>obtain⟨a,g,rfl,h,r⟩:=d.tupI;cases e;obtain⟨_,_,p,_⟩:=I.tuple h;simp only[u0];exact⟨SeqAt.RcAt.bool_tuple _ p b,SeqAt.RcNeAt.bool_tuple _ p b⟩
  |lst N=>obtain⟨a,g,rfl,h,r⟩:=d.aa6;cases e;obtain⟨_,_,p,_⟩:=I.list h;simp only[u0];exact⟨SeqAt.RcAt.bool_list _ p.isList b,SeqAt.RcNeAt.bool_list _ p.isList b⟩
 |int=>
  cases m.aa7;obtain⟨Q,rfl⟩:=n;cases f with
  |dct=>exact absurd j (by rw[E8];lia)
  |non=>cases d.ac3;cases e;simp only[u0];exact⟨SeqAt.RcAt.int_none _ _,SeqAt.RcNeAt.int_none _ _⟩
  |bl=>cases d.blI;cases e;simp only[u0];exact⟨SeqAt.RcAt.int_bool _ _ _,SeqAt.RcNeAt.int_bool _ _ _⟩
  |int=>cases d.aa7;obtain⟨t,rfl⟩:=e;simp only[u0];exact⟨SeqAt.RcAt.int_int _ _ _ _,SeqAt.RcNeAt.int_int _ _ _ _⟩
  |str=>cases d.ac6;obtain⟨t,rfl⟩:=e;simp only[u0];exact⟨SeqAt.RcAt.int_str _ _ _ _,SeqAt.RcNeAt.int_str _ _ _ _⟩
  |tup N=>obtain⟨a,g,rfl,h,r⟩:=d.tupI;cases e;obtain⟨_,_,p,_⟩:=I.tuple h;simp only[u0];exact⟨SeqAt.RcAt.int_tuple _ _ p b,SeqAt.RcNeAt.int_tuple _ _ p b⟩
  |lst N=>obtain⟨a,g,rfl,h,r⟩:=d.aa6;cases e;obtain⟨_,_,p,_⟩:=I.list h;simp only[u0];exact⟨SeqAt.RcAt.int_list _ _ p.isList b,SeqAt.RcNeAt.int_list _ _ p.isList b⟩
 |str=>
  cases m.ac6;obtain⟨Q,rfl⟩:=n;cases f with
  |dct=>exact absurd j (by rw[E8];lia)
  |non=>cases d.ac3;cases e;simp only[u0];exact⟨SeqAt.RcAt.str_none _ _,SeqAt.RcNeAt.str_none _ _⟩
  |bl=>cases d.blI;cases e;simp only[u0];exact⟨SeqAt.RcAt.str_bool _ _ _,SeqAt.RcNeAt.str_bool _ _ _⟩
  |int=>cases d.aa7;obtain⟨t,rfl⟩:=e;simp only[u0];exact⟨SeqAt.RcAt.str_int _ _ _ _,SeqAt.RcNeAt.str_int _ _ _ _⟩
  |str=>cases d.ac6;obtain⟨t,rfl⟩:=e;simp only[u0];exact⟨SeqAt.RcAt.str_str _ _ _ _,SeqAt.RcNeAt.str_str _ _ _ _⟩
  |tup N=>obtain⟨a,g,rfl,h,r⟩:=d.tupI;cases e;obtain⟨_,_,p,_⟩:=I.tuple h;simp only[u0];exact⟨SeqAt.RcAt.str_tuple _ _ p b,SeqAt.RcNeAt.str_tuple _ _ p b⟩
  |lst N=>obtain⟨a,g,rfl,h,r⟩:=d.aa6;cases e;obtain⟨_,_,p,_⟩:=I.list h;simp only[u0];exact⟨SeqAt.RcAt.str_list _ _ p.isList b,SeqAt.RcNeAt.str_list _ _ p.isList b⟩
 |tup Y=>
  obtain⟨a,g,rfl,h,r⟩:=m.tupI;cases n;obtain⟨C,o,p,_⟩:=I.tuple h;cases f with
  |dct=>exact absurd j (by rw[E8];lia)
  |non=>cases d.ac3;cases e;simp only[u0];exact⟨SeqAt.RcAt.tuple_none p b,SeqAt.RcNeAt.tuple_none p b⟩
  |bl=>cases d.blI;cases e;simp only[u0];exact⟨SeqAt.RcAt.tuple_bool _ p b,SeqAt.RcNeAt.tuple_bool _ p b⟩
  |int=>cases d.aa7;obtain⟨t,rfl⟩:=e;simp only[u0];exact⟨SeqAt.RcAt.tuple_int _ _ p b,SeqAt.RcNeAt.tuple_int _ _ p b⟩
  |str=>cases d.ac6;obtain⟨t,rfl⟩:=e;simp only[u0];exact⟨SeqAt.RcAt.tuple_str _ _ p b,SeqAt.RcNeAt.tuple_str _ _ p b⟩
  |tup N=>
   obtain⟨E,J,rfl,k,l⟩:=d.tupI;cases e;obtain⟨q,w,i,_⟩:=I.tuple k;simp only[u0];refine jP p i (by rw[<-o.length,r.length]) (by rw[<-w.length,l.length]) b (iM I r l o w ?_ ?_)
   .rw[E8]at B;rw[u6];lia
   .rw[E8]at j;rw[u6];lia
  |lst N=>obtain⟨E,J,rfl,k,l⟩:=d.aa6;cases e;obtain⟨_,_,i,_⟩:=I.list k;simp only[u0];exact⟨SeqAt.RcAt.tuple_list p i.isList b,SeqAt.RcNeAt.tuple_list p i.isList b⟩
 |lst Y=>
  obtain⟨a,g,rfl,h,r⟩:=m.aa6;cases n;obtain⟨C,o,p,_⟩:=I.list h;cases f with
  |dct=>exact absurd j (by rw[E8];lia)
  |non=>cases d.ac3;cases e;simp only[u0];exact⟨SeqAt.RcAt.list_none p.isList b,SeqAt.RcNeAt.list_none p.isList b⟩
  |bl=>cases d.blI;cases e;simp only[u0];exact⟨SeqAt.RcAt.list_bool _ p.isList b,SeqAt.RcNeAt.list_bool _ p.isList b⟩
  |int=>cases d.aa7;obtain⟨t,rfl⟩:=e;simp only[u0];exact⟨SeqAt.RcAt.list_int _ _ p.isList b,SeqAt.RcNeAt.list_int _ _ p.isList b⟩
  |str=>cases d.ac6;obtain⟨t,rfl⟩:=e;simp only[u0];exact⟨SeqAt.RcAt.list_str _ _ p.isList b,SeqAt.RcNeAt.list_str _ _ p.isList b⟩
  |tup N=>obtain⟨E,J,rfl,k,l⟩:=d.tupI;cases e;obtain⟨_,_,i,_⟩:=I.tuple k;simp only[u0];exact⟨SeqAt.RcAt.list_tuple p.isList i b,SeqAt.RcNeAt.list_tuple p.isList i b⟩
  |lst N=>
   obtain⟨E,J,rfl,k,l⟩:=d.aa6;cases e;obtain⟨q,w,i,_⟩:=I.list k;simp only[u0];refine wR p.isList i.isList (by rw[<-o.length,r.length]) (by rw[<-w.length,l.length]) b (iM I r l o w ?_ ?_)
   .rw[E8]at B;rw[u6];lia
   .rw[E8]at j;rw[u6];lia
end
def AX (x y:D):R D:=if E8 x<=40/\E8 y<=40 then .ok (.bl (u0 x y))else .bad
def yA (x y:D):R D:=if E8 x<=40/\E8 y<=40 then .ok (.bl (!u0 x y))else .bad
section
def U8 (r:X.A.units+64<dy):kO X (d3 .Eq) AX:=by
 intro H O x y g h Q t i j q;unfold AX at q;split at q
 .rename_i w;refine⟨λa b d e=>a=x/\b=y/\d=H/\e (.bl (u0 g h)) H,?_,rfl,rfl,rfl,q _ H (Same.refl _) .bl⟩;intro f s σ d a b v u e I k l ⟨m,n,o,p⟩;subst m n o;exact(wj I (A:=X.A) i j k l (by lia) (by lia)).1 _ _ _ _ ⟨.bl _,_,I,rfl,p⟩
 .exact q.elim
def bM (r:X.A.units+64<dy):kO X (d3 .NotEq) yA:=by
 intro H O x y g h Q t i j q;unfold yA at q;split at q
 .rename_i w;refine⟨λa b d e=>a=x/\b=y/\d=H/\e (.bl (!u0 g h)) H,?_,rfl,rfl,rfl,q _ H (Same.refl _) .bl⟩;intro f s σ d a b v u e I k l ⟨m,n,o,p⟩;subst m n o;exact(wj I (A:=X.A) i j k l (by lia) (by lia)).2 _ _ _ _ ⟨.bl _,_,I,rfl,p⟩
 .exact q.elim
end
def yE:D->D->R D
 |.int a,.int b=>.ok (.int (a+b))
 |.lst a,.lst b=>if a.length+b.length<=sizeLine then .ok (.lst (a++b))else .bad
 |.tup [],.tup b=>.ok (.tup b)
 |.tup (x::a),.tup []=>if(x::a).length<=sizeLine then .ok (.tup (x::a))else .bad
 |.tup (x::a),.tup (y::b)=>if(x::a).length+(y::b).length<=sizeLine then .ok (.tup ((x::a)++(y::b)))else .bad
 |_,_=>.bad
def OV:D->D->R D
 |.int a,.int b=>.ok (.int (a-b))
 |_,_=>.bad
def o9 (a b:Int):Prop:=aAW a<=60000000/\aAW b<=60000000
instance(a b:Int):Decidable (o9 a b):=inferInstanceAs (Decidable<|_/\_)
def CP:D->D->R D
 |.int a,.int b=>if o9 a b then .ok (.int (a*b))else .bad
 |_,_=>.bad
def xM (b:Int):Prop:=b≠0/\aAW b<=9000
instance(b:Int):Decidable (xM b):=inferInstanceAs (Decidable<|_/\_)
def Z5:D->D->R D
 |.int a,.int b=>if xM b then .ok (.int (a.fdiv b))else .bad
 |_,_=>.bad
def fL:D->D->R D
 |.int a,.int b=>if b≠0 then .ok (.int (a.fmod b))else .bad
 |_,_=>.bad
def ZI:D->D->R D
 |.int a,.int b=>if 0<=b/\b<=1000000/\a.natAbs<2^64 then .ok (.int (a^b.toNat))else .bad
 |_,_=>.bad
def jz:D->D->R D
 |.int a,.int b=>.ok (.bl (decide (a<b)))
 |_,_=>.bad
def lw:D->D->R D
 |.int a,.int b=>.ok (.bl (decide (a<=b)))
 |_,_=>.bad
def VE:D->D->R D
 |.int a,.int b=>.ok (.bl (decide (b<a)))
 |_,_=>.bad
def GO (h0:b≠0)(h:aAW b<=n):b.natAbs.log2<n:=by
 unfold aAW at h;split at h
 .rename_i z;exact absurd (by simpa using z) h0
 .omega
def OI (h:o9 a b):IntMulOk a b:=mulOk_of_bits (m:=60000000) (n:=60000000) h.1 h.2 (by decide)
section
def kO.aa8 {f:av->av->Sem av}{g:D->D->R D}{C:Int->Int->Prop}{w:Int->Int->V}{dw:Int->Int->D}(h:kU X f (rI C w))(k:∀a b d,g a b=.ok d->∃i j,a=.int i/\b=.int j/\C i j/\d=dw i j)
  (l:∀a b e,g a b≠.ex e) (m:∀K H O i j,Rep K H O (w i j) (dw i j)):kO X f g:=by
 intro H O x y a b Q r n o q;cases e:g a b with
 |ok d=>rw[e]at q;obtain⟨i,j,rfl,rfl,p,rfl⟩:=k a b d e;cases n.aa7;cases o.aa7;exact⟨_,h,i,j,rfl,rfl,p,q _ H (Same.refl _) (m _ _ _ _ _)⟩
 |ex x=>exact absurd e (l _ _ _)
 |bad=>rw[e]at q;exact q.elim
def kU.c0 (h:kU X f (UT w)):kU X f (rI (λ_ _=>True) w):=by rintro a s σ H x y v u Q I b d ⟨i,j,e,g,_,q⟩;exact h a s σ H x y v u Q I b d ⟨i,j,e,g,q⟩
def G0:kO X (eQ .Sub) OV:=kO.aa8 (dw:=λi j=>.int (i-j)) (kU.c0 WY) (λa b d h=>by cases a<;>cases b<;>simp only[OV,R.ok.injEq,reduceCtorEq]at h;exact⟨_,_,rfl,rfl,trivial,h.symm⟩) (λa b e h=>by cases a<;>cases b<;>simp only[OV,reduceCtorEq]at h) λ_ _ _ _ _=>.int
def sM:kO X (d3 .Lt) jz:=kO.aa8 (dw:=λi j=>.bl (decide (i<j))) (kU.c0 uj) (λa b d h=>by cases a<;>cases b<;>simp only[jz,R.ok.injEq,reduceCtorEq]at h;exact⟨_,_,rfl,rfl,trivial,h.symm⟩) (λa b e h=>by cases a<;>cases b<;>simp only[jz,reduceCtorEq]at h) λ_ _ _ _ _=>.bl
def qw:kO X (d3 .LtE) lw:=kO.aa8 (dw:=λi j=>.bl (decide (i<=j))) (kU.c0 oq) (λa b d h=>by cases a<;>cases b<;>simp only[lw,R.ok.injEq,reduceCtorEq]at h;exact⟨_,_,rfl,rfl,trivial,h.symm⟩) (λa b e h=>by cases a<;>cases b<;>simp only[lw,reduceCtorEq]at h) λ_ _ _ _ _=>.bl
def pL:kO X (d3 .Gt) VE:=kO.aa8 (dw:=λi j=>.bl (decide (j<i))) (kU.c0 iz) (λa b d h=>by cases a<;>cases b<;>simp only[VE,R.ok.injEq,reduceCtorEq]at h;exact⟨_,_,rfl,rfl,trivial,h.symm⟩) (λa b e h=>by cases a<;>cases b<;>simp only[VE,reduceCtorEq]at h) λ_ _ _ _ _=>.bl
def OY:kU X (eQ .FloorDiv) (rI (λ_ j=>xM j) λi j=>.int (i.fdiv j)):=opI λ_ _ _ _ _ _ _ a q=>floordiv_int a.1 q (.inl (PyProof.noPylong_of_log2<|GO a.1 a.2))
def L9:kO X (eQ .FloorDiv) Z5:=kO.aa8 (dw:=λi j=>.int (i.fdiv j)) OY (λa b d h=>by
 cases a<;>cases b<;>simp only[Z5,reduceCtorEq]at h;split at h
 .rename_i f;cases h;exact⟨_,_,rfl,rfl,f,rfl⟩
 .cases h) (λa b e h=>by
  cases a<;>cases b<;>simp only[Z5,reduceCtorEq]at h;split at h<;>cases h) λ_ _ _ _ _=>.int
def U7:kO X (eQ .Mod) fL:=kO.aa8 (dw:=λi j=>.int (i.fmod j)) QM (λa b d h=>by
 cases a<;>cases b<;>simp only[fL,reduceCtorEq]at h;split at h
 .rename_i f;cases h;exact⟨_,_,rfl,rfl,f,rfl⟩
 .cases h) (λa b e h=>by
  cases a<;>cases b<;>simp only[fL,reduceCtorEq]at h;split at h<;>cases h) λ_ _ _ _ _=>.int
def PL:kO X (eQ .Pow) ZI:=kO.aa8 (dw:=λi j=>.int (i^j.toNat)) WD (λa b d h=>by
 cases a<;>cases b<;>simp only[ZI,reduceCtorEq]at h;split at h
 .rename_i f;cases h;exact⟨_,_,rfl,rfl,f,rfl⟩
 .cases h) (λa b e h=>by
  cases a<;>cases b<;>simp only[ZI,reduceCtorEq]at h;split at h<;>cases h) λ_ _ _ _ _=>.int
def SO:kU X (eQ .Mult) (rI o9 λi j=>.int (i*j)):=opI λ_ _ _ _ _ _ _ a q=>mul_int q (OI a)
def o8:kO X (eQ .Mult) CP:=kO.aa8 (dw:=λi j=>.int (i*j)) SO (λa b d h=>by
 cases a<;>cases b<;>simp only[CP,reduceCtorEq]at h;split at h
 .rename_i f;cases h;exact⟨_,_,rfl,rfl,f,rfl⟩
 .cases h) (λa b e h=>by
  cases a<;>cases b<;>simp only[CP,reduceCtorEq]at h;split at h<;>cases h) λ_ _ _ _ _=>.int
def RW:kU X (eQ .Add) (λx y H Q=>∃l b Y e,x=.ref l/\y=.ref b/\N0 X.K H l Y/\N0 X.K H b e/\Y.length+e.length<=sizeLine/\∀p,H p=none->Q (.ref p) (upd H p (.lst (Y++e)))):=by
 intro g s σ H x y v u Q I A B h;obtain⟨l,b,Y,e,rfl,rfl,C,E,J,q⟩:=h;cases A;cases B;obtain⟨a,r,p,_⟩:=I.list C;obtain⟨f,i,L,_⟩:=I.list E;obtain⟨⟨cls,N,j,O⟩,k,m,n,o⟩:=p.isList;obtain⟨⟨t,T,data2,U⟩,w,z,n2,d⟩:=L.isList;simp only at m o z d;subst m o z d;have ig:a.toArray.size+f.toArray.size<=sizeLine:=by rw[aAl,aAl,<-r.length,<-i.length];exact J
 have ea:a.toArray++f.toArray=(a++f).toArray:=by simp
 refine aFN ⟨_,k,rfl⟩ ⟨_,w,rfl⟩ noFill_list_add seq_list_add PySem.F.slot_list_add PySem.F.entry_list_add (PySem.F.args_list_add_2 _ _) (list_addW l b a.toArray f.toArray n n2 N T O U ig) ⟨k,w,?_⟩;rw[ea];exact⟨.ref _,_,I.ag3 (t':=s.toks) (r.append i) (by rw[aAK];omega),rfl,q _ I.fresh⟩
def KL:kU X (eQ .Add) (λx y H Q=>∃a b N,x=.ref a/\y=.ref b/\W0 X.K H a []/\W0 X.K H b N/\Q (.ref b) H):=by intro e s σ H x y v u Q I o p h;obtain⟨t,b,N,rfl,rfl,r,w,q⟩:=h;cases o;cases p;obtain⟨z,A,B,_⟩:=I.tuple r;obtain⟨U,Y,C,_⟩:=I.tuple w;cases A;obtain⟨⟨cls,E,f,J⟩,g,i,n,j⟩:=B;obtain⟨⟨k,L,data2,O⟩,l,m,T,d⟩:=C;simp only at i j m d;subst i j m d;exact aFN ⟨_,g,rfl⟩ ⟨_,l,rfl⟩ aFw seq_tuple_add PySem.F.slot_tuple_add PySem.F.entry_tuple_add (PySem.F.args_tuple_add_2 _ _) (tuple_addW0 t b _ _ n T E L J O (by simp)) ⟨g,l,.ref b,H,I,rfl,q⟩
def y6:kO X (eQ .Add) yE:=by
 intro H O x y v t Q w o r q;cases v with
 |int i=>
  cases t with
  |int j=>cases o.aa7;cases r.aa7;exact⟨_,YI,i,j,rfl,rfl,q _ H (Same.refl _) .int⟩
  |_=>exact aAg q
 |lst a=>
  cases t with
  |lst b=>
   simp only[yE]at q;split at q
   .rename_i s;obtain⟨l,f,rfl,g,d⟩:=o.aa6;obtain⟨k,m,rfl,h,e⟩:=r.aa6;exact⟨_,RW,l,k,f,m,rfl,rfl,g,h,by rw[d.length,e.length];exact s,λp n=>q _ _ (j5 n _) (.lst (N0.of i9) (w p n) ((d.append e).same (j5 n _)))⟩
   .exact q.elim
  |_=>exact aAg q
 |tup a=>
  cases t with
  |tup b=>
   cases a with
   |nil=>obtain⟨l,f,rfl,g,d⟩:=o.tupI;obtain⟨k,m,rfl,h,e⟩:=r.tupI;cases d;exact⟨_,KL,l,k,m,rfl,rfl,g,h,q _ H (Same.refl _) (.tup h e)⟩
   |cons x a=>
    cases b with
    |nil=>
     obtain⟨l,f,rfl,g,d⟩:=o.tupI;obtain⟨k,m,rfl,h,e⟩:=r.tupI;cases e;have u:f≠[]:=λz=>by subst z;have:=d.length;simp at this
     simp only[yE]at q;split at q
     .rename_i s;exact⟨_,ER,l,k,f,[],rfl,rfl,g,h,u,by rw[d.length];exact s,λ_=>q _ H (Same.refl _) (.tup g d),λz=>absurd rfl z⟩
     .exact q.elim
    |cons y b=>
     simp only[yE]at q;split at q
     .rename_i s;obtain⟨l,f,rfl,g,d⟩:=o.tupI;obtain⟨k,m,rfl,h,e⟩:=r.tupI;have u:f≠[]:=λz=>by subst z;have:=d.length;simp at this
      have A:m≠[]:=λz=>by subst z;have:=e.length;simp at this
      exact⟨_,ER,l,k,f,m,rfl,rfl,g,h,u,by rw[d.length,e.length];exact s,λz=>absurd z A,λ_ p n=>q _ _ (j5 n _) (.tup (W0.of i9) ((d.append e).same (j5 n _)))⟩
     .exact q.elim
  |_=>cases a<;>exact aAg q
 |_=>exact aAg q
def X3 (x y:D):R D:=match x,y with
 |.lst Y,.int i=>match nQ Y i with|some d=>.ok d|none=>.bad
 |.tup Y,.int i=>match nQ Y i with|some d=>.ok d|none=>.bad
 |_,_=>.bad
def wV {K:jb}{H:Hp}{O:bp->Prop}{vs:List V}{ds:List D}{i:Int}{d:D}(r:Reps K H O vs ds)(h:nQ ds i=some d):∃v,nQ vs i=some v/\Rep K H O v d:=by
 unfold nQ at h⊢;rw[r.length];cases e:zH ds.length i with
 |none=>rw[e]at h;cases h
 |some j=>rw[e]at h;exact r.get h
def i7 (N:PB X a f)(T:PD X b g)(t:RF b:=by exactλ_ _=>rfl):PD X (.Subscript a b pos) (λρ=>(f ρ).bind λx=>(g ρ).bind λy=>X3 x y):=by
 refine rL λj s σ H Q I Ha O0 O ρ E q=>?_;refine Subscript_ (PY N T.pb I (lS E q) λv u z x y k A B C h=>?_);obtain⟨J,U,fr,L,r2,q⟩:=h;cases U with
 |int i=>
  cases r2.aa7;cases J with
  |lst Y=>
   simp only[X3]at q;cases e:nQ Y i with
   |none=>rw[e]at q;exact q.elim
   |some d=>rw[e]at q;obtain⟨p,l,rfl,m,n⟩:=L.aa6;obtain⟨w,o,r⟩:=wV n e;exact UB a b j z σ k _ _ v u Q A B C ⟨p,l,i,w,rfl,rfl,m,o,q w k (Same.refl _) r⟩ (t _ _)
  |tup Y=>
   simp only[X3]at q;cases e:nQ Y i with
   |none=>rw[e]at q;exact q.elim
   |some d=>rw[e]at q;obtain⟨p,l,rfl,m,n⟩:=L.tupI;obtain⟨w,o,r⟩:=wV n e;exact WN a b j z σ k _ _ v u Q A B C ⟨p,l,i,w,rfl,rfl,m,o,q w k (Same.refl _) r⟩ (t _ _)
  |_=>exact aAg q
 |_=>cases J<;>exact aAg q
def cutD (Y:List D)(lo a:Option Int):List D:=(Y.drop<|HT.sIx Y.length 0 lo).take (HT.sIx Y.length Y.length a-HT.sIx Y.length 0 lo)
def qM {K:jb}{H:Hp}{O:bp->Prop}{vs:List V}{ds:List D}{lo a:Option Int}(r:Reps K H O vs ds):Reps K H O (yH vs lo a) (cutD ds lo a):=by unfold yH cutD;rw[r.length];exact(r.drop _).take _
def ZP (X:Cx)(e:Option cv)(f:Ev->R (Option Int)):Prop:=PO X e λσ H Q=>∃b d O ρ,EnvOk X.K b d H O σ ρ/\match f ρ with
 |.ok o=>∀a,Same H a->Q o a
 |.ex e=>∀a,Same H a->XW X e a
 |.bad=>False
def toI:D->R (Option Int)
 |.int i=>.ok (some i)
 |_=>.bad
def R0:ZP X none (λ_=>.ok none):=by rintro a s σ H Q I ⟨b,d,O,ρ,E,q⟩;exact QP a s σ H Q I (q H<|Same.refl _)
def G3 (h:PD X e f):ZP X (some e) (λρ=>(f ρ).bind toI):=by rintro a s σ H Q I ⟨b,g,O,ρ,E,q⟩;exact TM h a s σ H Q I ⟨b,g,O,ρ,E,by
 dsimp only at q;cases e:f ρ with
 |ok d=>
  rw[e]at q;cases d with
  |int i=>exactλv j k l=>by cases l;exact⟨i,rfl,q j k⟩
  |_=>exact aAg q
 |ex x=>rw[e]at q;exact q
 |bad=>rw[e]at q;exact q⟩
def EM (x:D)(lo a:Option Int):R D:=match x with
 |.lst Y=>.ok (.lst (cutD Y lo a))
 |.tup Y=>if HT.sIx Y.length 0 lo=0/\HT.sIx Y.length Y.length a=Y.length then .bad else .ok (.tup (cutD Y lo a))
 |_=>.bad
def kR {lo B:Option cv}{C:Pos}{m n:Ev->R (Option Int)}(J:PB X a f)(L:ZP X lo m)(N:ZP X B n):
  PD X (.Subscript a (.Slice lo B none C) pos) (λρ=>(f ρ).bind λx=>(m ρ).bind λl=>(n ρ).bind λh=>EM x l h):=by
 refine rL λi s σ H Q I o t O ρ E q=>?_;have u:∀x d l h g,A8 X.K g O x d->(∀p,g p=none->¬O p)->RC X g O (EM d l h) Q->jw X.K x l h g Q\/uz X.K x l h g Q:=λx d l h g r T q=>by
  cases d with
  |lst Y=>obtain⟨p,v,rfl,w,k⟩:=r.aa6;exact .inl ⟨p,v,rfl,w,λp b=>q _ _ (j5 b _) (.lst (N0.of i9) (T p b) ((qM k).same (j5 b _)))⟩
  |tup Y=>
   obtain⟨p,v,rfl,w,k⟩:=r.tupI;simp only[EM]at q;split at q
   .exact q.elim
   .rename_i U;exact .inr ⟨p,v,rfl,w,by rw[k.length];exact U,λp b=>q _ _ (j5 b _) (.tup (W0.of i9) ((qM k).same (j5 b _)))⟩
  |_=>exact aAg q
 refine KO (QU.or aw) J L N i s σ H Q I ⟨o,t,O,ρ,E,?_⟩;dsimp only at q;cases y:f ρ with
 |ok d=>
  rw[y]at q;intro x H1 s1 r1;refine⟨o,t,O,ρ,E.grow s1,?_⟩;rw[R.aa0]at q;cases z:m ρ with
  |ok l=>
   rw[z]at q;intro H2 s2;refine⟨o,t,O,ρ,(E.grow s1).grow s2,?_⟩;cases A:n ρ with
   |ok h=>rw[A]at q;intro j e;have q':RC X H O (EM d l h) Q:=q;exact u x d l h j ((r1.same s2).same e) (λp b=>(((E.grow s1).grow s2).grow e).fresh b) (q'.grow<|s1.trans<|s2.trans e)
   |ex x=>rw[A]at q;exactλj e=>q j (s1.trans<|s2.trans e)
   |bad=>rw[A]at q;exact q
  |ex x=>rw[z]at q;exactλj e=>q j (s1.trans e)
  |bad=>rw[z]at q;exact q
 |ex x=>rw[y]at q;exact q
 |bad=>rw[y]at q;exact q
def HE {K:jb}{H:Hp}{O:bp->Prop}{vs:List V}{d:D}(r:Paired (A8 K H O) vs [d]):∃v,vs=[v]/\A8 K H O v d:=by
 cases r with
 |cons a b=>cases b;exact⟨_,rfl,a⟩
def pr2 {K:jb}{H:Hp}{O:bp->Prop}{vs:List V}{d d':D}(r:Paired (A8 K H O) vs [d,d']):∃v a,vs=[v,a]/\A8 K H O v d/\A8 K H O a d':=by
 cases r with
 |cons b f=>obtain⟨a,e,g⟩:=HE f;subst e;exact⟨_,_,rfl,b,g⟩
def GZ:List D->R D
 |[.lst Y]=>.ok (.int Y.length)
 |[.tup Y]=>.ok (.int Y.length)
 |_=>.bad
def X4:eG X (.builtin "len") GZ:=by
 intro H O e d Q f r q;match d,q with
 |[.lst Y],q=>obtain⟨v,rfl,z⟩:=HE r;obtain⟨p,N,rfl,a,b⟩:=z.aa6;exact⟨_,iH,p,N,rfl,.inl a,q _ H (Same.refl _) (by rw[b.length];exact .int)⟩
 |[.tup Y],q=>obtain⟨v,rfl,z⟩:=HE r;obtain⟨p,N,rfl,a,b⟩:=z.tupI;exact⟨_,iH,p,N,rfl,.inr a,q _ H (Same.refl _) (by rw[b.length];exact .int)⟩
def lq:List D->R D
 |[.int i]=>.ok (.int (if i<0 then-i else i))
 |_=>.bad
def YT:eG X (.builtin "abs") lq:=by
 intro H O b a Q d r q;match a,q with
 |[.int i],q=>obtain⟨v,rfl,z⟩:=HE r;cases z.aa7;exact⟨_,MI,i,rfl,q _ H (Same.refl _) .int⟩
def kz:List D->R D
 |[.int i]=>.ok (.int i)
 |[.bl b]=>.ok (.int (if b then 1 else 0))
 |_=>.bad
def JN:eG X (.type "int") kz:=by
 intro H O b a Q d r q;match a,q with
 |[.int i],q=>obtain⟨v,rfl,z⟩:=HE r;cases z.aa7;exact⟨_,sJ,.inl ⟨i,rfl,q _ H (Same.refl _) .int⟩⟩
 |[.bl i],q=>obtain⟨v,rfl,z⟩:=HE r;cases z.blI;exact⟨_,sJ,.inr ⟨i,rfl,q _ H (Same.refl _) .int⟩⟩
def XM:List D->R D
 |[.lst Y]=>.ok (.tup Y)
 |[.tup Y]=>.ok (.tup Y)
 |_=>.bad
def JI:eG X (.type "tuple") XM:=by
 intro H O f e Q g r q;match e,q with
 |[.lst Y],q=>obtain⟨v,rfl,z⟩:=HE r;obtain⟨p,N,rfl,a,b⟩:=z.aa6;exact⟨_,eM,p,N,rfl,.inl ⟨a,λl d=>q _ _ (j5 d _) (.tup (W0.of i9) (b.same<|j5 d _))⟩⟩
 |[.tup Y],q=>obtain⟨v,rfl,z⟩:=HE r;obtain⟨p,N,rfl,a,b⟩:=z.tupI;exact⟨_,eM,p,N,rfl,.inr ⟨a,q _ _ (Same.refl _) (.tup a b)⟩⟩
def VU:List D->R D
 |[.lst Y]=>.ok (.lst Y)
 |[.tup Y]=>.ok (.lst Y)
 |_=>.bad
def lU:eG X (.type "list") VU:=by
 intro H O g f Q e r q;match f,q with
 |[.lst Y],q=>obtain⟨v,rfl,z⟩:=HE r;obtain⟨p,N,rfl,b,d⟩:=z.aa6;exact⟨_,gJ,p,N,rfl,.inl b,λl a=>q _ _ (j5 a _) (.lst (N0.of i9) (e l a) (d.same<|j5 a _))⟩
 |[.tup Y],q=>obtain⟨v,rfl,z⟩:=HE r;obtain⟨p,N,rfl,b,d⟩:=z.tupI;exact⟨_,gJ,p,N,rfl,.inr b,λl a=>q _ _ (j5 a _) (.lst (N0.of i9) (e l a) (d.same<|j5 a _))⟩
def tyD:D->String
 |.non=> "NoneType"|.bl _=> "bool"|.int _=> "int"|.str _=> "str"|.tup _=> "tuple"|.lst _=> "list"|.dct=> "dict"
def JG (T:String)(d:D):Bool:=tyD d==T||(T== "int"&&tyD d== "bool")
def FO (T:String):Prop:=∀(K:jb) (d:D),PySem.W.kitOne K (.type (tyD d)) (.type T)=some (JG T d)
def RP:FO "int":=λK d=>by cases d<;>with_unfolding_all rfl
def NQ:FO "bool":=λK d=>by cases d<;>with_unfolding_all rfl
def SS {O:bp->Prop}(I:Inv X f σ H s)(m:FO T)(r:A8 X.K H O v d)(g:RelV v u)(q:Q (.bl (JG T d)) H):
  bc (bt X.prog X.w) X.A (call (.builtin "isinstance") [u,.type T]) (EP X f σ Q) X.xe s:=by
 have e:=m X.K d;have b:∀l,EP X f σ Q (.bool (JG T d)) {s with toks:=l}:=λl=>⟨.bl _,H,I.tok _,rfl,q⟩;cases d with
 |non=>cases r.ac3;cases g;exact PySem.W.kia_one PySem.W.kitx_none I.kIn aGu e (λz=>nomatch z) b
 |bl=>cases r.blI;cases g;exact PySem.W.kia_one PySem.W.kitx_bool I.kIn aGu e (λz=>nomatch z) b
 |int=>cases r.aa7;obtain⟨t,rfl⟩:=g;exact PySem.W.kia_one PySem.W.kitx_int I.kIn aGu e (λz=>nomatch z) b
 |str=>cases r.ac6;obtain⟨t,rfl⟩:=g;exact PySem.W.kia_one PySem.W.kitx_str I.kIn aGu e (λz=>nomatch z) b
 |tup Y=>obtain⟨a,y,rfl,h,_⟩:=r.tupI;cases g;obtain⟨i,_,p,_⟩:=I.tuple h;obtain⟨o,j,k,_⟩:=p;exact PySem.W.kia_one PySem.W.kitx_tuple I.kIn ⟨o,j,k⟩ e (λz=>nomatch z) b
 |lst Y=>obtain⟨a,y,rfl,h,_⟩:=r.aa6;cases g;obtain⟨i,_,p,_⟩:=I.list h;obtain⟨o,n,j,k,_⟩:=p;exact PySem.W.kia_one PySem.W.kitx_list I.kIn ⟨o,j,k⟩ e (λz=>nomatch z) b
 |dct=>obtain⟨a,o,rfl,h,x⟩:=r.af7;cases g;exact PySem.W.kia_one PySem.W.kitx_dict I.kIn ⟨o,(I.hok _ _ h).1,x.1⟩ e (λz=>nomatch z) b
def KS (t:FO T)(y:PB X a f)(z:dt x=some (.type T):=by decide+kernel)(A:X.mg "isinstance"=none:=by assumption)(i:X.mg x=none:=by assumption)(B:Gl X "isinstance":=by rfl)(j:Gl X x:=by rfl)(C:(x==jd)=false:=by decide)(J:x≠ "__name__":=by decide)(n:a9 [a,.Name x pt] X.env=(false,dq a X.env)::a9 [.Name x pt] X.env:=by rfl)(L:a9 [Expr.Name x pt] X.env=[(false,dq (.Name x pt) X.env)]:=by rfl)(N:(cz pos (a9 [Expr.Name x pt] X.env)).any (·.1)=false:=by rfl):
  PD X (.Call (.Name "isinstance" p) [a,.Name x pt] [] pos) (λρ=>(f ρ).bind λd=>.ok (.bl (JG T d))):=by
 refine rL λb s σ H Q I U Y O ρ E q=>?_;refine aAQ (N2 (u:=.builtin "isinstance") I B A (by decide+kernel) ?_);have hb:PE X (.Name x pt) (tC<|.ty T):=TL j i z rfl J C;have h:=J3 y (J3 hb aY (by rw[L];rfl)) n pos b s σ H (λo g=>∃v d,o=[v,.ty T]/\A8 X.K g O v d/\Q (.bl (JG T d)) g) I ⟨U,Y,O,ρ,E,by refine PR.mono (PR.seq q) λv g k=>?_;obtain⟨d,_,s1,l,h1⟩:=k;exact⟨v,d,rfl,l,h1 _ g (Same.refl _) .bl⟩⟩
 refine aBK (B1 h λus s1 k=>?_) n N;obtain⟨o,g,I1,l,v,d,e,r,h⟩:=k;subst e;obtain⟨u,w,rfl,ru,m⟩:=vals2 l;cases m;exact SS I1 t r ru h
end
section
variable{K:jb}
def Kp.lst (k:Kp H O H' d){a:bp}{Y:List V}(n:¬O a)(h:N0 K H a Y)(f:∀o,K.lookup a=some o->¬d a):¬d a/\N0 K H' a Y:=by
 rcases h with(h|⟨o,h⟩)|h
 .exact⟨(k _ _ h n).2,.inl (.inl (k _ _ h n).1)⟩
 .exact⟨(k _ _ h n).2,.inl (.inr ⟨o,(k _ _ h n).1⟩)⟩
 .obtain⟨o,b,m,e,g⟩:=h;exact⟨f o e,.inr ⟨o,b,m,e,g⟩⟩
def Kp.tup (k:Kp H O H' d)(b:∀a,O a->∃o,H a=some o/\Mt o){a:bp}{Y:List V}(h:W0 K H a Y):W0 K H' a Y:=by
 rcases h with(h|⟨o,h⟩)|h
 .exact .inl (.inl (k _ _ h λz=>by obtain⟨o,q,m⟩:=b a z;rw[h]at q;cases q;exact m).1)
 .exact .inl (.inr ⟨o,(k _ _ h λz=>by obtain⟨o,q,m⟩:=b a z;rw[h]at q;cases q;exact m).1⟩)
 .exact .inr h
end
def Q1 (K:jb)(O:bp->Prop):Prop:=∀a o,K.lookup a=some o->¬O a
def Kp.rep {K:jb}{H H':Hp}{O b:bp->Prop}(k:Kp H O H' b)(e:∀a,O a->∃o,H a=some o/\Mt o)(f:Q1 K b){v:V}{d:D}(r:Rep K H O v d):Rep K H' b v d:=
 r.mono (λ_ _ h=>k.tup e h) (λa _ n h=>k.lst n h λo q=>f a o q) λa _ n h=>⟨(k a _ h n).2,(k a _ h n).1⟩
def Kp.ac8 {K:jb}{H H':Hp}{O b:bp->Prop}(k:Kp H O H' b)(e:∀a,O a->∃o,H a=some o/\Mt o)(f:Q1 K b){v:List V}{d:List D}(r:Reps K H O v d):Reps K H' b v d:=
 r.mono (λ_ _ h=>k.tup e h) (λa _ n h=>k.lst n h λo q=>f a o q) λa _ n h=>⟨(k a _ h n).2,(k a _ h n).1⟩
inductive Out where
 |nx (ρ:Ev)|rt (d:D)|bk (ρ:Ev)|ct (ρ:Ev)
def RS (X:Cx)(g:Hp)(h:bp->Prop)(H:Hp)(O:bp->Prop)(r:R Out)(D:Ends):Prop:=match r with
 |.ok (.nx ρ)=>∀f a b,EnvOk X.K g h a b f ρ->Q1 X.K b->Kp H O a b->D.nx f a
 |.ok (.bk ρ)=>∀f a b,EnvOk X.K g h a b f ρ->Q1 X.K b->Kp H O a b->D.bk f a
 |.ok (.ct ρ)=>∀f a b,EnvOk X.K g h a b f ρ->Q1 X.K b->Kp H O a b->D.ct f a
 |.ok (.rt d)=>∀v a,Same g a->Rep X.K a h v d->D.rt v a
 |.ex e=>∀a,Same g a->XW X e a
 |.bad=>False
def tS (X:Cx)(a:Hp)(b:bp->Prop)(F:Ev->R Out):TS:=λD σ H=>∃O ρ,EnvOk X.K a b H O σ ρ/\Q1 X.K O/\RS X a b H O (F ρ) D
def oZ (X:Cx)(st:dm)(F:Ev->R Out):Prop:=∀a b,PS X st (tS X a b F)
def Y0 (X:Cx)(st:List dm)(F:Ev->R Out):Prop:=∀a b,uR X st (tS X a b F)
def ZH {X:Cx}{st:dm}{t t':TS}(h:PS X st t)(i:∀D σ H,t' D σ H->t D σ H):PS X st t':=λa s σ H D I q=>h a s σ H D I (i D σ H q)
def RE {X:Cx}{st:List dm}{t t':TS}(h:uR X st t)(i:∀D σ H,t' D σ H->t D σ H):uR X st t':=λa s σ H D I q=>h a s σ H D I (i D σ H q)
def BZ {X:Cx}{st:dm}{t:TS}{F:Ev->R Out}{a:Hp}{b:bp->Prop}(h:PS X st t)(i:∀D σ H O ρ,EnvOk X.K a b H O σ ρ->Q1 X.K O->RS X a b H O (F ρ) D->t D σ H):PS X st (tS X a b F):=ZH h λD σ H ⟨O,ρ,E,f,q⟩=>i D σ H O ρ E f q
def sk {X:Cx}{st:List dm}{t:TS}{F:Ev->R Out}{a:Hp}{b:bp->Prop}(h:uR X st t)(i:∀D σ H O ρ,EnvOk X.K a b H O σ ρ->Q1 X.K O->RS X a b H O (F ρ) D->t D σ H):uR X st (tS X a b F):=RE h λD σ H ⟨O,ρ,E,f,q⟩=>i D σ H O ρ E f q
def RS.grow {X:Cx}{i:Hp}{j:bp->Prop}{H l:Hp}{O m:bp->Prop}{r:R Out}{D:Ends}(h:RS X i j H O r D)(k:Kp H O l m):RS X i j l m r D:=by
 cases r with
 |ok o=>
  cases o with
  |nx ρ=>exactλa b g E f q=>h a b g E f (k.trans q)
  |bk ρ=>exactλa b g E f q=>h a b g E f (k.trans q)
  |ct ρ=>exactλa b g E f q=>h a b g E f (k.trans q)
  |rt d=>exact h
 |ex e=>exact h
 |bad=>exact h
def B8 (r:R Out)(F:Ev->R Out):R Out:=match r with
 |.ok (.nx ρ)=>F ρ
 |r=>r
section
variable{st:dm} {rest:List dm}
def RS.seq {a:Hp}{b:bp->Prop}{H:Hp}{O:bp->Prop}{r:R Out}{D:Ends}(h:RS X a b H O (B8 r G) D):RS X a b H O r {D with nx:=tS X a b G D}:=by
 cases r with
 |ok o=>
  cases o with
  |nx ρ=>exactλi j g E f k=>⟨g,ρ,E,f,(show RS X a b H O (G ρ) D from h).grow k⟩
  |bk ρ=>exact h
  |ct ρ=>exact h
  |rt d=>exact h
 |ex e=>exact h
 |bad=>exact h
def p7:Y0 X [] (λρ=>.ok (.nx ρ)):=λa b=>sk UO λD σ H O ρ E f q=>q σ H O E f (Kp.refl _ _)
def c7 (d:oZ X st F)(e:Y0 X rest G):Y0 X (st::rest) (λρ=>B8 (F ρ) G):=λa b=>sk (MP (d a b)<|e a b) λD σ H O ρ E f q=>⟨O,ρ,E,f,RS.seq q⟩
def d7 (a:oZ X st F):Y0 X [st] F:=λb d=>DF (a b d)
def j0 {e:cv}{f:Ev->R D}(g:PD X e f):oZ X (.Return (some e) pos) (λρ=>(f ρ).bind λd=>.ok (.rt d)):=λh i=>BZ (NK g) λD σ H O ρ E j q=>⟨h,i,O,ρ,E,by
 cases a:f ρ with
 |ok d=>rw[a]at q;exactλv b s r=>q v b (E.same.trans s) (r.sub E.sub)
 |ex x=>rw[a]at q;exactλb s=>q b (E.same.trans s)
 |bad=>rw[a]at q;exact q⟩
def j6 (i:Nat){x:Str}{e:cv}{f:Ev->R D}{a:Pos}(h:PD X e f)(j:X.N.Nodup)(k:X.N[i]?=some x:=by rfl)(l:Loc X.env.scope x:=by first|exact aCs rfl|exact aBC rfl)
  (m:et e (some (.Name x a)) pos.line X.env=pure false:=by rfl) (n:X.fn x=true\/X.env.scope.names.lookup x=some .local:=by first|exact .inl rfl|exact .inr rfl|assumption):
  oZ X (.Assign [.Name x a] e pos) (λρ=>(f ρ).bind λd=>.ok (.nx (ρ.set i (.v d)))):=λo p=>BZ (OS j k l h m n) λD σ H O ρ E t q=>⟨o,p,O,ρ,E,by
 cases b:f ρ with
 |ok d=>rw[b]at q;exactλv g s r=>q _ g O ((E.grow s).set i r) t (Kp.of s)
 |ex x=>rw[b]at q;exactλg s=>q g (E.same.trans s)
 |bad=>rw[b]at q;exact q⟩
def A5 {c:cv}{a b:List dm}{d:Ev->R Bool}(j:zJ X c d)(k:Y0 X a F)(l:Y0 X b G):oZ X (.If c a b pos) (λρ=>(d ρ).bind λt=>if t=true then F ρ else G ρ):=λe f=>BZ (jk j (k e f)<|l e f) λD σ H O ρ E h q=>⟨e,f,O,ρ,E,by
 cases g:d ρ with
 |ok t=>
  rw[g]at q;intro i s;cases t with
  |true=>rw[h9 rfl];exact⟨O,ρ,E.grow s,h,RS.grow q (Kp.of s)⟩
  |false=>rw[ic aAV];exact⟨O,ρ,E.grow s,h,RS.grow q (Kp.of s)⟩
 |ex x=>rw[g]at q;exactλi s=>q i (E.same.trans s)
 |bad=>rw[g]at q;exact q⟩
def VF (K:jb)(J:It)(H:Hp)(O:bp->Prop)(ds:List D):Prop:=∀b e,Kp H O b e->Q1 K e->(∀a,O a->∃o,H a=some o/\Mt o)->(∀a,e a->∃o,b a=some o/\Mt o)->∀i:Nat,
 (∀d,ds[i]?=some d->J.go i b/\∀x f,J.yld i b x f->Same b f/\Rep K f e x d)/\(ds[i]?=none->J.stop i b)
def tI (X:Cx)(f:Ev->R (List D)):TI:=λσ H R=>∃b d O ρ,EnvOk X.K b d H O σ ρ/\Q1 X.K O/\match f ρ with
 |.ok g=>∀J a,Same H a->VF X.K J a O g->R J a
 |.ex e=>∀a,Same H a->XW X e a
 |.bad=>False
def TJ (X:Cx)(a v6:cv)(f:Ev->R (List D)):Prop:=PI X a v6 (tI X f)
def AA (h:PI X b v6 t)(i:∀σ H R,t' σ H R->t σ H R):PI X b v6 t':=λa s σ H R I q=>h a s σ H R I (i σ H R q)
def gO:D->R (List D)
 |.lst Y=>.ok Y
 |_=>.bad
def FR:D->R (List D)
 |.tup Y=>.ok Y
 |_=>.bad
def A3 (h:PD X v6 f):TJ X C v6 (λρ=>(f ρ).bind gO):=AA (UF h) λσ H R ⟨m,p,O,ρ,E,I,q⟩=>⟨m,p,O,ρ,E,by
 dsimp only at q;cases e:f ρ with
 |ok d=>
  rw[e]at q;cases d with
  |lst Y=>
   intro v t s r;cases r with
   |lst h n r=>
    rename_i a b;refine⟨a,rfl,⟨b,h⟩,q (Itl X.K a) t s ?_⟩;intro J L k j u w i;obtain⟨N,g⟩:=k.lst n h λo q=>j a o q;have y:=k.ac8 u j r;refine⟨λd e=>?_,λe=>⟨b,g,by rw[r.length];exact aCm.mp e⟩⟩;obtain⟨v,l,z⟩:=y.get e;exact⟨⟨b,v,g,l⟩,by rintro x Q ⟨A,B⟩;subst A;have:=B b g;rw[l]at this;cases this;exact⟨Same.refl _,z⟩⟩
  |_=>exact aAg q
 |ex x=>rw[e]at q;exact q
 |bad=>rw[e]at q;exact q⟩
def TQ (h:PD X v6 f):TJ X A v6 (λρ=>(f ρ).bind FR):=AA (XX h) λσ H R ⟨m,n,O,ρ,E,B,q⟩=>⟨m,n,O,ρ,E,by
 dsimp only at q;cases e:f ρ with
 |ok d=>
  rw[e]at q;cases d with
  |tup Y=>
   intro v o s r;cases r with
   |tup h r=>
    rename_i a b;refine⟨a,rfl,⟨b,h⟩,q (Itt X.K a) o s ?_⟩;intro C I k p j t i;have g:=k.tup j h;have u:=k.ac8 j p r;refine⟨λd e=>?_,λe=>⟨b,g,by rw[r.length];exact aCm.mp e⟩⟩;obtain⟨v,l,w⟩:=u.get e;exact⟨⟨b,v,g,l⟩,by rintro x J ⟨y,z⟩;subst y;have:=z b g;rw[l]at this;cases this;exact⟨Same.refl _,w⟩⟩
  |_=>exact aAg q
 |ex x=>rw[e]at q;exact q
 |bad=>rw[e]at q;exact q⟩
def ZF (lo c:Int)(n:Nat):It:=⟨λi _=>i<n,λi H x a=>a=H/\x=.int (lo+i*c),λi _=>n<=i⟩
def yG {P:cp}{w:cu}{K:jb}{J:cv}(it:bp)(lo c:Int)(n:Nat):Turn P w K J (ZF lo c n) [it] it (λi h=>IsRangeIter h it (lo+(i:Nat)*c) ((n:Int)-(i:Nat)) c)where
 mem:=by simp
 obj:=λi h st b d=>by
  have e:b=it:=by simpa using d
  subst e;exact⟨_,st,λv z=>by have L:Data.fields _=Data.cell v:=z;cases L⟩
 keep:=λi h g st k=>k it (by simp) _ st
 item:=by intro X l m p q i a s σ H E I j st r;subst l m p;obtain⟨u,x,N,y,A,B⟩:=j it (by simp);have W:=Walks.range (prog:=X.prog) (w:=X.w) (I.ok.hd q) it lo c n;refine W.item i s _ _ r st λv g C O f kk=>?_;obtain⟨t,rfl⟩:=O;have Q:Inv X a σ H {s with heap:=g,toks:=C}:=I.turned (λb o d e=>kk b o (by simpa using d) e) u x y A B;exact⟨_,rfl,LL (s:={s with heap:=g,toks:=C}) (n:= "range_iterator") f rfl rfl (by decide) ⟨.int (lo+i*c),H,Q,⟨t,rfl⟩,⟨rfl,rfl⟩,f,λb d=>(j b d).1⟩⟩
 done:=by intro X l m p q i a s σ H E I j st r;subst l m p;obtain⟨u,x,N,y,A,B⟩:=j it (by simp);exact wpAny_pyNext_range_end (I.ok.hd q) st (by have:n<=i:=r;lia) λg T=>⟨rfl,I.turned (t':=s.toks) (λb o d e=>T b o d e) u x y A B⟩
 self:=λ_ _ _ _ _ st h=>wpAny_pyIter_rangeiter st h
def sZ (lo c:Int)(n:Nat):List D:=(aAU n).map λ(k:Nat)=>D.int (lo+(k:Int)*c)
def iR (K:jb)(H:Hp)(O:bp->Prop)(lo c:Int)(n:Nat):VF K (ZF lo c n) H O (sZ lo c n):=by
 intro h j k l m b i;unfold sZ;rw[aAI];by_cases a:i<n
 .rw[List.getElem?_range a];refine⟨λd e=>?_,λe=>(by cases e)⟩;cases e;exact⟨a,by rintro x o ⟨f,g⟩;subst f g;exact⟨Same.refl _,.int⟩⟩
 .rw[aCm.mpr (by simpa using a)];exact⟨λd e=>(by cases e),λ_=>aEr a⟩
def fR (a b c:Int):Nat:=if a<b then((b-a-1)/c+1).toNat else 0
def GD (d:0<c):aCz a b c=(fR a b c:Int):=by
 unfold aCz fR;rw[h9 (by lia)];split
 .have:0<=(b-a-1)/c:=Int.ediv_nonneg (by lia) (by lia)
  lia
 .rfl
def HS (j:0<c)(k:c<2^30)(l:-(2^60)<=a)(i:a<2^60)(m:-(2^60)<=b)(n:b<2^60):aGj a b c=true:=by
 unfold aGj;have e:aCz a b c=if a<b then(b-a-1)/c+1 else 0:=by unfold aCz;rw[h9 (by lia)]
 rw[e];have d:a<b->(b-a-1)/c<=b-a-1:=λh=>Int.ediv_le_self _ (by lia);have f:a<b->0<=(b-a-1)/c:=λh=>Int.ediv_nonneg (by lia) (by lia);have g:a<b->(b-a-1)/c*c<=b-a-1:=λh=>Int.ediv_mul_le _ (by lia);simp only[Builtin.Range.rangeFitsLong,aAF,Bool.or_eq_true,decide_eq_true_eq,beq_iff_eq,show c>0 by lia,if_true];split
 .rename_i h;have d:=d h;have f:=f h;have g:=g h;generalize(b-a-1)/c=q at*
  lia
 .lia
def pD (a b c:Int):Prop:=0<c/\c<2^30/\-(2^60)<=a/\a<2^60/\-(2^60)<=b/\b<2^60
instance(a b c:Int):Decidable (pD a b c):=inferInstanceAs (Decidable<|_/\_)
def fY:List D->R (List D)
 |[.int b]=>if pD 0 b 1 then .ok (sZ 0 1 (fR 0 b 1))else .bad
 |[.int a,.int b]=>if pD a b 1 then .ok (sZ a 1 (fR a b 1))else .bad
 |[.int a,.int b,.int c]=>if pD a b c then .ok (sZ a c (fR a b c))else .bad
 |_=>.bad
def iT {R:It->Hp->Prop}{E:D3}(I:Inv X d σ H s)(h:pD a b c)(q:R (ZF a c (fR a b c)) H):bc (bt X.prog X.w) X.A (pyIter (.ref s.heap.objs.size)) (PIE X d σ y R) E {s with heap:=s.heap.push {cls:=.type "range",data:=.fields #[.int a t,.int b u,.int c v]},toks:=tk}:=by
 obtain⟨g,i,j,k,l,m⟩:=h;refine wpAny_pyIter_range (IsRange.new ..) (HS g i j k l m) ?_;have f:Inv X d σ H {s with heap:=s.heap.push {cls:=.type "range",data:=.fields #[.int a t,.int b u,.int c v]},toks:=tk}:=I.kept λb o e=>aAc _ e;refine⟨(s.heap.push {cls:=.type "range",data:=.fields #[.int a t,.int b u,.int c v]}).objs.size,[(s.heap.push {cls:=.type "range",data:=.fields #[.int a t,.int b u,.int c v]}).objs.size],_,_,H,rfl,
  f.kept (t':=tk) λb o e=>aAc _ e,yG _ a c (fR a b c),?_,λn p=>?_,q⟩
 .have r:a+((0:Nat):Int)*c=a:=by simp
  have x:((fR a b c:Nat):Int)-((0:Nat):Int)=aCz a b c:=by rw[GD g];simp
  show IsRangeIter _ _ (a+((0:Nat):Int)*c) (((fR a b c:Nat):Int)-((0:Nat):Int)) c;rw[r,x];exact aAm _ rfl
 .have e:n=(s.heap.push {cls:=.type "range",data:=.fields #[.int a t,.int b u,.int c v]}).objs.size:=by simpa using p
  subst e;exact f.af6 (aAi _) (f.hok.fresh<|aAi _)
def LG {R:It->Hp->Prop}{O:bp->Prop}(I:Inv X e σ H s)(r:Paired (A8 X.K H O) vs ds)(f:l4 vs i)(h:fY ds=.ok j)(q:∀J,VF X.K J H O j->R J H):bc (bt X.prog X.w) X.A (call (.type "range") i) (λv k=>bc (bt X.prog X.w) X.A (pyIter v) (PIE X e σ y R) X.xe k) X.xe s:=by
 match ds,h with
 |[.int b],h=>
  obtain⟨v,rfl,z⟩:=HE r;cases z.aa7;obtain⟨u,rfl,t,rfl⟩:=vals1 f;simp only[fY]at h;split at h
  .rename_i d;cases h;exact call_range_1 (iT I d<|q _<|iR _ _ _ _ _ _)
  .cases h
 |[.int a,.int b],h=>
  obtain⟨v,l,rfl,z,g⟩:=pr2 r;cases z.aa7;cases g.aa7;obtain⟨u,m,rfl,⟨t,rfl⟩,⟨n,rfl⟩⟩:=vals2 f;simp only[fY]at h;split at h
  .rename_i d;cases h;exact call_range_2 (iT I d<|q _<|iR _ _ _ _ _ _)
  .cases h
 |[.int a,.int b,.int c],h=>
  cases r with
  |cons o r=>
   obtain⟨v,l,rfl,z,g⟩:=pr2 r;cases o.aa7;cases z.aa7;cases g.aa7;cases f with
   |cons p f=>
    obtain⟨u,m,rfl,⟨t,rfl⟩,⟨n,rfl⟩⟩:=vals2 f;obtain⟨B,rfl⟩:=p;simp only[fY]at h;split at h
    .rename_i d;cases h;have x:=d;obtain⟨C,E,_⟩:=x;exact call_range_3 (by lia) (iT (tk:=s.toks) I d<|q _<|iR _ _ _ _ _ _) (.inl (PyProof.noPylong_small (by lia)))
    .cases h
def O6 {o e:cv}{es:List cv}{p:Pos}{f:Ev->R (List D)}(t:YE X (e::es) f)(u:Gl X "range":=by rfl)(v:X.mg "range"=none:=by assumption)
  (w:a9 (e::es) X.env=(false,dq e X.env)::a9 es X.env:=by rfl) (y:(cz pos (a9 es X.env)).any (·.1)=false:=by rfl):
  TJ X o (.Call (.Name "range" p) (e::es) [] pos) (λρ=>(f ρ).bind fY):=by
 rintro i s σ H Q I ⟨z,A,O,ρ,E,U,q⟩;dsimp only at q;refine Call_ (N2 I u v boot_range<|aBl (B1 (t pos i s σ H (λk g=>∃h j,Same H g/\Paired (A8 X.K g O) k h/\fY h=.ok j/\∀J,VF X.K J g O j->Q J g) I ⟨z,A,O,ρ,E,?_⟩) λY l B=>?_) w y)
 .cases m:f ρ with
  |ok h=>
   rw[m]at q;intro k g l n;rw[R.aa0]at q;cases d:fY h with
   |ok j=>rw[d]at q;exact⟨h,j,l,n,d,λJ C=>q J g l C⟩
   |ex x=>
    rw[d]at q;match h,d with
    |[.int b],d=>simp only[fY]at d;split at d<;>cases d
    |[.int a,.int b],d=>simp only[fY]at d;split at d<;>cases d
    |[.int a,.int b,.int c],d=>simp only[fY]at d;split at d<;>cases d
   |bad=>rw[d]at q;exact q.elim
  |ex x=>rw[m]at q;exact q
  |bad=>rw[m]at q;exact q
 .obtain⟨k,g,L,n,h,j,sm,r,N,T⟩:=B;exact LG L r n N T
def tG (X:Cx)(G:D->Ev->R Ev):TG:=λv σ H Q=>∃e f O ρ d a,EnvOk X.K e f H O σ ρ/\Rep X.K H O v d/\G d ρ=.ok a/\∀g b,Same H b->EnvOk X.K e f b O g a->Q g b
def IY (X:Cx)(a:cv)(G:D->Ev->R Ev):Prop:=PG X a (tG X G)
def ZV (h:PG X b t)(i:∀v σ H Q,t' v σ H Q->t v σ H Q):PG X b t':=λa s σ H v u Q I r q=>h a s σ H v u Q I r (i v σ H Q q)
def C3 (i:Nat)(a:X.N.Nodup)(b:X.N[i]?=some x:=by rfl)(f:Loc X.env.scope x:=by first|exact aCs rfl|exact aBC rfl)(g:X.fn x=true\/X.env.scope.names.lookup x=some .local:=by first|exact .inl rfl|exact .inr rfl|assumption):
  IY X (.Name x pos) (λd ρ=>.ok (ρ.set i (.v d))):=ZV (UD a b f g)<|by
 rintro v σ H Q ⟨j,k,O,ρ,d,h,E,r,e,q⟩;cases e;exact q _ H (Same.refl _) (E.set i r)
def tGs (X:Cx)(G:List D->Ev->R Ev):ZJ:=λh σ H Q=>∃d e O ρ f a,EnvOk X.K d e H O σ ρ/\Reps X.K H O h f/\G f ρ=.ok a/\∀g b,Same H b->EnvOk X.K d e b O g a->Q g b
def RZ (X:Cx)(a:List cv)(G:List D->Ev->R Ev):Prop:=bj X a (tGs X G)
def EX {b:List cv}{t t':ZJ}(h:bj X b t)(i:∀v σ H Q,t' v σ H Q->t v σ H Q):bj X b t':=λa s σ H v u Q I r q=>h a s σ H v u Q I r (i v σ H Q q)
def VX:List D->Ev->R Ev
 |[],ρ=>.ok ρ
 |_,_=>.bad
def uB (G:D->Ev->R Ev)(b:List D->Ev->R Ev):List D->Ev->R Ev
 |d::e,ρ=>(G d ρ).bind λa=>b e a
 |_,_=>.bad
def NZ:RZ X [] VX:=EX RG<|by
 rintro b σ H Q ⟨d,f,O,ρ,g,a,E,r,e,q⟩;cases r with
 |nil=>cases e;exact⟨rfl,q σ H (Same.refl _) E⟩
 |cons _ _=>cases e
def sK {e:cv}{es:List cv}{G:D->Ev->R Ev}{g:List D->Ev->R Ev}(m:IY X e G)(n:RZ X es g)
  (o:(dC (e::es) X.env).map (·.2)=f7 e X.env::(dC es X.env).map (·.2):=by rfl):RZ X (e::es) (uB G g):=EX (LV m n o)<|by
 rintro h σ H Q ⟨i,j,O,ρ,k,f,E,r,e,q⟩;cases r with
 |nil=>cases e
 |@cons v d h k r p=>
  simp only[uB]at e;cases b:G d ρ with
  |ok a=>rw[b]at e;exact⟨v,h,rfl,i,j,O,ρ,d,a,E,r,b,λs A l t=>⟨i,j,O,a,k,f,t,p.same l,e,λu w y z=>q u w (l.trans y) z⟩⟩
  |ex x=>rw[b]at e;cases e
  |bad=>rw[b]at e;cases e
def FA (n:Nat)(b:List D->Ev->R Ev):D->Ev->R Ev
 |.tup a,ρ=>if a.length=n then b a ρ else .bad
 |.lst a,ρ=>if a.length=n then b a ρ else .bad
 |_,_=>.bad
end
section
theorem sD (f:t≠it):∀(n i:Nat) (s:bb) (Q:List av->bb->Prop),s.heap.IsListIter it t i->s.heap.IsList t B->i+n<=B.size->
  (∀h',h'.IsListIter it t (i+n)->Heap.SameBut it s.heap h'->Q ((B.toList.drop i).take n) {s with heap:=h'})->bc (bt prog w) A (draw (.ref it) n) Q E s
 |0,i,s,Q,a,_,_,e=>by show bc _ _ (pure []) Q E s;exact aAb (by simpa using e s.heap a (aGv ..))
 |n+1,i,s,Q,a,g,l,e=>by
  have h:i<B.size:=by omega
  show bc _ _ (gk (.ref it)>>=_) Q E s;refine aAa (wpAny_pyNext_list_item a g (x:=B[i]) (by simp[h]) λj b k=>?_);refine aAa (aAR (sD f n (i+1) _ _ b (g.extBut k.extBut f) (by omega) λm d o=>aAb ?_));have p:B.toList.drop i=B[i]::B.toList.drop (i+1):=by simp[aDG,h]
  have:=e m (by rw[show i+(n+1)=i+1+n by omega];exact d) (k.trans o);rw[p,List.take_succ_cons]at this;exact this
def kB {Q:List av->bb->Prop}(n:A.handled=none)(g:s.heap.IsList t B)(p:∀h',Heap.ExtBut s.heap.objs.size s.heap h'->Q B.toList {s with heap:=h'}):bc (bt prog w) A (unpackItems (.ref t) B.size none) Q E s:=by
 have k:t≠s.heap.objs.size:=by obtain⟨o,h,_⟩:=g;exact aAk (aAf h)
 unfold unpackItems;refine aAa ?_
 .unfold notIterableAtAll;refine aAa (aBt g.typeIs slot_list_iter.lookup ?_);refine aAb ?_;simp only[aAu,if_false];refine aAa (aAR<|aDz g ?_);have a:(s.heap.push {cls:=.type "list_iterator",data:=.fields #[.ref t,.int 0 0]}).IsList t B:=by obtain⟨o,h,r⟩:=g;exact⟨o,aAc _ h,r⟩
  refine aAa (aAR (sD k B.size 0 _ _ ⟨_,aAm _ rfl,rfl,rfl⟩ a (by omega) λd f l=>?_));have q:List.take B.size (List.drop 0 B.toList)=B.toList:=by rw[aGf];exact aEf (by simp)
  rw[q];rw[ic (by simp)];have i:d.IsList t B:=a.extBut l.extBut k;refine aAa (aAR (wpAny_pyNext_list_end n f i (by simp) λu j=>?_));simp only[Option.isSome_none,aAu,if_false];refine aAb (p u λb o m e=>j b o m (l.extBut b o m<|aAc _ e))
def gR {d}{Q:Unit->bb->Prop}(e:A.handled=none)(f:s.heap.IsList t B)(g:(dC a env).length=B.size)(b:(dC a env).findIdx? (·.1)=none)(h:∀h',Heap.ExtBut s.heap.objs.size s.heap h'->bc (bt prog w) A (assignInOrder ((dC a env).map (·.2)) B.toList) Q E {s with heap:=h'}):
  bc (bt prog w) A (f7 (.Tuple a d pos) env (.ref t)) Q E s:=by
 rw[assign_Tuple];refine aAa (aFp ?_);unfold unpack;rw[g,b];exact aAa (aAR<|kB e f h)
end
section
def SN (B:X.calm=true)(h:RZ X es T)(C:(dC es X.env).length=n:=by rfl)(J:(dC es X.env).findIdx? (·.1)=none:=by rfl):IY X (.Tuple es k pos) (FA n T):=by
 rintro f s σ H v u Q I r ⟨L,N,O,ρ,d,g,E,U,e,q⟩;cases U with
 |@tup a l m p i=>
  cases r;simp only[FA]at e;split at e
  .rename_i t;obtain⟨w,j,x,Y⟩:=I.tuple p;refine assign_Tuple_tuple (I.ok.hd B) x (by simp[C,<-t,<-i.length,j.length]) J λy z=>?_;have A:Inv X f σ H {s with heap:=y}:=I.kept (t':=s.toks) λb o e=>z b o (aAk<|aAf e) e;exact h f _ σ H l _ Q A (by simpa using j) ⟨L,N,O,ρ,m,g,E,i,e,q⟩
  .cases e
 |@lst a l m p _ i=>
  cases r;simp only[FA]at e;split at e
  .rename_i t;obtain⟨w,j,x,Y⟩:=I.list p;refine gR (I.ok.hd B) x.isList (by simp[C,<-t,<-i.length,j.length]) J λy z=>?_;have A:Inv X f σ H {s with heap:=y}:=I.kept (t':=s.toks) λb o e=>z b o (aAk<|aAf e) e;exact h f _ σ H l _ Q A (by simpa using j) ⟨L,N,O,ρ,m,g,E,i,e,q⟩
  .cases e
 |_=>cases e
def T9 (G:D->Ev->R Ev)(F:Ev->R Out):List D->Ev->R Out
 |[],ρ=>.ok (.nx ρ)
 |d::e,ρ=>match G d ρ with
  |.ok b=>match F b with
   |.ok (.nx a)=>T9 G F e a
   |.ok (.ct a)=>T9 G F e a
   |.ok (.bk a)=>.ok (.nx a)
   |r=>r
  |_=>.bad
def P7 (hp:PassesOwn (bt X.prog X.w) X.A X.env X.xe)(hc:X.calm=true)(hi:TJ X tg v6 f)(hg:IY X tg G)(hb:Y0 X body F)(hs:∀x,eN v6 X.env x=pure x:=by intro _;rfl):oZ X (.For tg v6 body [] pos) (λρ=>(f ρ).bind λds=>T9 G F ds ρ):=λk l=>BZ (WG hp hc hi hg (hb k l) hs) λD σ H O ρ E fk q=>⟨k,l,O,ρ,E,fk,by
 cases Q:f ρ with
 |ex x=>rw[Q]at q;exactλj s=>q j (E.same.trans s)
 |bad=>rw[Q]at q;exact q
 |ok ds=>
  rw[Q,R.aa0]at q;intro J H1 T hJ;refine⟨λi m U j=>m=ds.length-i/\i<=ds.length/\∃g h,EnvOk X.K k l j g U h/\Q1 X.K g/\Kp H1 O j g/\RS X k l j g (T9 G F (ds.drop i) h) D,⟨ds.length,by simp,aAG _,O,ρ,E.grow T,fk,Kp.refl _ _,?_⟩,?_⟩
  .rw[aGf];exact q.grow (Kp.of T)
  .rintro i m U j ⟨rfl,hi,g,h,Y,n,k',a⟩;have z:=hJ j g k' n (E.grow T).trk Y.trk i;by_cases ar:i<ds.length
   .obtain⟨go,yl⟩:=z.1 ds[i] (aAj ar);refine .inr ⟨go,λvo v=>∃L b,EnvOk X.K k l v L vo b/\Q1 X.K L/\Kp H1 O v L/\RS X k l v L (T9 G F (ds.drop<|i+1) b) D,λvo v p=>⟨ds.length-(i+1),by omega,rfl,ar,p⟩,λx v y=>?_⟩;obtain⟨s2,r2⟩:=yl x v y;rw[aDG ar,T9]at a;cases N:G ds[i] h with
    |ex x=>rw[N]at a;exact(show False from a).elim
    |bad=>rw[N]at a;exact(show False from a).elim
    |ok r=>
     rw[N]at a;dsimp only at a;refine⟨k,l,g,h,ds[i],r,Y.grow s2,r2,N,λqh H3 s3 E3=>⟨g,r,E3,n,?_⟩⟩;have kk:Kp j g H3 g:=Kp.of (s2.trans s3);cases e3:F r with
     |ex x=>rw[e3]at a;exact a
     |bad=>rw[e3]at a;exact a
     |ok o=>
      rw[e3]at a;cases o with
      |nx b=>exactλt H4 B C I u=>⟨B,b,C,I,k'.trans (kk.trans u),RS.grow a (kk.trans u)⟩
      |ct b=>exactλt H4 B C I u=>⟨B,b,C,I,k'.trans (kk.trans u),RS.grow a (kk.trans u)⟩
      |bk b=>exactλt H4 B C I u=>a t H4 B C I (kk.trans u)
      |rt d=>exact a
   .have e:i=ds.length:=by omega
    subst e;rw[List.drop_length,T9]at a;exact .inl ⟨z.2 (by simp),a U j g Y n (Kp.refl _ _)⟩⟩
def R8 (c:Ev->R Bool)(F:Ev->R Out):Nat->Ev->R Out
 |0,_=>.bad
 |n+1,ρ=>(c ρ).bind λb=>if b=true then(match F ρ with
  |.ok (.nx a)=>R8 c F n a
  |.ok (.ct a)=>R8 c F n a
  |.ok (.bk a)=>.ok (.nx a)
  |r=>r)else .ok (.nx ρ)
def jC (n:Ev->Nat)(Y:PassesOwn (bt X.prog X.w) X.A X.env X.xe)(hc:zJ X c y)(hb:Y0 X body F):oZ X (.While c body [] pos) (λρ=>R8 y F (n ρ) ρ):=λi j=>BZ (MK Y hc<|hb i j) λD σ H O ρ E fk q=>by
 refine⟨λm I z=>∃f e,EnvOk X.K i j z f I e/\Q1 X.K f/\RS X i j z f (R8 y F m e) D,⟨n ρ,O,ρ,E,fk,q⟩,?_⟩;rintro m I z ⟨f,e,B,l,a⟩;cases m with
 |zero=>exact(show False from a).elim
 |succ m=>
  rw[R8]at a;refine⟨i,j,f,e,B,?_⟩;cases J:y e with
  |ex x=>rw[J]at a;exactλC k=>a C (B.same.trans k)
  |bad=>rw[J]at a;exact a
  |ok b=>
   rw[J,R.aa0]at a;intro C k;cases b with
   |false=>rw[ic aAV]at a⊢;exact a I C f (B.grow k) l (Kp.of k)
   |true=>
    rw[h9 rfl]at a⊢;refine⟨λU L=>∃N r,EnvOk X.K i j L N U r/\Q1 X.K N/\RS X i j L N (R8 y F m r) D,λU L p=>⟨m,aDK m,p⟩,f,e,B.grow k,l,?_⟩;have kk:Kp z f C f:=Kp.of k;cases Q:F e with
    |ex x=>rw[Q]at a;exact a
    |bad=>rw[Q]at a;exact a
    |ok o=>
     rw[Q]at a;cases o with
     |nx g=>exactλh T s t u v=>⟨s,g,t,u,RS.grow a (kk.trans v)⟩
     |ct g=>exactλh T s t u v=>⟨s,g,t,u,RS.grow a (kk.trans v)⟩
     |bk g=>exactλh T s t u v=>a h T s t u (kk.trans v)
     |rt d=>exact a
end
def az (K:jb)(n:Nat)(m:List D->R D):Sp:=λf H Q _=>∃O b d,Reps K H O f b/\b.length=n/\(∀a,O a->∃o,H a=some o/\Mt o)/\Tb H/\Q1 K O/\m b=.ok d/\∀v e,Same H e->Rep K e O v d->Q v e
def j4 (N:List Str)(ds:List D):Ev:=ds.map Sl.v++aCO (N.length-ds.length) Sl.no
def M9:R Out->R D
 |.ok (.rt d)=>.ok d
 |.ok (.nx _)=>.ok .non
 |.ex e=>.ex e
 |_=>.bad
def jS {K:jb}{H:Hp}{O:bp->Prop}{N:List Str}{vs:List V}{ds:List D}(r:Reps K H O vs ds)(t:∀a,O a->∃o,H a=some o/\Mt o)(tb:Tb H):EnvOk K H O H O (start N vs) (j4 N ds)where
 len:=by simp[L2.start,j4,r.length]
 same:=Same.refl H
 sub:=λ_ h=>h
 trk:=t
 trk0:=λa h=>let⟨o,q,_⟩:=t a h;⟨o,q⟩
 tab:=tb
 slot:=λi g h=>by
  unfold j4 at h;unfold L2.start;by_cases b:i<ds.length
  .rw[aAT (by simpa using b),aAI]at h;cases e:ds[i]? with
   |none=>rw[e]at h;cases h
   |some d=>rw[e]at h;have f:Sl.v d=g:=Option.some.inj h;subst f;obtain⟨v,k,l⟩:=r.get e;exact⟨v,by rw[aAT (by rw[aAh,r.length];exact b),aAI,k];rfl,l⟩
  .rw[aAA (by simpa using b),aBq]at h;split at h
   .cases h;trivial
   .cases h
 inj:=λi j x y a h _ o=>by
  unfold j4 at h;by_cases b:i<ds.length
  .rw[aAT (by simpa using b),aAI]at h;cases e:ds[i]? with
   |none=>rw[e]at h;cases h
   |some d=>rw[e]at h;have f:Sl.v d=x:=Option.some.inj h;subst f;exact o.elim
  .rw[aAA (by simpa using b),aBq]at h;split at h
   .cases h;exact o.elim
   .cases h
section
variable{K:jb}
abbrev TX (P:cp)(w:cu)(K:jb)(mg:W6)(base:cy)(N:List Str)(qual:Str)(sc:gW)(f:bp)(U:av)(A:cq)(a:List Env)(s:bb)(H:Hp)(E:XK):Cx:=(uK tW P w K mg base N qual sc f U A a s H E).nox
def fnD {x qual:Str}{st:dm}{f:bp}{fd:dA}{N ps:List Str}{k:Nat}{m:List D->R D}{F:Ev->R Out}(j:Fun K x qual st f fd)(S:FnScope N ps (c6 st))
  (l:∀(U:av) (A:cq) (a:List Env) (s:bb) (H:Hp) (E:XK),Room k (A.deeper (envOfC qual (c6 st) s.heap.objs.size f U))->Y0 (TX P w K mg base N qual (c6 st) f U A a s H E) (p5 st) F)
  (n:∀ds d,ds.length=ps.length->m ds=.ok d->M9 (F (j4 N ds))=.ok d):FnOk P w K mg base tW (k+1) f fd ps (az K ps.length m):=by
 refine j.ok S (by rintro p H Q E ⟨O,ds,d,r,g,_⟩;rw[r.length];exact g) (λU A a s H p Q E t u=>?_);obtain⟨O,ds,d,r,g,v,y,z,e,q⟩:=u;refine⟨_,l U A a s H E t H O,O,_,jS r v y,z,?_⟩;have h:=n ds d g e;cases i:F (j4 N ds)with
 |ok o=>
  rw[i]at h;cases o with
  |rt B=>have b:R.ok B=R.ok d:=h;injection b with b;subst b;exact q
  |nx ρ=>have b:R.ok D.non=R.ok d:=h;injection b with b;subst b;exactλJ C L I _ _=>q .non C I.same .non
  |bk ρ=>cases h
  |ct ρ=>cases h
 |ex x=>rw[i]at h;cases h
 |bad=>rw[i]at h;cases h
end
section
def qK (I:Inv X b σ H s)(O:bp->Prop)(t:∀a,O a->∃o,H a=some o/\Mt o):Q1 X.K O:=λa o d z=>by obtain⟨u,h,_⟩:=t a z;have:=(I.bs a o<|I.ok.mod.kin a o d).2;rw[h]at this;cases this
def SL (F:FnOk X.prog X.w X.K X.mg X.base tW k g l ps (az X.K n m))(o:Room k X.A)(r:X.mg x=some (.ref g))(t:PySem.W.keepIn X.K (.ref g)=true)(u:Binds X.K l ps [])(y:AH X (e::es) f)(B:∀ρ ds,f ρ=.ok ds->ds.length=n)(C:Gl X x:=by rfl)(J:(x==jd)=false:=by decide)(L:a9 (e::es) X.env=(false,dq e X.env)::a9 es X.env:=by rfl)(N:(cz pos (a9 es X.env)).any (·.1)=false:=by rfl):
  PD X (.Call (.Name x p) (e::es) [] pos) (λρ=>(f ρ).bind m):=by
 refine rL λa s σ H Q I T U O ρ E q=>?_;refine DB F o C r t u .nil gx y J L N a s σ H Q I ⟨T,U,O,ρ,E,?_⟩;dsimp only at q;cases b:f ρ with
 |ex z=>rw[b]at q;exact q
 |bad=>rw[b]at q;exact q
 |ok ds=>
  rw[b,R.aa0]at q;intro vs H1 i Y;rw[aBL];have j:=E.grow i;cases h:m ds with
  |ex z=>rw[h]at q;exact(q H<|Same.refl _).elim
  |bad=>rw[h]at q;exact q.elim
  |ok d=>rw[h]at q;refine⟨O,ds,d,Y,B ρ ds b,j.trk,j.tab,?_,h,λv H' s2 r2=>q v H' (i.trans s2) r2⟩;exact qK I O E.trk
end
def IX (env:Env):List (Str×eR)->List (Str×bp)->List (Str×bp)
 |[],B=>B
 |(n,k)::r,B=>IX env r (if k=.free then(n,(env.cells.lookup n).getD 0)::B else B)
def W8 (h:∀y∈d.names,y.2=.free->∃c,env.cells.lookup y.1=some c):closureFor d env=pure (IX env d.names []):=by
 have p:∀(b:List (Str×eR)) (B:List (Str×bp)),(∀y∈b,y.2=.free->∃c,env.cells.lookup y.1=some c)->
   (forIn b B λ(x:Str×eR) (r:List (Str×bp))=>(match x with
    |(f,g)=>if(g==NameKind.free)=true then(do let a<-cellOf env f;pure (aCn ((f,a)::r)))else pure (aCn r):Sem (ForInStep<|List<|Str×bp)))=pure (IX env b B):=by
  intro b;induction b with
  |nil=>intro B _;rfl
  |cons y r m=>
   intro B i;obtain⟨n,k⟩:=y;rw[aCY];by_cases j:k=.free
   .subst j;obtain⟨c,o⟩:=i (n,.free) aBn rfl;have e:cellOf env n=pure c:=by unfold cellOf;rw[o]
    simp only[beq_self_eq_true,if_true,e,pure_bind];rw[m _ λz l=>i z (aAe _ l)];simp[IX,o]
   .have q:(k==NameKind.free)=false:=by simpa using j
    simp only[q,aAu,if_false,pure_bind];rw[m _ λz l=>i z (aAe _ l)];simp[IX,j]
 have e:=p d.names [] h;show((forIn d.names ([]:List (Str×bp)) λ(x:Str×eR) (r:List (Str×bp))=>(match x with
    |(f,g)=>if(g==NameKind.free)=true then(do let a<-cellOf env f;pure (aCn ((f,a)::r)))else pure (aCn r):Sem (ForInStep<|List<|Str×bp)))>>=λs=>pure s)=_
 rw[e];rfl
theorem wP:∀(names:List (Str×eR)) (B:List (Str×bp)) {x:Str} {c:bp},(∀y∈names,y.2=.free->∃c,env.cells.lookup y.1=some c)->(∀x c,B.lookup x=some c->env.cells.lookup x=some c)->
  (IX env names B).lookup x=some c->env.cells.lookup x=some c
 |[],B,x,c,_,b,h=>b x c h
 |(n,k)::r,B,x,c,f,b,h=>by
  refine wP r _ (λy l=>f y (aAe _ l)) (λd g a=>?_) h;by_cases e:k=.free
  .rw[h9 e]at a;obtain⟨c0,i⟩:=f (n,k) aBn e;by_cases j:d=n
   .subst j;rw[aBD]at a;rw[i]at a;rw[i];exact a
   .rw[aBa,beq_eq_false_iff_ne.mpr j]at a;exact b d g a
  .rw[ic e]at a;exact b d g a
theorem uU:∀(names:List (Str×eR)) (B:List (Str×bp)) {x:Str},((x,NameKind.free)∈names\/∃c,B.lookup x=some c)->∃c,(IX env names B).lookup x=some c
 |[],B,x,h=>by
  rcases h with h|h
  .cases h
  .exact h
 |(n,k)::r,B,x,h=>by
  refine uU r _ ?_;rcases h with h|⟨c,h⟩
  .rcases aAd.mp h with e|h
   .cases e;right;rw[h9 rfl,aBD];exact⟨_,rfl⟩
   .exact .inl h
  .right;by_cases a:k=.free
   .rw[h9 a,aBa];cases(x==n)with
    |true=>exact⟨_,rfl⟩
    |false=>exact⟨c,h⟩
   .rw[ic a];exact⟨c,h⟩
theorem gF {env:Env}:∀{names:List (Str×eR)} {x:Str},
  ((names.map λ(n,k)=>if(k==NameKind.free&&env.scope.kind==.function&&env.kindOf n==some .cell)then(n,aBX)else(n,k)).lookup x=some .cell\/
   (names.map λ(n,k)=>if(k==NameKind.free&&env.scope.kind==.function&&env.kindOf n==some .cell)then(n,aBX)else(n,k)).lookup x=some .free)->(x,NameKind.free)∈names\/names.lookup x=some .cell
 |[],_,h=>by rcases h with h|h<;>cases h
 |(n,k)::r,x,h=>by
  have d:=@gF env r x;rw[aAp]at h;dsimp only at h;by_cases b:x=n
  .subst b;by_cases a:(k==NameKind.free&&env.scope.kind==.function&&env.kindOf x==some .cell)=true
   .have e:k=.free:=by rw[aAF,aAF]at a;simpa using a.1.1
    subst e;exact .inl aBn
   .rw[ic a,aBD]at h;rcases h with h|h
    .right;rw[aBD];exact h
    .have:k=.free:=Option.some.inj h;subst this;exact .inl aBn
  .have f:(r.map λ(n,k)=>if(k==NameKind.free&&env.scope.kind==.function&&env.kindOf n==some .cell)then(n,aBX)else(n,k)).lookup x=some .cell\/
     (r.map λ(n,k)=>if(k==NameKind.free&&env.scope.kind==.function&&env.kindOf n==some .cell)then(n,aBX)else(n,k)).lookup x=some .free:=by
    by_cases a:(k==NameKind.free&&env.scope.kind==.function&&env.kindOf n==some .cell)=true
    .rw[h9 a,aBa,beq_eq_false_iff_ne.mpr b]at h;exact h
    .rw[ic a,aBa,beq_eq_false_iff_ne.mpr b]at h;exact h
   rcases d f with h|h
   .exact .inl (aAe _ h)
   .right;rw[aBa,beq_eq_false_iff_ne.mpr b];exact h
theorem nW:∀(names:List (Str×eR)) (h:cy) (B:List (Str×bp)) {x:Str} {c:bp},(d5 h.objs.size names B).lookup x=some c->B.lookup x=some c\/((pushCells h names).IsCell c none/\h.objs.size<=c)
 |[],h,B,x,c,e=>.inl e
 |(n,k)::r,h,B,x,c,e=>by
  unfold d5 at e;unfold pushCells;split at e
  .rename_i b;rw[h9 b];rcases nW r (h.push {cls:=.type "cell",data:=.cell none}) ((n,h.objs.size)::B) (x:=x) (c:=c) (by rw[aBz];exact e)with a|⟨a,d⟩
   .rw[aBa]at a;cases f:(x==n)with
    |true=>rw[f]at a;have g:h.objs.size=c:=Option.some.inj a;subst g;exact .inr ⟨⟨_,aEE _ _ _ _ (aAm _ rfl),rfl⟩,aAi _⟩
    |false=>rw[f]at a;exact .inl a
   .exact .inr ⟨a,by rw[aBz]at d;exact aCB d⟩
  .rename_i b;rw[ic b];exact nW r h B e
theorem jE:∀(names:List (Str×eR)) (n:Nat) (B:List (Str×bp)) {x:Str} {c:bp},(d5 n names B).lookup x=some c->B.lookup x=some c\/n<=c
 |[],n,B,x,c,e=>.inl e
 |(m,k)::r,n,B,x,c,e=>by
  unfold d5 at e;split at e
  .rcases jE r (n+1) _ e with a|a
   .rw[aBa]at a;cases b:(x==m)with
    |true=>rw[b]at a;exact .inr (aEn (Option.some.inj a))
    |false=>rw[b]at a;exact .inl a
   .exact .inr (aCB a)
  .exact jE r n B e
theorem nM:∀(names:List (Str×eR)) (n:Nat) (B:List (Str×bp)) {x:Str} {c:bp},(x,aBX)∈names->(d5 n names B).lookup x=some c->n<=c
 |[],n,B,x,c,a,e=>nomatch a
 |(m,k)::r,n,B,x,c,a,e=>by
  unfold d5 at e;rcases aAd.mp a with a|a
  .cases a;rw[h9 (show(aBX==aBX)=true from rfl)]at e;rcases jE r (n+1) _ e with b|b
   .rw[aBD]at b;exact aEn (Option.some.inj b)
   .exact aCB b
  .split at e
   .exact aCB (nM r (n+1) _ a e)
   .exact nM r n B a e
theorem nH:∀(names:List (Str×eR)) (n:Nat) (B:List (Str×bp)) {x:Str},(x,aBX)∉names->(d5 n names B).lookup x=B.lookup x
 |[],n,B,x,_=>rfl
 |(m,k)::r,n,B,x,a=>by
  unfold d5;split
  .rename_i b;rw[nH r (n+1) _ λz=>a (aAe _ z),aBa];cases d:(x==m)with
   |true=>
    have e:x=m:=by simpa using d
    have f:k=.cell:=by simpa using b
    exact absurd (by rw[e,f];exact aBn) a
   |false=>rfl
  .exact nH r n B λz=>a (aAe _ z)
theorem jT:∀(names:List (Str×eR)) (n:Nat) (B:List (Str×bp)),(∀x c,B.lookup x=some c->c<n)->(∀x y c,B.lookup x=some c->B.lookup y=some c->x=y)->
  ∀x y c,(d5 n names B).lookup x=some c->(d5 n names B).lookup y=some c->x=y
 |[],n,B,_,h=>h
 |(m,k)::r,n,B,g,h=>by
  unfold d5;split
  .refine jT r (n+1) _ (λx c e=>?_) λx y c b a=>?_
   .rw[aBa]at e;cases d:(x==m)with
    |true=>rw[d]at e;rw[<-Option.some.inj e];exact aDK _
    |false=>rw[d]at e;exact aBA (g x c e)
   .rw[aBa]at b a;cases d:(x==m)with
    |true=>
     rw[d]at b;cases f:(y==m)with
     |true=>rw[show x=m by simpa using d,show y=m by simpa using f]
     |false=>rw[f]at a;rw[<-Option.some.inj b]at a;exact absurd (g y _ a) (aBj _)
    |false=>
     rw[d]at b;cases f:(y==m)with
     |true=>rw[f]at a;rw[<-Option.some.inj a]at b;exact absurd (g x _ b) (aBj _)
     |false=>rw[f]at a;exact h x y c b a
  .exact jT r n B g h
abbrev aZ (X:Cx)(a:gW)(C:bp):List (Str×bp):=d5 (C+1) a.names (IX X.env a.names [])
def GP {E:D3}{Q:Env->bb->Prop}(h:Q (newEnv a s.heap.objs.size g (d5 (s.heap.objs.size+1) a.names i) q none .none (some env) builtinsNs) {s with heap:=pushCells (s.heap.push {cls:=.type "dict",data:=.dict #[]}) a.names}):
  bc M A (newFunctionEnv a g i [] q none .none (some env)) Q E s:=by
 simp only[newFunctionEnv,Option.isSome_some,if_true];refine aAa (wpAny_alloc ?_);refine aAa (wpAny_layCells _ (λf b d=>by cases e:b==aBX<;>simp[e]) _ _ _ _ ?_);rw[show({s with heap:=s.heap.push {cls:=.type "dict",data:=.dict #[]}}:bb).heap.objs.size=s.heap.objs.size+1 from aBz ..];exact aAa (aAb<|aAb h)
def HG {R:Result->bb->Prop}(I:Nat->bb->Prop)(turn:∀n s,I n s->bc (bt prog w) A (gk it) (λr j=>match r with
   |none=>R (.ok .next) j
   |some v=>bc (bt prog w) A (letOwnedTupleGo a it v) (λ_ f=>bc (bt prog w) A (f7 a env v) (λ_ o=>
    bc (bt prog w) A (forIn g true λc r=>if r=true then do let ok<-isTrue c env (dq c env);pure (aCn ok)else pure (aCn r)) (λok k=>
     if ok=true then bc (bt prog w) A (dq i env) (λx p=>bc (bt prog w) A (call (.builtin "list.append") [B,x]) (λ_ q=>∃m,m<n/\I m q) (λ_ _=>False) p) (λ_ _=>False) k
     else∃m,m<n/\I m k) (λ_ _=>False) o) (λ_ _=>False) f) (λ_ _=>False) j) (λ_ _=>False) s) (n:Nat) (h:I n s):f6 (bt prog w) A (.compLoop (.ListComp i [⟨a,v6,g,0⟩] e pos) 0 it B env) R s:=by
 refine codeAny_loop rfl I (λn s u=>?_) n h;show bc _ A ((compTurn (.ListComp i [⟨a,v6,g,0⟩] e pos) 0 it B env).onRaise (λx=>do noteFrame x env;theTreesLotGoes x)) _ _ s;refine wpAny_noted ?_;rw[compTurn_list];refine aAa (aFp<|aAa<|aBG (turn n s u) (λr j d=>?_) λ_ _ b=>b.elim);cases r with
 |none=>exact aAb d
 |some v=>
  refine aAa (aBG d (λ_ f l=>?_) λ_ _ b=>b.elim);refine aAa (aBG l (λ_ o y=>aAa (aBG y (λok k t=>?_) λ_ _ b=>b.elim)) λ_ _ b=>b.elim);cases ok with
  |false=>exact aAb ⟨rfl,t⟩
  |true=>exact aAa (aAa<|aBG t (λx p z=>aAa (aBG z (λ_ q C=>aAb (aAb ⟨rfl,C⟩)) λ_ _ b=>b.elim)) λ_ _ b=>b.elim)
def BL (X:Cx)(pins:K6)(sa:bb)(Ha:Hp)(b:List Str)(a:gW)(d:List (Str×bp))(C:bp)(e:List bp):Cx where
 prog:=X.prog
 w:=X.w
 K:=X.K
 mg:=X.mg
 base:=X.base
 A:=X.A
 N:=b
 sa:=sa
 Ha:=Ha
 env:=compEnvC a d C X.env
 outer:=X.stack
 stack:=X.stack
 ex:=e
 fn:=λx=>a.names.lookup x==some .cell
 calm:=X.calm
 pn:=X.pn++pins
 xe:=λ_ _=>False
structure CompSc (X:Cx)(scope:Scope)(own fr:List Str)(js:List Nat):Prop where
 kind:scope.kind=.function
 apart:∀y∈scope.names,y.2=.free->(y.1,aBX)∉scope.names
 names:∀y∈scope.names,y.2=.local->scope.names.lookup y.1=some .local
 free:∀y∈scope.names,y.2=.free->X.env.kindOf y.1=some .cell\/X.env.kindOf y.1=some .free
 len:js.length=fr.length
 at_:∀(i j:Nat) (x:Str),js[i]?=some j->fr[i]?=some x->X.N[j]?=some x/\(x,NameKind.free)∈scope.names
 nd:js.Nodup
 dis:∀y∈scope.names,y.2=.free->scope.names.lookup y.1=some .free
def seen:Sl->Sl
 |.v d=>.v d
 |.d k=>.d k
 |_=>.no
def i8 (own:List Str)(a:List Nat)(ρ:Ev):Ev:=aCO own.length Sl.no++a.map λj=>seen (ρ.getD j Sl.no)
def T5 (own:List Str)(a:List Nat)(σ:St):St:=aCO own.length none++a.map λj=>σ.getD j none
def Inv.aa9 (I:L2.Inv X b σ H s)(S:CompSc X a own f g):∀y∈a.names,y.2=.free->∃c,X.env.cells.lookup y.1=some c:=
 λy d e=>I.ok.has y.1 (S.free y d e)
def bD (h:(i8 own l ρ)[i]?=some sl):sl=.no\/∃j,((∃d,sl=.v d)\/∃k,sl=.d k)/\own.length<=i/\l[i-own.length]?=some j/\ρ[j]?=some sl:=by
 unfold i8 at h;by_cases f:i<own.length
 .rw[aAT (by simpa using f),aBq,h9 f]at h;cases h;exact .inl rfl
 .have g:own.length<=i:=aEr f;rw[aAA (by simpa using g),aCo,aAI]at h;cases e:l[i-own.length]? with
  |none=>rw[e]at h;cases h
  |some j=>
   rw[e]at h;have a:seen (ρ.getD j Sl.no)=sl:=Option.some.inj h;rw[aAw]at a;cases b:ρ[j]? with
   |none=>rw[b]at a;subst a;exact .inl rfl
   |some z=>
    rw[b]at a;cases z with
    |v d=>subst a;exact .inr ⟨j,.inl ⟨d,rfl⟩,g,rfl,b⟩
    |d k=>subst a;exact .inr ⟨j,.inr ⟨k,rfl⟩,g,rfl,b⟩
    |_=>subst a;exact .inl rfl
def pB {σ:St}(a:own.length<=i)(e:b[i-own.length]?=some j)(h:j<σ.length):(T5 own b σ)[i]?=σ[j]?:=by unfold T5;rw[aAA (by simpa using a),aCo,aAI,e];show some (σ.getD j none)=_;rw[aAw,aAj h];rfl
def HP {K:jb}{l H:Hp}{m O:bp->Prop}{σ:St}{ρ:Ev}{own:List Str}{f:List Nat}(s:f.Nodup)(E:EnvOk K l m H O σ ρ):EnvOk K l m H O (T5 own f σ) (i8 own f ρ):=by
 have lt:∀{j g},ρ[j]?=some g->j<σ.length:=λh=>by rw[E.len];exact(aAy.mp h).1
 refine⟨by simp[T5,i8],E.same,E.sub,E.trk,E.trk0,E.tab,λi g h=>?_,λi v x y a b d o n q p=>?_⟩
 .rcases bD h with rfl|⟨j,_,k,e,b⟩
  .trivial
  .rw[pB k e (lt b)];exact E.slot j g b
 .rcases bD b with rfl|⟨j,_,t,e,b⟩
  .exact o.elim
  rcases bD d with rfl|⟨u,_,k,r,d⟩
  .exact n.elim
  rw[pB t e (lt b)]at q;rw[pB k r (lt d)]at p;have:=E.inj j u x y a b d o n q p;subst this;have:=(List.getElem?_inj (aAy.mp e).1 s).mp (e.trans r.symm)
  lia
def GU (I:L2.Inv X pins σ H s)(S:CompSc X a own fr js)(wg:∀b∈fp,pV X pins H b)(ar:∀b∈fp,b<s.heap.objs.size)(e8:h₁=pushCells (s.heap.push {cls:=.type "dict",data:=.dict #[]}) a.names):
  L2.Inv (BL X pins s H (own++fr) a (aZ X a s.heap.objs.size) s.heap.objs.size fp) [] (T5 own js σ) H {s with heap:=h₁,toks:=tk}:=by
 have w:=Inv.aa9 I S;have g:∀b o,s.heap.get? b=some o->h₁.get? b=some o:=λb o e=>by rw[e8];exact aEE _ _ _ _ (aAc _ e)
 have za:h₁.Ns s.heap.objs.size (λ_=>none):=by rw[e8];exact(Heap.Ns.new s.heap<|.type "dict").keeps (aEE _ _)
 have cc:∀x c,(aZ X a s.heap.objs.size).lookup x=some c->(IX X.env a.names []).lookup x=some c\/(h₁.IsCell c none/\s.heap.objs.size+1<=c):=λx c h=>by have:=nW a.names (s.heap.push {cls:=.type "dict",data:=.dict #[]}) (IX X.env a.names []) (x:=x) (c:=c) (by rw[aBz];exact h);rw[aBz,<-e8]at this;exact this
 have J:∀x c,(IX X.env a.names []).lookup x=some c->X.env.cells.lookup x=some c:=λx c h=>wP a.names [] w (λ_ _ z=>(by cases z)) h;have l:∀b o,X.base.get? b=some o->b∉fp:=λb o e B=>by
  rcases(wg b B).2.2.2.1 with z|z
  .exact I.ok.noex b o e z
  .exact absurd (aAr (aAf e)<|aAq I.ok.bsz z) (aBj _)
 have nfs:∀b∈fp,b∉V6 X.stack:=λb B z=>by
  rcases aAd.mp (I.ab3 b z)with e|z
  .exact(wg b B).2.1 e
  .exact(wg b B).2.2.1 z
 have A:∀x c,X.env.cells.lookup x=some c->c<s.heap.objs.size+1:=λx c h=>by obtain⟨v,o,Q,_⟩:=I.cell x c h;exact aBA (aAf Q)
 have has:∀x,((relabel a X.env).names.lookup x=some .cell\/(relabel a X.env).names.lookup x=some .free)->∃c,(aZ X a s.heap.objs.size).lookup x=some c:=λx N=>by
  have:((aZ X a s.heap.objs.size).lookup x).isSome=true:=PySem.W.cellsFrom_some _ _ _ (by
   rcases gF N with h|h
   .obtain⟨c,hc⟩:=uU (env:=X.env) a.names [] (x:=x) (.inl h);exact .inr (by rw[hc];rfl)
   .exact .inl h)
  exact aFj.mp this
 refine⟨⟨I.ok.mod,S.kind,I.ok.glob,I.ok.blt,aAi _,jT a.names _ _ (λx c h=>A x c (J x c h)) (λx y c h1 C=>I.ok.inj x y c (J x c h1) (J y c C)),has,λx c hf h=>aCB (nM a.names _ _ (PySem.mem_of_lookup<|eq_of_beq hf) h),I.ok.hd,I.ok.frames,.inl rfl,
  λb B=>⟨aAk (ar b B),λx c h=>(cc x c h).elim (λh=>(wg b B).2.2.2.2.1 x c (J x c h)) λ⟨_,C⟩ z=>absurd (aAr (ar b B)<|aCB C) (by rw[z];exact aBj _)⟩,I.bs,aAq I.ok.bsz I.sz,λb o e=>l b o e,nfs,I.stack,I.ab7⟩,rfl,I.bare,Un.kept g,⟨_,za,λi x v e1 E L=>?_⟩,λx c h=>?_,I.hok.fresh (aAi _),λx c h=>(cc x c h).elim (λh=>I.freeC x c (J x c h)) λ⟨_,C⟩=>I.hok.fresh (aCB C),λp hp=>?_,I.hok.kept g,?_⟩
 .
  have hlen:(own++fr).length=(T5 own js σ).length:=by simp[T5,S.len]
  unfold T5 at E;by_cases hi:i<own.length
  .rw[aAT (by simpa using hi),aBq,h9 hi]at E;cases E
  .have fb:own.length<=i:=aEr hi;rw[aAA (by simpa using fb),aCo,aAI]at E;have T:(own++fr)[i]?=some x:=e1;rw[aAA fb]at T;cases e:js[i-own.length]? with
   |none=>rw[e]at E;cases E
   |some j=>
    rw[e]at E;have q:σ.getD j none=some v:=Option.some.inj E;obtain⟨hN,jn⟩:=S.at_ (i-own.length) j x e T;have hσ:σ[j]?=some (some v):=by
     rw[aAw]at q;cases e4:σ[j]? with
     |none=>rw[e4]at q;cases q
     |some z=>rw[e4]at q;exact iu some q
    have O:=S.free (x,.free) jn rfl;have U:tE X.env.scope x:=.inr O;obtain⟨m,hn,hl⟩:=I.loc;obtain⟨u,r,lk⟩:=hl j x v hN hσ U;refine⟨u,r,?_⟩;rcases lk with⟨ku,_⟩|⟨_,c,hc,ir⟩
    .rcases O with O|O<;>(rw[ku]at O;cases O)
    .right;obtain⟨c',Y⟩:=uU (env:=X.env) a.names [] (x:=x) (.inl jn);have:=J x c' Y;rw[hc]at this;cases this;refine⟨?_,c,(nH a.names _ _<|S.apart (x,.free) jn rfl).trans Y,?_⟩
     .rcases L with L|L|L
      .
       have hq:(relabel a X.env).names.lookup x=some .local:=L;exfalso;have:∀f:List (Str×eR),(f.map λ(n,k)=>if(k==NameKind.free&&X.env.scope.kind==.function&&X.env.kindOf n==some .cell)then(n,aBX)else(n,k)).lookup x=some .local->f.lookup x=some .local:=by
        intro f;induction f with
        |nil=>intro h;cases h
        |cons y r ih=>
         obtain⟨n,k⟩:=y;intro h;rw[aAp]at h;dsimp only at h;by_cases N:x=n
         .subst N;by_cases t:(k==NameKind.free&&X.env.scope.kind==.function&&X.env.kindOf x==some .cell)=true
          .rw[h9 t,aBD]at h;cases h
          .rw[ic t,aBD]at h;rw[aBD];exact h
         .rw[aBa,beq_eq_false_iff_ne.mpr N];by_cases t:(k==NameKind.free&&X.env.scope.kind==.function&&X.env.kindOf n==some .cell)=true
          .rw[h9 t,aBa,beq_eq_false_iff_ne.mpr N]at h;exact ih h
          .rw[ic t,aBa,beq_eq_false_iff_ne.mpr N]at h;exact ih h
       have C:=this a.names hq;rw[S.dis (x,.free) jn rfl]at C;cases C
      .exact .inl L
      .exact .inr L
     .obtain⟨o,Q,hd⟩:=ir;exact⟨o,g c o Q,hd⟩
 .rcases cc x c h with h|⟨h,_⟩
  .obtain⟨v,o,Q,hd⟩:=I.cell x c (J x c h);exact⟨v,o,g c o Q,hd⟩
  .exact⟨_,h⟩
 .have hp':p∈X.pn++pins:=by simpa[BL]using hp
  obtain⟨e,n,ne,nf,d⟩:=I.pin p hp';refine⟨g _ _ e,n,aAk (aAf e),λz=>?_,d⟩;rcases aAd.mp (I.ab3 p.1 z)with e'|z'
  .exact ne e'
  .exact nf z'
 .simp[T5,BL,S.len]
def A0 (G:D->Ev->R Ev)(ft:Ev->R Bool)(fe:Ev->R D)(ρ:Ev):List D->R (List D)
 |[]=>.ok []
 |d::e=>match G d ρ with
  |.ok a=>(ft a).bind λb=>if b=true then(fe a).bind λr=>(A0 G ft fe ρ e).bind λf=>.ok (r::f)else A0 G ft fe ρ e
  |_=>.bad
def uD (ρ1 ρ:Ev):Prop:=ρ1.length=ρ.length/\∀(i:Nat) (a:Sl),ρ[i]?=some a->a≠.no->ρ1[i]?=some a
def EnvOk.weak {K:jb}{b H:Hp}{d O:bp->Prop}{σ:St}{ρ1 ρ:Ev}(E:EnvOk K b d H O σ ρ1)(h:uD ρ1 ρ):EnvOk K b d H O σ ρ where
 len:=E.len.trans h.1
 same:=E.same
 sub:=E.sub
 trk:=E.trk
 trk0:=E.trk0
 tab:=E.tab
 slot:=λi f e=>by
  by_cases n:f=.no
  .subst n;trivial
  .exact E.slot i f (h.2 i _ e n)
 inj:=λi j x y a l m g k=>E.inj i j x y a (h.2 i _ l (by rintro rfl;exact g)) (h.2 j _ m (by rintro rfl;exact k)) g k
def S7 (H:Hp)(a:bp):Hp:=λb=>if b=a then none else H b
def AL (H:Hp)(a:bp):S7 H a a=none:=h9 rfl
def Q3 (h:b≠a):S7 H a b=H b:=ic h
def GR (h:H a=some o):upd (S7 H a) a o=H:=by
 funext b
 unfold upd S7;by_cases d:b=a
 .subst d;rw[h9 rfl,h]
 .rw[ic d,ic d]
def EnvOk.ad7 {K:jb}{d H:Hp}{e O:bp->Prop}{σ:St}{ρ:Ev}{a:bp}{vs:List V}(E:EnvOk K d e H O σ ρ)(h:H a=none)(f:K.lookup a=none):EnvOk K d e (upd H a (.lst vs)) (λb=>O b\/b=a) σ ρ:=E.ab8 h f trivial
def Rep.hidden {K:jb}{H:Hp}{O:bp->Prop}{a:bp}{vs:List V}{v:V}{d:D}(h:H a=some (.lst vs))(r:Rep K H (λb=>O b\/b=a) v d):Rep K (S7 H a) O v d:=by
 refine r.mono (λb Y q=>?_) (λb Y n q=>⟨λz=>n (.inl z),?_⟩) λb φ n q=>⟨λz=>n (.inl z),by rw[Q3 λz=>n (.inr z)];exact q⟩
 .rcases q with(q|⟨o,q⟩)|q
  .exact .inl (.inl (by rw[Q3 (by rintro rfl;rw[h]at q;cases q)];exact q))
  .exact .inl (.inr ⟨o,by rw[Q3 (by rintro rfl;rw[h]at q;cases q)];exact q⟩)
  .exact .inr q
 .have e:b≠a:=λz=>n (.inr z);rcases q with(q|⟨o,q⟩)|q
  .exact .inl (.inl (by rw[Q3 e];exact q))
  .exact .inl (.inr ⟨o,by rw[Q3 e];exact q⟩)
  .exact .inr q
def V7 (h:H a=none)(s:Same (upd H a (.lst vs)) H'):Same H (S7 H' a):=λb o q=>by
 have d:b≠a:=by rintro rfl;rw[h]at q;cases q
 rw[Q3 d];exact s b o (by rw[k9 d];exact q)
def zx (K:jb)(J:It)(H:Hp)(O:bp->Prop)(ds:List D):Prop:=∀b e,Same H b->Kp H O b e->Q1 K e->(∀a,O a->∃o,H a=some o/\Mt o)->(∀a,e a->∃o,b a=some o/\Mt o)->∀i:Nat,
 (∀d,ds[i]?=some d->J.go i b/\∀x f,J.yld i b x f->Same b f/\Rep K f e x d)/\(ds[i]?=none->J.stop i b)
def VF.c {K:jb}(h:VF K J H O ds):zx K J H O ds:=λa b _=>h a b
def tIc (X:Cx)(f:Ev->R (List D)):TI:=λσ H R=>∃b d O ρ,EnvOk X.K b d H O σ ρ/\Q1 X.K O/\match f ρ with
 |.ok g=>∀J a,Same H a->zx X.K J a O g->R J a
 |.ex e=>∀a,Same H a->XW X e a
 |.bad=>False
def PIC (X:Cx)(a v6:cv)(f:Ev->R (List D)):Prop:=PI X a v6 (tIc X f)
def pic (h:TJ X a v6 f):PIC X a v6 f:=AA h λσ H R ⟨b,d,O,ρ,E,k,q⟩=>⟨b,d,O,ρ,E,k,by
 cases e:f ρ with
 |ok i=>rw[e]at q;exactλJ g s h=>q J g s h.c
 |ex x=>rw[e]at q;exact q
 |bad=>rw[e]at q;exact q⟩
section
def QF (X:Cx)(b:List cv)(ft:Ev->R Bool):Prop:=
 ∀(a:K6) (s:bb) (σ:St) (H:Hp) (Q:Bool->Hp->Prop),Inv X a σ H s->tDT X ft σ H Q->
  bc (bt X.prog X.w) X.A (forIn b true λc r=>if r=true then do let ok<-isTrue c X.env (dq c X.env);pure (aCn ok)else pure (aCn r)) (TP X a σ Q) X.xe s
def QW:QF X [] (λ_=>.ok true):=by rintro a s σ H Q I ⟨b,d,O,ρ,E,q⟩;exact wpAny_tests_nil ⟨H,I,q H (Same.refl _)⟩
def QR (h:zJ X c ft):QF X [c] ft:=λa s σ H Q I q=>wpAny_tests_one (h a s σ H Q I q)
def pA {tg elt v6:cv}{ifs:List cv}{scope:gW}{own fr:List Str}{js:List Nat}{G:D->Ev->R Ev}{ft:Ev->R Bool}{fe:Ev->R D}{pins:K6}{σ:St}{H:Hp}{s:bb}{Ha:Hp}{O0 O:bp->Prop}{ρ:Ev}
  {it:bp} {Q:List bp} {tn:Nat->cy->Prop} {J:It} {ds rs:List D} {RR:av->bp->Result->bb->Prop} {EE:D3} (hc:X.calm=true) (S:CompSc X scope own fr js)
  (hX:∀t:Cx,(∃sa Hb C,t=BL X pins sa Hb (own++fr) scope (aZ X scope C) C Q)->IY t tg G/\QF t ifs ft/\PD t elt fe)
  (hG:∀d ρ1,G d (i8 own js ρ)=.ok ρ1->uD ρ1 (i8 own js ρ))
  (I:Inv X pins σ H s) (T:Turn X.prog X.w X.K tg J Q it tn) (st:tn 0 s.heap) (wg:∀b∈Q,pV X pins H b) (E:EnvOk X.K Ha O0 H O σ ρ) (hJ:zx X.K J H O ds) (hrs:A0 G ft fe (i8 own js ρ) ds=.ok rs) (hlen:ds.length<=sizeLine)
  (fin:∀B C s' H' m,s'.heap.Ns C m->C≠B->s.heap.objs.size<=C->s.heap.objs.size<=B->Same H H'->Rep X.K H' O (.ref B) (.lst rs)->(∃H1 vs,Same H H1/\H1 B=none/\H'=upd H1 B (.lst vs)/\Reps X.K H1 O vs rs)->H' C=none->(∀h',Heap.SameBut C s'.heap h'->Inv X pins σ H' {s' with heap:=h'})->RR (.ref B) C (.ok .next) s'):
  bc (bt X.prog X.w) X.A (newList []) (λB se=>bc (bt X.prog X.w) X.A (newFunctionEnv scope X.env.globals (IX X.env scope.names []) [] X.env.qual none .none (some X.env)) (λcenv sh=>f6 (bt X.prog X.w) X.A (.compStart (.ListComp elt [⟨tg,v6,ifs,0⟩] scope pos) 0 (.ref it) B {cenv with scope:=relabel scope X.env}) (RR B cenv.locals) sh) EE se) EE s:=by
 have hO:=qK I O E.trk;refine aBH ?_;have hfr:H s.heap.objs.size=none:=I.hok.fresh (aAi _);have yo:X.K.lookup s.heap.objs.size=none:=by
  cases e:X.K.lookup s.heap.objs.size with
  |none=>rfl
  |some o=>exact absurd (aAf<|I.kIn _ o e) (aBj _)
 have I1:Inv X pins σ (upd H s.heap.objs.size<|.lst []) {s with heap:=s.heap.push {cls:=.type "list",dict:=none,data:=.seq ([]:List av).toArray}}:=
  I.laid (t':=s.toks) (λb u e=>aAc _ e) (aAi _) ⟨aAG _,[],0,.nil,aAm _ rfl⟩
 generalize fu:s.heap.objs.size=B at*
 generalize zb:({s with heap:=s.heap.push {cls:=.type "list",dict:=none,data:=.seq ([]:List av).toArray}}:bb)=Y at I1⊢;have sz1:Y.heap.objs.size=B+1:=by rw[<-zb,<-fu];exact aBz _ _
 have keep1:∀b o,s.heap.get? b=some o->Y.heap.get? b=some o:=λb o e=>by rw[<-zb];exact aAc _ e
 have wm:∀b∈Q,b<B:=λb g=>by obtain⟨o,e,_⟩:=T.obj 0 _ st b g;rw[<-fu];exact aAf e
 have hfp1:∀b∈Q,pV X pins (upd H B<|.lst []) b:=λb g=>by obtain⟨f0,f⟩:=wg b g;exact⟨by rw[k9 (aAk<|wm b g)];exact f0,f⟩
 refine GP ?_;obtain⟨L,e8⟩:∃L,pushCells (Y.heap.push {cls:=.type "dict",data:=.dict #[]}) scope.names=L:=⟨_,rfl⟩;rw[e8];have keep2:∀b o,Y.heap.get? b=some o->L.get? b=some o:=λb o e=>by rw[<-e8];exact aEE _ _ _ _ (aAc _ e)
 have IB:=GU (tk:=Y.toks) I1 S hfp1 (λb g=>by rw[sz1];exact aBA (wm b g)) e8.symm;generalize hC:Y.heap.objs.size=C at*
 obtain⟨hG',hT',hE'⟩:=hX _ ⟨Y,upd H B (.lst []),C,rfl⟩;generalize qg:BL X pins Y (upd H B<|.lst []) (own++fr) scope (aZ X scope C) C Q=t at IB hG' hT' hE';have eP:t.prog=X.prog:=by rw[<-qg];rfl
 have eW:t.w=X.w:=by rw[<-qg];rfl
 have eK:t.K=X.K:=by rw[<-qg];rfl
 have eA:t.A=X.A:=by rw[<-qg];rfl
 have eC:t.calm=true:=by rw[<-qg];exact hc
 have eX:t.xe=λ_ _=>False:=by rw[<-qg];rfl
 have eE:t.env=compEnvC scope (aZ X scope C) C X.env:=by rw[<-qg];rfl
 have eX0:t.ex=Q:=by rw[<-qg];rfl
 have ePn:t.pn=X.pn++pins:=by rw[<-qg];rfl
 have eFs:t.fs=V6 X.stack:=by rw[<-qg];rfl
 have eS0:t.sa=Y:=by rw[<-qg];rfl
 have eH0:t.Ha=upd H B (.lst []):=by rw[<-qg];rfl
 have eL:t.env.locals=C:=by rw[eE];rfl
 have eCe:t.env.cells=aZ X scope C:=by rw[eE];rfl
 have I2of:=IB;have cell_ne:∀b∈Q,∀x c,t.env.cells.lookup x=some c->c≠b:=λb g x c h=>(I2of.ok.exf b (by rw[eX0];exact g)).2 x c h;have accC:B≠C:=by rw[sz1];exact aAk (aDK _)
 have fpC:∀b∈Q,b≠C:=λb g=>by have h1:=wm b g;rw[sz1];exact aAk (aBA h1)
 have fpB:∀{H':Hp},(∀b∈Q,H' b=none)->∀b∈Q,pV t [] H' b:=λ{H'} hn b g=>by
  obtain⟨f0,f1,f2,f3,f4,f5⟩:=wg b g;refine⟨hn b g,by rw[eL];exact fpC b g,?_,.inl (by rw[eX0];exact g),λx c h=>cell_ne b g x c h,λp hp=>f5 p (by rw[ePn,aBL]at hp;exact hp)⟩;rw[eFs];intro z;rcases aAd.mp (I.ab3 b z)with e|z
  .exact f1 e
  .exact f2 z
 have st1:tn 0 L:=T.keep 0 s.heap L st λb g o e=>keep2 b o (keep1 b o e)
 let Iv:Nat->bb->Prop:=λn s'=>∃i ah N vs rd,n=ds.length-i/\i<=ds.length/\Inv t [] ah (upd N B<|.lst vs) s'/\N B=none/\tn i s'.heap/\(∀b∈Q,N b=none)/\EnvOk X.K Ha O0 N O ah (i8 own js ρ)/\Same H N/\
  Reps X.K N O vs rd/\(∃rest,A0 G ft fe (i8 own js ρ) (ds.drop i)=.ok rest/\rs=rd++rest)/\vs.length<=i
 have loop:f6 (bt X.prog X.w) X.A (.compLoop (.ListComp elt [⟨tg,v6,ifs,0⟩] scope pos) 0 (.ref it) (.ref B) (compEnvC scope (aZ X scope C) C X.env)) (RR (.ref B) C) {Y with heap:=L}:=by
  refine HG Iv ?_ ds.length ⟨0,_,H,[],[],by simp,aAG _,IB,hfr,st1,λb g=>(wg b g).1,HP S.nd E,Same.refl H,.nil,⟨rs,by rw[aGf];exact hrs,rfl⟩,aAG _⟩;rintro n s2 ⟨i,vo,N,vs,rd,rfl,hi,I2,ye,kh,fx2,E2,qu,r2,⟨rest,l,wo⟩,hvl⟩;have fr2:∀b∈Q,(upd N B<|.lst vs) b=none:=λb g=>by rw[k9 (aAk<|wm b g)];exact fx2 b g
  have sU:=j5 ye (.lst vs);have hit:=hJ (upd N B<|.lst vs) (λb=>O b\/b=B) (qu.trans sU) (λb o q n=>⟨sU b o (qu b o q),λz=>z.elim n λz=>by subst z;rw[hfr]at q;cases q⟩) (λa o q z=>z.elim (hO a o q) λz=>by subst z;rw[yo]at q;cases q) E.trk
   (λa z=>(E2.ad7 (vs:=vs) ye yo).trk a z) i
  by_cases ar:i<ds.length
  .obtain⟨go,yl⟩:=hit.1 ds[i] (aAj ar);rw[aDG ar,A0]at l;have om:=T.item t eP eW eK eC i [] s2 vo _ (λ_ _=>False) I2 (fpB fr2) kh go;rw[eA]at om;refine B1 om λr s3 z9=>?_;obtain⟨u,hr,h3⟩:=z9;subst hr;refine B1 h3 λ_ s4 z9=>?_;obtain⟨x,H4,I4,ru,y4,st4,fr4⟩:=z9;obtain⟨sm4,rep4⟩:=yl x H4 y4;cases e1:G ds[i] (i8 own js ρ)with
   |ex z=>rw[e1]at l;cases l
   |bad=>rw[e1]at l;cases l
   |ok ρ1=>
    rw[e1]at l;dsimp only at l;have EB:EnvOk X.K Ha O0 H4 (λb=>O b\/b=B) vo (i8 own js ρ):=(E2.ad7 ye yo).grow sm4;have I4':=I4.pinned (fpB fr4) (T.obj _ _ st4);have again:∀{s7:bb} {qa:St} {y:Hp} {vs7:List V} {rd7:List D} {rest7:List D},Inv t ([]++oM Q s4.heap) qa y s7->y B=some (.lst vs7)->EnvOk X.K Ha O0 (S7 y B) O qa (i8 own js ρ)->Same H (S7 y B)->Reps X.K (S7 y B) O vs7 rd7->
      A0 G ft fe (i8 own js ρ) (ds.drop<|i+1)=.ok rest7->rs=rd7++rest7->vs7.length<=i+1->∃m,m<ds.length-i/\Iv m s7:=λ{s7 qa y vs7 rd7 rest7} I7 h7 E7 sm7 r7 hr7 hrs7 hv7=>by
     refine⟨ds.length-(i+1),by omega,i+1,qa,S7 y B,vs7,rd7,rfl,ar,?_,AL _ _,T.keep _ _ _ st4 λb g o e=>(I7.pin (b,o)<|aAH _<|aAH _<|bA g e).1,λb g=>?_,E7,sm7,r7,⟨rest7,hr7,hrs7⟩,hv7⟩
     .rw[GR h7];exact I7.ab4
     .rw[Q3 (aAk<|wm b g)];obtain⟨o,e,d⟩:=T.obj _ _ st4 b g;exact(I7.pin (b,o)<|aAH _<|aAH _<|bA g e).2.1
    have hasg:=hG' _ s4 vo H4 x u (λU H5=>Same H4 H5/\EnvOk X.K Ha O0 H5 (λb=>O b\/b=B) U ρ1) I4' ru ⟨Ha,O0,_,_,ds[i],ρ1,by rw[eK];exact EB,by rw[eK];exact rep4,e1,λU H5 s5 E5=>⟨s5,by rw[eK]at E5;exact E5⟩⟩;rw[eP,eW,eA,eE,eX]at hasg;refine B1 hasg λ_ s5 z9=>?_;obtain⟨U,H5,I5,sm5,E5⟩:=z9;have hacc5:H5 B=some (.lst vs):=sm5 B _ (sm4 B _ i9);cases e2:ft ρ1 with
    |ex z=>rw[e2]at l;cases l
    |bad=>rw[e2]at l;cases l
    |ok b=>
     rw[e2,R.aa0]at l;have htst:=hT' _ s5 U H5 (λc H6=>c=b/\Same H5 H6) I5 ⟨Ha,O0,_,ρ1,by rw[eK];exact E5,by rw[e2];exactλH6 s6=>⟨rfl,s6⟩⟩;rw[eP,eW,eA,eE,eX]at htst;refine B1 htst λok s6 z9=>?_;obtain⟨H6,I6,g,sm6⟩:=z9;subst g;have sm46:Same (upd N B<|.lst vs) H6:=sm4.trans (sm5.trans sm6);have hacc6:H6 B=some (.lst vs):=sm6 B _ hacc5;have smx6:Same N (S7 H6 B):=V7 ye sm46;have W1:uD ρ1 (i8 own js ρ):=hG _ _ e1;have Eb:∀{y:Hp},Same H5 y->EnvOk X.K Ha O0 (S7 y B) O U (i8 own js ρ):=λ{y} s7=>by
      have E7:=(E5.grow s7).weak W1;have h7:y B=some (.lst vs):=s7 B _ hacc5;refine⟨E7.len,E2.same.trans (V7 ye<|sm4.trans<|sm5.trans s7),E2.sub,λa z=>?_,E2.trk0,E2.tab.same (V7 ye<|sm4.trans<|sm5.trans s7),λj sl e=>?_,E7.inj⟩
      .obtain⟨o,q,mt⟩:=E2.trk a z;exact⟨o,V7 ye (sm4.trans<|sm5.trans s7) a o q,mt⟩
      .rcases bD e with rfl|⟨_,⟨d,rfl⟩|⟨k,rfl⟩,_⟩
       .trivial
       .obtain⟨v,h1,h2⟩:=E7.val j d e;exact⟨v,h1,Rep.hidden h7 h2⟩
       .obtain⟨b,o,es,h1,g,h3,h4,h5,h6,h8⟩:=E7.slot j _ e;have nb:b≠B:=by rintro rfl;rw[h7]at h4;cases h4
        exact⟨b,o,es,h1,g.resolve_right nb,h3,by rw[Q3 nb];exact h4,h5,h6.mono (Rep.hidden h7),h8⟩
     cases ok with
     |false=>rw[ic aAV]at l⊢;exact again I6 hacc6 (Eb sm6) (qu.trans smx6) (r2.same smx6) l wo (Nat.le_succ_of_le hvl)
     |true=>
      rw[h9 rfl]at l⊢;cases e3:fe ρ1 with
      |ex z=>rw[e3]at l;cases l
      |bad=>rw[e3]at l;cases l
      |ok dv=>
       rw[e3,R.aa0]at l;cases e4:A0 G ft fe (i8 own js ρ) (ds.drop<|i+1)with
       |ex z=>rw[e4]at l;cases l
       |bad=>rw[e4]at l;cases l
       |ok rest'=>
        rw[e4,R.aa0]at l;have qi:dv::rest'=rest:=R.ok.inj l;have helt:=hE' _ s6 U H6 (λv y=>Same H6 y/\Rep X.K y (λb=>O b\/b=B) v dv) I6 ⟨Ha,O0,_,ρ1,by rw[eK];exact E5.grow sm6,by rw[e3,RC];exactλv y s7 r7=>⟨s7,by rw[eK]at r7;exact r7⟩⟩;rw[eP,eW,eA,eE,eX]at helt;refine B1 helt λuv s7 z9=>?_;obtain⟨v,y,I7,ruv,sm7,r7⟩:=z9;have hacc7:y B=some (.lst vs):=sm7 B _ hacc6;have happ:=qZ (X:=t) _ s7 U y (.ref B) [v] (.ref B) [uv] (λ_ H8=>H8=upd y B (.lst (vs++[v]))) I7 rfl (.cons ruv .nil) ⟨B,vs,v,rfl,rfl,hacc7,by omega,rfl⟩;rw[eP,eW,eA,eX]at happ;refine B1 happ λ_ s8 z9=>?_;obtain⟨_,H8,I8,_,h8⟩:=z9;subst h8;have hh:S7 (upd y B<|.lst (vs++[v])) B=S7 y B:=by
         funext b
         unfold S7 upd;by_cases g:b=B
         .rw[h9 g,h9 g]
         .rw[ic g,ic g,ic g]
        have smx7:Same N (S7 y B):=V7 ye (sm46.trans sm7);refine again (vs7:=vs++[v]) (rd7:=rd++[dv]) (rest7:=rest') I8 i9 (by rw[hh];exact Eb (sm6.trans sm7)) (by rw[hh];exact qu.trans smx7) ?_ e4 (by rw[wo,<-qi,aFl];rfl) (by rw[aAK];exact Nat.succ_le_succ hvl);rw[hh];exact(r2.same smx7).snoc (Rep.hidden hacc7 r7)
  .have fb:i=ds.length:=by omega
   subst fb;have hstop:=hit.2 (by simp);have om:=T.done t eP eW eK eC ds.length [] s2 vo _ (λ_ _=>False) I2 (fpB fr2) kh hstop;rw[eA]at om;refine B1 om λr s3 z9=>?_;obtain⟨hr,I3⟩:=z9;subst hr;rw[List.drop_length,A0]at l;have qi:([]:List D)=rest:=R.ok.inj l;rw[<-qi,aBL]at wo;obtain⟨m,hm,_⟩:=id I3.loc;rw[eL]at hm;have hfin:Same H (upd N B<|.lst vs):=qu.trans sU;refine fin B C s3 (upd N B<|.lst vs) m hm (aBU accC) (by omega) (aAi _) hfin ?_ ⟨N,vs,qu,ye,rfl,by rw[wo];exact r2⟩ (by rw[<-eL];exact I3.free) (λh' ko=>?_)
   .rw[wo];exact .lst (N0.of i9) (E2.fresh ye) (r2.same sU)
   .have hU:Un (V6 X.stack) Q (upd H B<|.lst []) (upd N B<|.lst vs) Y.heap s3.heap:=by have:=I3.base;rw[eFs,eX0,eH0,eS0]at this;exact this
    have hCn:∀b o,Y.heap.get? b=some o->b≠C:=λb o e=>by have:=aAf e;rw[hC]at this;exact aAk this
    have hU':Un (V6 X.stack) Q (upd H B<|.lst []) (upd N B<|.lst vs) Y.heap h':=⟨λb o e n g hx=>(ko.2 b (hCn b o e)).trans (hU.keep b o e n g hx),λb o e n g hx=>by
      obtain⟨sl,q⟩:=hU.slot b o e n g hx;exact⟨sl,(ko.2 b (hCn b o e)).trans q⟩,hU.free,λb o e hx=>by
      obtain⟨o',q⟩:=hU.there b o e hx;exact⟨o',(ko.2 b (hCn b o e)).trans q⟩,hU.tups,hU.frzs,hU.tbls⟩
    have hCf:upd N B (.lst vs) C=none:=by rw[<-eL];exact I3.free
    have zc:Y3 X.prog X.w (upd N B<|.lst vs) h':=λb u e=>by
     have g:b≠C:=by rintro rfl;rw[hCf]at e;cases e
     have:=I3.hok b u e;rw[eP,eW]at this;refine this.ab5 (λc v hc q=>(ko.2 c ?_).trans q) (λ_ q=>q) λ_ _ _ q=>q;rcases hc with z|z
     .rw[z];exact g
     .rintro rfl;rw[hCf]at z;cases z
    have hos:s3.os=Y.os:=by have:=I3.os;rw[eS0]at this;exact this
    exact I1.af0 (s':={s3 with heap:=h'}) (ch:=Q) hos hU' zc I3.bare λb g=>by obtain⟨f0,f1,f2,f3,f4,f5⟩:=wg b g;exact⟨f3,f1,f4,f5⟩
 exact codeAny_compStart_list loop (T.self _ 0 _ _ _ st1 loop)
def JD (own L:List Str)(g:List Nat)(hc:X.calm=true)(S:CompSc X b own L g)(hi:PIC X N v6 U)(hX:∀(a:K6) (k:List bp) (i:Cx),(∃sa Hb C,i=BL X a sa Hb (own++L) b (aZ X b C) C k)->IY i N G/\QF i l ft/\PD i n fe)(hG:∀ρ d ρ1,G d (i8 own g ρ)=.ok ρ1->uD ρ1 (i8 own g ρ))(hs:∀x,eN v6 X.env x=pure x:=by intro _;rfl):
  PD X (.ListComp n [⟨N,v6,l,0⟩] b pos) (λρ=>(U ρ).bind λds=>if ds.length<=sizeLine then(A0 G ft fe (i8 own g ρ) ds).bind λf=>.ok (.lst f)else .bad):=by
 refine rL λa s σ H Q I Ha O0 O ρ E q=>?_;dsimp only at q;rw[eval_ListComp];refine aDQ (use:=none) rfl hs (W8<|Inv.aa9 I S) S.kind S.names ?_;refine B1 (hi a s σ H (λJ o=>∃ds f,Same H o/\zx X.K J o O ds/\ds.length<=sizeLine/\A0 G ft fe (i8 own g ρ) ds=.ok f/\∀v h,Same H h->Rep X.K h O v (.lst f)->Q v h) I ⟨Ha,O0,O,ρ,E,qK I O E.trk,?_⟩) λv Y h1=>B1 h1 λitv s2 h2=>?_
 .cases p:U ρ with
  |ex x=>rw[p]at q;exact q
  |bad=>rw[p]at q;exact q
  |ok ds=>
   rw[p,R.aa0]at q;intro J o Y t;split at q
   .rename_i u;cases j:A0 G ft fe (i8 own g ρ) ds with
    |ex x=>rw[j]at q;exact(q H<|Same.refl _).elim
    |bad=>rw[j]at q;exact q.elim
    |ok f=>rw[j]at q;exact⟨ds,f,Y,t,u,j,q⟩
   .exact q.elim
 .obtain⟨it,k,tn,J,H2,e,I2,T,kh,f2,ds,f,sm,t,u,y,q⟩:=h2;subst e;refine pA (RR:=λB C=>compPost (bt X.prog X.w) X.A X.xe none (EP X a σ Q) B C) hc S (hX a k) (hG ρ) I2 T kh f2 (E.grow sm) t y u ?_;intro B C s' h m hn _ _ _ z r _ _ hI;exact⟨m,hn,λh' ko=>⟨.ref B,h,hI h' ko,rfl,q _ h (sm.trans z) r⟩⟩
def P6 (own g:List Str)(b:List Nat)(k:X.calm=true)(S:CompSc X a own g b)(l:TJ X j v6 m)(n:∀(e:K6) (o:List bp) (f:Cx),(∃p q C,f=BL X e p q (own++g) a (aZ X a C) C o)->IY f j G/\QF f h ft/\PD f i fe)(r:∀ρ d ρ1,G d (i8 own b ρ)=.ok ρ1->uD ρ1 (i8 own b ρ))(s:∀x,eN v6 X.env x=pure x:=by intro _;rfl):
 PD X (.ListComp i [⟨j,v6,h,0⟩] a pos) (λρ=>(m ρ).bind λds=>if ds.length<=sizeLine then(A0 G ft fe (i8 own b ρ) ds).bind λt=>.ok (.lst t)else .bad):=JD own g b k S (pic l) n r s
end
def LS (P:cp)(w:cu):KT:=λd H s E e f=>∃(a:bp) (cls h:av) (B:cy) (g:Hp),e=.ref a/\f.os=s.os/\AllBare f.gens/\Heap.FlyingW B d a cls h f.heap/\
 Un (V6 d) [] H g s.heap f.heap/\Y3 P w g f.heap/\(∀b o,s.heap.get? b=some o->H b=none->b∉V6 d->B.get? b=some o)/\
 (∀b o,s.heap.get? b=some o->b∉V6 d->∃u,B.get? b=some u)/\(∀b u,g b=some u->∃o,B.get? b=some o)/\E cls none g
structure LeavesBy (X:Cx)(E:XK):Prop where
 xe:∀e s',wpAny (model X.prog X.w) X.A (leaving X.env e) (λ_ s''=>LS X.prog X.w X.outer X.Ha X.sa E e s'') (λe' s''=>LS X.prog X.w X.outer X.Ha X.sa E e' s'') s'->X.xe e s'
 stk:X.stack=X.env::X.outer
 fr:X.env.frame=some X.env.locals
 ex:X.ex=[]
def _root_.L2.ObjOk.live (x:ObjOk P w H h a o):h.get? a≠none:=by
 intro z;have b:∀{u:Obj},h.get? a=some u->False:=λq=>by rw[z]at q;cases q
 cases o with
 |lst Y=>obtain⟨_,_,_,_,e⟩:=x;exact b e
 |tup Y=>obtain⟨_,_,_,o,e,_⟩:=x;exact b e
 |dK J=>obtain⟨_,_,_,_,o,_,_,e,_⟩:=x;exact b e
 |dT J=>obtain⟨_,_,_,_,o,_,_,e,_⟩:=x;exact b e
 |set S n=>obtain⟨o,_,_,_,e,_⟩:=x;exact b e
 |ins C d fs=>obtain⟨_,_,_,e,_⟩:=x;exact b e
 |own y=>obtain⟨_,e⟩:=x;exact b e
 |xd fs=>obtain⟨_,⟨_,_,_,e,_⟩,_⟩:=x;exact b e
 |rng lo g=>obtain⟨_,_,_,e⟩:=x;exact b e
 |frz i u=>obtain⟨e,_⟩:=x;exact b e
 |tbl j=>obtain⟨_,e,_⟩:=x;exact b e
 |met f y=>exact b (show h.get? a=some _ from x)
 |ext φ=>obtain⟨_,⟨_,e⟩,_⟩:=x;exact b e
def Y3.over {P:cp}{w:cu}{H:Hp}{h h' B:cy}(x:Y3 P w H h)(b1:B.StaysIn h)(b2:B.StaysIn h')(t:∀b u,H b=some u->∃o,B.get? b=some o):Y3 P w H h':=λa o e=>
 (x a o e).ab5 (λb u d q=>by
  have:∃o,B.get? b=some o:=by
   rcases d with rfl|d
   .exact t _ _ e
   .exact t _ _ d
  obtain⟨f,z⟩:=this;have:=b1 b f z;rw[q]at this;cases this;exact b2 b _ z) (λ_ q=>q) λ_ _ _ q=>q
section
def EC (L:LeavesBy X E):V6 X.stack=X.env.locals::V6 X.outer:=by rw[L.stk];unfold V6;rw[aCi,L.fr]
def DT (L:LeavesBy X E)(I:Inv X m σ H s){f e B:cy}(U:Un (V6 X.stack) [] H H' s.heap f)(k:Y3 X.prog X.w H' f)(b2:B.StaysIn f)(i:B.StaysIn e)(A:f.UpToSlots e)
  (C:∀b o,s.heap.get? b=some o->H b=none->b∉V6 X.stack->B.get? b=some o) (J:∀b o,s.heap.get? b=some o->b∉V6 X.stack->∃u,B.get? b=some u) (c3:∀b u,H' b=some u->∃o,B.get? b=some o):
  Un (V6 X.outer) [] X.Ha H' X.sa.heap e/\Y3 X.prog X.w H' e/\(∀b o,X.sa.heap.get? b=some o->X.Ha b=none->b∉V6 X.outer->B.get? b=some o)/\
   (∀b o,X.sa.heap.get? b=some o->b∉V6 X.outer->∃u,B.get? b=some u):=by
 have d:Un (V6 X.outer) [] X.Ha H X.sa.heap s.heap:=by have:=I.base;rw[L.ex]at this;exact this
 have nx:∀b:bp,b∉([]:List bp):=λb=>aAN;have p:∀b o,X.sa.heap.get? b=some o->b∉V6 X.outer->b∉V6 X.stack:=λb o q n=>by
  rw[EC L];intro z;rcases aAd.mp z with z|z
  .exact absurd (aAf q) (Nat.not_lt_of_le (by rw[z];exact I.ok.above))
  .exact n z
 have r:∀b o,X.sa.heap.get? b=some o->X.Ha b=none->b∉V6 X.outer->B.get? b=some o:=λb o q n a=>C b o (d.keep b o q n a<|nx b) (d.free b o q n<|nx b) (p b o q a);have t:∀b o,X.sa.heap.get? b=some o->b∉V6 X.outer->∃u,B.get? b=some u:=λb o q a=>by obtain⟨g,j⟩:=d.there b o q (nx b);exact J b g j (p b o q a)
 have h:∀b o,X.sa.heap.get? b=some o->b∈V6 X.outer->∃h,e.get? b=some {o with slots:=h}:=λb o q a=>by have n:=I.ok.frf b a;obtain⟨_,g,v,N⟩:=I.ok.funs.mem a;rw[q]at v;cases v;obtain⟨T,O⟩:=d.slot b o q n a (nx b);obtain⟨s2,Q⟩:=U.slot b _ O (d.free b o q n<|nx b) (by rw[EC L];exact aAe _ a) (nx b);obtain⟨x,l⟩:=A b _ Q N;exact⟨x,l⟩
 refine⟨⟨λb o q n a _=>i b o (r b o q n a),λb o q n a _=>h b o q a,λb o q n _=>?_,λb o q _=>?_,λb Y q=>U.tups b Y (d.tups b Y q),λb o u q=>U.frzs b o u (d.frzs b o u q),λb y q=>?_⟩,Y3.over k b2 i c3,r,t⟩
 .obtain⟨g,j⟩:=d.there b o q (nx b);exact U.free b g j (d.free b o q n<|nx b) (nx b)
 .by_cases a:b∈V6 X.outer
  .obtain⟨x,l⟩:=h b o q a;exact⟨_,l⟩
  .obtain⟨u,z⟩:=t b o q a;exact⟨u,i b u z⟩
 .exact U.tbls b y (d.tbls b y q)
def KN (L:LeavesBy X E):mZ (LS X.prog X.w) X E:=by rintro f σ H s e t I ⟨a,cls,h,B,i,j,os,b,g,U,k,l,m,c3,w⟩;subst j;refine L.xe _ _ (wpAny_leaves_onW (by rw[I.ok.frames,L.stk]) L.fr (by rw[<-L.stk];exact g) λu d n=>?_);obtain⟨o,p,q,r⟩:=DT L I U k g.1 d.1 n l m c3;exact⟨a,cls,h,B,i,rfl,os.trans I.os,b,d,o,p,q,r,c3,w⟩
def HL (L:LeavesBy X E)(I:Inv X d σ H s){h':cy}{e:bp}{cls:av}{args:List av}(f:Heap.MadeExcOf s.heap h' e cls args)(w:E cls none H):X.xe (.ref e) {s with heap:=h'}:=by
 have i:s.heap.FunFrames (PySem.W.hideAll s.heap<|V6 X.stack) X.stack:=PySem.W.funFrames_hide I.stack λa j b k=>aBB.mpr ⟨a,j,k⟩;have st:(PySem.W.hideAll s.heap<|V6 X.stack).StaysIn s.heap:=λb o q=>PySem.W.of_hideAll _ q;refine L.xe _ _ (wpAny_leaves_madeW (base:=PySem.W.hideAll s.heap (V6 X.stack)) (h:=s.heap) (by rw[I.ok.frames,L.stk]) L.fr st (by rw[<-L.stk];exact i) f λl t g _ _ m=>?_);have c3:∀b u,H b=some u->∃o,(PySem.W.hideAll s.heap<|V6 X.stack).get? b=some o:=λb u q=>by
  have p:b∉V6 X.stack:=λz=>by rw[I.ab7 b z]at q;cases q
  have:∃o,s.heap.get? b=some o:=by
   cases z:s.heap.get? b with
   |some o=>exact⟨o,rfl⟩
   |none=>exact absurd z (I.hok b u q).live
  obtain⟨o,z⟩:=this;exact⟨o,PySem.W.hideAll_get _ z p⟩
 obtain⟨r,v,x,y⟩:=DT (H':=H) L I Un.refl I.hok st g.1 ((Heap.UpToSlots.of_keeps f.keeps).trans m) (λb o q _ n=>PySem.W.hideAll_get _ q n) (λb o q n=>⟨o,PySem.W.hideAll_get _ q n⟩) c3;exact⟨e,cls,.ref t,_,H,rfl,I.os,I.bare,g,r,v,x,y,c3,w⟩
end
def XA (X:Cx)(E:XK)(e:cv)(G:Ev->Option av):Prop:=∀(b:Hp) (f:bp->Prop) (a:K6) (s:bb) (σ:St) (H:Hp) (O:bp->Prop) (ρ:Ev) (C:av),
 Inv X a σ H s->EnvOk X.K b f H O σ ρ->Q1 X.K O->G ρ=some C->(∀d,Same b d->E C none d)->bc (bt X.prog X.w) X.A (dq e X.env) (λ_ _=>False) X.xe s
def PX (X:Cx)(E:XK)(st:dm)(G:Ev->Option av):Prop:=∀(b:Hp) (e:bp->Prop) (a:K6) (s:bb) (σ:St) (H:Hp) (O:bp->Prop) (ρ:Ev) (C:av),
 Inv X a σ H s->EnvOk X.K b e H O σ ρ->Q1 X.K O->G ρ=some C->(∀d,Same b d->E C none d)->bc (bt X.prog X.w) X.A (exec st X.env) (λ_ _=>False) X.xe s
def RD (X:Cx)(E:XK)(st:List dm)(G:Ev->Option av):Prop:=∀(b:Hp) (e:bp->Prop) (a:K6) (s:bb) (σ:St) (H:Hp) (O:bp->Prop) (ρ:Ev) (C:av),
 Inv X a σ H s->EnvOk X.K b e H O σ ρ->Q1 X.K O->G ρ=some C->(∀d,Same b d->E C none d)->bc (bt X.prog X.w) X.A (execs st X.env) (λ_ _=>False) X.xe s
def zy (K:jb)(n:Nat)(m:List D->Option av):Sp:=λe H _ E=>∃O b C,Reps K H O e b/\b.length=n/\(∀a,O a->∃o,H a=some o/\Mt o)/\Tb H/\Q1 K O/\m b=some C/\∀d,Same H d->E C none d
def Y7 {P:cp}{w:cu}{K:jb}{mg:W6}{base:cy}{N:List Str}{qual:Str}{sc:gW}{f:bp}{cd:av}{A:cq}{a:List Env}{s:bb}{H:Hp}{E:XK}:
 LeavesBy (uK (LS P w) P w K mg base N qual sc f cd A a s H E) E:=⟨λ_ _ h=>h,rfl,rfl,rfl⟩
section
variable{P:cp} {w:cu} {K:jb} {mg:W6} {base:cy}
abbrev cxX (P:cp)(w:cu)(K:jb)(mg:W6)(base:cy)(N:List Str)(qual:Str)(sc:gW)(f:bp)(U:av)(A:cq)(a:List Env)(s:bb)(H:Hp)(E:XK):Cx:=uK (LS P w) P w K mg base N qual sc f U A a s H E
def fnX {x qual:Str}{st:dm}{f:bp}{fd:dA}{N ps:List Str}{k:Nat}{m:List D->Option av}{G:Ev->Option av}(i:Fun K x qual st f fd)(S:FnScope N ps (c6 st))
  (j:∀(U:av) (A:cq) (a:List Env) (s:bb) (H:Hp) (E:XK),Room k (A.deeper (envOfC qual (c6 st) s.heap.objs.size f U))->RD (cxX P w K mg base N qual (c6 st) f U A a s H E) E (p5 st) G)
  (l:∀ds C,ds.length=ps.length->m ds=some C->G (j4 N ds)=some C):FnOk P w K mg base (LS P w) (k+1) f fd ps (zy K ps.length m):=by
 obtain⟨oc,od,kV,n,pm,an,U,ct,o,rfl,lk,p⟩:=i.ex;refine OA lk p S (by rintro t H Q E ⟨O,ds,C,r,d,_⟩;rw[r.length];exact d) λA a s H t Q E u g=>?_;obtain⟨O,ds,C,r,d,v,y,B,e,q⟩:=g;refine⟨λD σ J=>J=H/\EnvOk K H O H O σ (j4 N ds),λb L σ h D I g=>?_,rfl,jS r v y⟩;obtain⟨T,Y⟩:=g;subst T;exact aBG (j U A a s h E u h O b L σ h O _ C I Y B (l ds C d e) q) (λ_ _ z=>z.elim) λ_ _ z=>z
end
section
variable{X:Cx} {E:XK} {st:dm} {rest:List dm} {F:Ev->R Out} {G Ga Gb:Ev->Option av} {pos:Pos}
def U3 (b:PX X E st G):RD X E (st::rest) G:=λd f a s σ H O ρ C I Ev g e q=>aCK (B1 (b d f a s σ H O ρ C I Ev g e q) λ_ _ z=>z.elim)
def rH {a:List dm}:RD X E a (λ_=>none):=λ_ _ _ _ _ _ _ _ _ _ _ _ e=>by cases e
def bq (r:R Bool)(a b:Option av):Option av:=match r with
 |.ok true=>a
 |.ok false=>b
 |_=>none
def VR {c:cv}{a b:List dm}{i:Ev->R Bool}(p:zJ X c i)(r:RD X E a Ga)(u:RD X E b Gb):PX X E (.If c a b pos) (λρ=>bq (i ρ) (Ga ρ) (Gb ρ)):=by
 intro j k f s σ H O ρ C I Ev l e q;cases g:i ρ with
 |ok t=>
  refine wpAny_If (B1 (p f s σ H (λd h=>d=t/\Same H h) I ⟨j,k,O,ρ,Ev,?_⟩) λd m v=>?_)
  .rw[g];exactλy w=>⟨rfl,w⟩
  .obtain⟨h,n,x,o⟩:=v;subst x;dsimp only at e;rw[g]at e;cases d with
   |true=>exact r j k f m σ h O ρ C n (Ev.grow o) l e q
   |false=>exact u j k f m σ h O ρ C n (Ev.grow o) l e q
 |ex z=>dsimp only at e;rw[g]at e;cases e
 |bad=>dsimp only at e;rw[g]at e;cases e
def SQ {e:cv}(h:XA X E e G)(b:et e none pos.line X.env=pure false:=by rfl):PX X E (.Expr e pos) G:=λd f a s σ H O ρ C I Ev g i q=>aGd (B1 (h d f a s σ H O ρ C I Ev g i q) λ_ _ z=>z.elim) I.quiet b
def WQ {e:cv}(h:XA X E e G):PX X E (.Return (some e) pos) G:=λb d a s σ H O ρ C I Ev f g q=>wpAny_Return_some (B1 (h b d a s σ H O ρ C I Ev f g q) λ_ _ z=>z.elim)
def MQ {k:Nat}{g:bp}{h:dA}{ps:List Str}{n:Nat}{m:List D->Option av}{x:Str}{p:Pos}{e:cv}{es:List cv}{f:Ev->R (List D)}(i:mZ (LS X.prog X.w) X E)(F:FnOk X.prog X.w X.K X.mg X.base (LS X.prog X.w) k g h ps (zy X.K n m))(j:Room k X.A)(l:X.mg x=some (.ref g))
  (o:PySem.W.keepIn X.K (.ref g)=true) (r:Binds X.K h ps []) (t:AH X (e::es) f) (v:∀ρ ds,f ρ=.ok ds->ds.length=n) (y:Gl X x:=by rfl)
  (B:(x==jd)=false:=by decide) (J:a9 (e::es) X.env=(false,dq e X.env)::a9 es X.env:=by rfl) (L:(cz pos (a9 es X.env)).any (·.1)=false:=by rfl):
  XA X E (.Call (.Name x p) (e::es) [] pos) (λρ=>match f ρ with|.ok ds=>m ds|_=>none):=by
 intro N Q b s σ H O ρ C I Ev T a q;dsimp only at a;cases d:f ρ with
 |ex z=>rw[d]at a;cases a
 |bad=>rw[d]at a;cases a
 |ok ds=>rw[d]at a;refine aBG (DB F j y l o r .nil i t B J L b s σ H (λ_ _=>False) I ⟨N,Q,O,ρ,Ev,?_⟩) (by rintro u s' ⟨_,_,_,_,z⟩;exact z.elim) λ_ _ z=>z;rw[d];intro vs H1 s1 U;rw[aBL];exact⟨O,ds,C,U,v ρ ds d,(Ev.grow s1).trk,(Ev.grow s1).tab,T,a,λY s2=>q Y (Ev.same.trans<|s1.trans s2)⟩
end
section
variable{K:jb} {h:cy} {C:bp} {wu:List av} {newId:String}
def DJ (X:K.In h)(q:PySem.W.excIn K C wu newId=true):∃bm N nm e bs hdct sn sub ab col dd k0 k1 k2 k3 k5 mN,
  h.get? C=some (excClassObj nm e C N bs bm hdct sn sub ab col dd k0 k1 k2 k3 k5 newId)/\h.Ns N mN/\mN "__init__"=none/\OwnTail h wu bm:=by
 unfold PySem.W.excIn at q;split at q
 .rename_i dd k g m;split at q
  .rename_i u bm k0 k1 k2 k3 n k5 i j;simp only[aAF,beq_iff_eq,Bool.not_eq_true']at q;obtain⟨⟨⟨⟨⟨rfl,rfl⟩,a⟩,o⟩,b⟩,d⟩:=q;obtain⟨nm,bs,p,r,e,s,sn,sub,ab,col,t⟩:=k;dsimp only at i a b d;subst i;subst a;have f:g=#[k0,k1,k2,k3,some (.builtin n),k5]:=by obtain⟨l⟩:=g;simp only at j;rw[j]
   subst f;exact⟨bm,r,nm,e,bs,s,sn,sub,ab,col,dd,k0,k1,k2,k3,k5,_,X _ _ m,.of_isNs (PySem.W.isNs_of_in X b),PySem.W.nsMap_none_of_in X b d,PySem.W.tail_of_in X o⟩
  .cases q
 .cases q
end
section
variable{X:Cx} {E:XK} {pos ao np:Pos} {x:Str} {C:bp} {wu:List av} {B newId initId:String}
def xR {d:cv}{rest:List cv}{f:Ev->R (List D)}(L:LeavesBy X E)(o:X.calm=true)(p:PySem.W.excIn X.K C wu newId=true)(FB:ExcBaseFacts B newId initId wu)(t:X.mg x=some (.ref C))
  (u:AH X (d::rest) f) (v:Gl X x:=by rfl) (w:(x==jd)=false:=by decide)
  (m:a9 (d::rest) X.env=(false,dq d X.env)::a9 rest X.env:=by rfl) (y:(cz ao (a9 rest X.env)).any (·.1)=false:=by rfl):
  PX X E (.Raise (some (.Call (.Name x np) (d::rest) [] ao)) none pos) (λρ=>match f ρ with|.ok ds=>if ds.length<=1000 then some (.ref C)else none|_=>none):=by
 intro A J b s σ H O ρ C' I Ev fk a q;dsimp only at a;cases g:f ρ with
 |ex z=>rw[g]at a;cases a
 |bad=>rw[g]at a;cases a
 |ok ds=>
  rw[g]at a;dsimp only at a;split at a
  .rename_i Q;cases a;obtain⟨U,N,nm,Y,bs,hdct,sn,sub,ab,col,dd,k0,k1,k2,k3,k5,mN,hC,hN,j,T⟩:=DJ I.mod.kin p;refine wpAny_Raise_call_subT (C:=C) (nm:=nm) (q:=Y) (N:=N) (bs:=bs) (bm:=U) (hdct:=hdct) (sn:=sn) (sub:=sub) (ab:=ab) (col:=col) (dd:=dd) (k0:=k0) (k1:=k1) (k2:=k2) (k3:=k3) (k5:=k5)
    FB (mN:=mN) (T.hasType FB.hasBase) (I.ok.hd o) (by rw[m];show(false||(cz ao<|a9 rest X.env).any (·.1))=false;rw[y];rfl) j (aM I v t ⟨rfl,?_⟩ w)
   have n:=u ao b s σ H (λk h=>k.length=ds.length/\Same H h) I ⟨A,J,O,ρ,Ev,by rw[g];exactλk h s1 r1=>⟨r1.length,s1⟩⟩;rw[m]at n⊢;refine aFX (B1 n λus s2 ⟨k,h,i,r,l,sm⟩=>⟨rfl,?_,i.bk _ _ hC,hN.keeps i.bk,T.keeps i.bk,λh' e hx=>?_⟩)
   .rw[<-r.length,l];exact aDb (HN Q)
   .exact HL L i hx (q h<|Ev.same.trans sm)
  .cases a
end
end
end DL
namespace TS
open PySem PyProof.Rows HT
def sN (f:Bool)(x y:av):keyLt' (tupK f) x y=(do
 let Y<-aCH x;let N<-aCH y
 for ((p,q),i)in(Y.toList.zip N.toList).zipIdx do
  if !(<-eqBool p q)then return<-oneLt' (f&&i==0) p q
 return decide (Y.size<N.size)):=rfl
def JR:av->Sem (Option av):=sortPriv%PySem.Builtin.firstOfTuple?
def PK:Array av->Sem (Option av):=sortPriv%PySem.Builtin.oneTypeOnly
def IA (v:av):JR v=(do
 if(<-typeOf v) !=.type "tuple"then return none
 return (<-aCH v)[0]?):=rfl
def NV (vs:Array av):PK vs=(do
 let a<-vs.mapM typeOf
 match a[0]? with
 |some t=>return if a.all (· ==t)then some t else none
 |none=>return none):=rfl
def AM (a:Array av):keyKind' a=(do
 let firsts<-a.mapM JR
 if firsts.all (·.isSome)then
  rule "list.sort.keys-are-tuples"
  return tupK ((<-PK (firsts.filterMap id)).any (· !=.type "tuple"))
 if(firsts[0]?.bind id).isSome then return general'
 return if(<-PK a).isSome then oneType' else general'):=rfl
section
def NO {Q:vT}(f:Bool)(h:Q (decide (a<b)) s):bc (bt prog w) A (oneLt' f (.int a t) (.int b u)) Q E s:=by
 cases f with
 |true=>exact oneLt_int h
 |false=>rw[oneLt'_eq];simp only[aAu,if_false];exact aAa (wY A s a t b u prog w _ _<|aBy h)
def lt_ints (f:Bool){Q:vT}(hl:IsTup s.heap l B)(hb:IsTup s.heap b r)(hi:IntsAre B.toList ns)(hj:IntsAre r.toList O)(h:Q (HT.lexLt ns O) s):bc (bt prog w) A (keyLt' (tupK f) (.ref l) (.ref b)) Q E s:=by
 obtain⟨o,ho,hc,n,hd⟩:=hl;obtain⟨o2,ki,jo,n2,T⟩:=hb;have z1:B.size=ns.length:=by rw[<-hi.length];simp
 have z2:r.size=O.length:=by rw[<-hj.length];simp
 rw[sN];refine aAa (aEm ho hd<|aAa<|aEm ki T ?_);refine aAa (aCw _ (λrest b m=>b.1=none/\m=s/\∃(k:Nat) (J L:List av) (v C:List Int),rest=(J.zip L).zipIdx k/\IntsAre J v/\IntsAre L C/\v.length+r.size=C.length+B.size/\Q (HT.lexLt v C) s)
  (λb m=>m=s/\(∀c,b.1=some c->Q c s)/\(b.1=none->Q (decide (B.size<r.size)) s)) ?turn ?fin _ _ ⟨rfl,rfl,0,B.toList,r.toList,ns,O,rfl,hi,hj,by lia,h⟩|>λz=>aBG z ?post λ_ _ e=>e)
 case post=>
  rintro⟨b1,b2⟩ m ⟨rfl,q1,q2⟩;cases b1 with
  |none=>exact aAb (q2 rfl)
  |some c=>exact aAb (q1 c rfl)
 case fin=>
  rintro⟨b1,b2⟩ m ⟨kr,rfl,k,J,L,v,C,j,U,N,d,g⟩;refine⟨rfl,λc e=>(by rw[kr]at e;cases e),λ_=>?_⟩;cases U with
  |nil=>
   cases N with
   |nil=>rw[X7]at g;simp only[aBr]at d;rw[decide_eq_false (by lia)];exact g
   |cons c u hw=>rw[M7]at g;simp only[aBr,aAv]at d;rw[decide_eq_true (by lia)];exact g
  |cons a t hv=>
   cases N with
   |nil=>rw[C5]at g;simp only[aBr,aAv]at d;rw[decide_eq_false (by lia)];exact g
   |cons c u hw=>rw[aBW,aEs]at j;cases j
 case turn=>
  rintro⟨⟨y,x⟩,i⟩ rest b m ⟨kr,rfl,k,J,L,v,C,j,U,N,d,g⟩;cases U with
  |nil=>rw[List.zip_nil_left,aEF]at j;cases j
  |cons a t H=>
   cases N with
   |nil=>rw[List.zip_nil_right,aEF]at j;cases j
   |cons c u I=>
    rw[aBW,aEs]at j;injection j with p ai;injection p with p Y;injection p with hy hx;subst hy hx Y;rw[F5]at g;simp only[aAv]at d;obtain⟨e,he,vv⟩:=yK A m a t c u;refine aAa (he prog w _ _ ?_);cases e with
    |true=>rw[h9 (vv.mp rfl)]at g;exact aAb ⟨rfl,rfl,_,_,_,_,_,ai,H,I,by lia,g⟩
    |false=>rw[ic (λq=>absurd (vv.mpr q) aAV)]at g;exact aAa (NO _ (aAb ⟨rfl,λc e=>(by cases e;exact g),λe=>(by cases e)⟩))
end
section
theorem DD {α β:Type}{M:hV}{f:α->Sem β}(g:α->β):∀(Y:List α) {Q:List β->bb->Prop},(∀x∈Y,∀{Q:β->bb->Prop},Q (g x) s->bc M A (f x) Q E s)->Q (Y.map g) s->bc M A (Y.mapM f) Q E s
 |[],Q,_,q=>by rw[List.mapM_nil];exact aAb q
 |x::Y,Q,h,q=>by rw[List.mapM_cons];exact aAa (h x (.head _) (aAa (DD g Y (λy a=>h y (.tail _ a)) (aAb q))))
def DQ {α β:Type}{M:hV}{f:α->Sem β}(g:α->β)(Y:List α){Q:Array β->bb->Prop}(h:∀x∈Y,∀{Q:β->bb->Prop},Q (g x) s->bc M A (f x) Q E s)(q:Q (Y.map g).toArray s):bc M A (Y.toArray.mapM f) Q E s:=by rw[List.mapM_toArray];show bc M A (List.toArray<$>Y.mapM f) Q E s;rw[map_eq_pure_bind];exact aAa (DD g Y h<|aAb q)
def kind_tuples {vs:List av}{f:Bool}{T:String}{Q:SortKind->bb->Prop}(b:av->av)(h:∀x∈vs,∃a B,x=.ref a/\IsTup s.heap a B/\B[0]?=some (b x)/\s.TypeIs (b x) T)(i:vs≠[])(j:f=(aCr T !=aCr "tuple"))
  (q:Q (tupK f) s):bc (bt prog w) A (keyKind' vs.toArray) Q E s:=by
 rw[AM];refine aAa (DQ (λx=>some (b x)) vs (λx d {Q} e=>?_) ?_)
 .obtain⟨a,B,rfl,⟨o,g,k,n,l⟩,m,_⟩:=h x d;rw[IA];refine aAa (aDP (T:= "tuple") ⟨o,g,k⟩ ?_);rw[ic (by simp)];refine aAa (aEm g l ?_);rw[m];exact aAb e
 .have p:((vs.map λx=>some (b x)).toArray.all λx=>x.isSome)=true:=by simp
  have r:(vs.map λx=>some (b x)).toArray.filterMap id=(vs.map b).toArray:=by
   rw[List.filterMap_toArray,aDm];congr 1;induction vs with
   |nil=>rfl
   |cons v vs C=>simp
  simp only[p,if_true,r];refine aAa (aDO ?_);refine aAa ?_;rw[NV];refine aAa (DQ (λ_=>aCr T) (vs.map b) (λx d {Q} e=>?_) ?_)
  .obtain⟨y,t,rfl⟩:=aAo.mp d;obtain⟨_,_,_,_,_,u⟩:=h y t;exact aDP u e
  .cases vs with
   |nil=>exact absurd rfl i
   |cons v vs=>
    simp only[aAp,aBJ];have z:((aCr T::aDo ((λ_=>aCr T)∘b) vs).toArray.all λx=>x==aCr T)=true:=by simp
    simp only[aCN,aDf,z,if_true];refine aAb (aAb ?_);rw[j]at q;exact q
end
theorem lex_irrefl:∀a:List Int,HT.lexLt a a=false
 |[]=>rfl
 |x::Y=>by rw[F5,h9 rfl];exact lex_irrefl Y
theorem lex_total:∀a b:List Int,HT.lexLt a b=false->HT.lexLt b a=false->a=b
 |[],[],_,_=>rfl
 |[],_::_,h,_=>by rw[M7]at h;cases h
 |_::_,[],_,h=>by rw[M7]at h;cases h
 |x::Y,y::N,d,f=>by
  rw[F5]at d f;by_cases e:x=y
  .subst e;rw[h9 rfl]at d f;rw[lex_total Y N d f]
  .rw[ic e]at d;rw[ic (aBU e)]at f;have:=of_decide_eq_false d;have:=of_decide_eq_false f;omega
theorem lex_trans:∀a b c:List Int,HT.lexLt a b=true->HT.lexLt b c=true->HT.lexLt a c=true
 |[],[],_,h,_=>by rw[X7]at h;cases h
 |[],_::_,[],_,h=>by rw[C5]at h;cases h
 |[],_::_,_::_,_,_=>rfl
 |_::_,[],_,h,_=>by rw[C5]at h;cases h
 |_::_,_::_,[],_,h=>by rw[C5]at h;cases h
 |x::Y,y::N,z::i,f,d=>by
  rw[F5]at f d⊢;by_cases e:x=y
  .subst e;rw[h9 rfl]at f;by_cases g:x=z
   .subst g;rw[h9 rfl]at d⊢;exact lex_trans Y N i f d
   .rw[ic g]at d⊢;exact d
  .rw[ic e]at f;have j:=of_decide_eq_true f;by_cases g:y=z
   .subst g;rw[ic e];exact f
   .rw[ic g]at d;have k:=of_decide_eq_true d;rw[ic (by omega)];exact decide_eq_true (by omega)
theorem DY:∀a b c:List Int,HT.lexLt a c=true->HT.lexLt a b=true\/HT.lexLt b c=true
 |[],[],_,h=>.inr h
 |[],_::_,_,_=>.inl rfl
 |_::_,_,[],h=>by rw[C5]at h;cases h
 |_::_,[],_::_,_=>.inr rfl
 |x::Y,y::N,z::f,h=>by
  rw[F5]at h;rw[F5,F5];by_cases e:x=y
  .subst e;rw[h9 rfl];by_cases d:x=z
   .subst d;rw[h9 rfl]at h⊢;exact DY Y N f h
   .rw[ic d]at h⊢;exact .inr h
  .rw[ic e];by_cases l:x<y
   .exact .inl (decide_eq_true l)
   .refine .inr ?_;by_cases d:x=z
    .subst d;rw[ic (aBU e)];exact decide_eq_true (by omega)
    .rw[ic d]at h;have:=of_decide_eq_true h;rw[ic (by omega)];exact decide_eq_true (by omega)
open Classical in
def kV (vs:List av) (key:av->List Int):KeyKind where
 α:=List Int
 blt:=HT.lexLt
 irrefl:=lex_irrefl
 trans:=lex_trans
 negTrans:=DY
 total:=lex_total
 keyOf:=λv=>if v∈vs then some (key v)else none
 dflt:=[]
open Classical in
def VM (h:v∈vs):(kV vs key).keyOf v=some (key v):=h9 h
open Classical in
def VL (e:(kV vs key).keyOf v=some l):v∈vs/\key v=l:=by
 have a:(if v∈vs then some (key v)else none)=some l:=e;split at a
 .rename_i h;cases a;exact⟨h,rfl⟩
 .cases a
def mL (vs:List av):(pairsOf vs).toList=vs.map λv=>(v,v):=by
 unfold pairsOf;rw[List.zip_toArray];show vs.zip vs=_;induction vs with
 |nil=>rfl
 |cons v vs a=>rw[aBW,aAp,a]
section
def HD {a:bp}{vs:List av}{n:Nat}{f:Bool}{key:av->List Int}{P:Fin->bb->Prop}(I:s.heap.get? a=some (seqObj "list" vs.toArray n))
  (J:∀d,bx a s d->∀x∈vs,∀y∈vs,∀(prog:cp) (w:cu) (E:D3) {Q:vT},Q (HT.lexLt (key x) (key y)) d->bc (bt prog w) A (keyLt' (tupK f) x y) Q E d)
  (L:2<=vs.length->∀d,bx a s d->∀{Q:SortKind->bb->Prop},Q (tupK f) d->bc (bt prog w) A (keyKind' vs.toArray) Q E d) (m:vs.length<64)
  (h:∀o:List av,o.Perm vs->o.Pairwise (λx y=>HT.lexLt (key y) (key x)=false)->P (.done (.ret .none)) {s with heap:=sortedHeap s.heap a vs o.toArray}):
  bc (bt prog w) A (Builtin.«list.sort» ⟨[.ref a],[]⟩) P E s:=by
 refine xS (κ:=kV vs key) (f:=f) I (λp g=>?_) (λd r prog w E x y k l Q N O q=>?_) (λT d r {Q} q=>L T d r q) m λb e U=>?_
 .rw[mL]at g;obtain⟨v,t,rfl⟩:=aAo.mp g;exact⟨key v,VM t⟩
 .obtain⟨Y,u⟩:=VL N;obtain⟨m2,z⟩:=VL O;subst u z;exact J d r x Y y m2 prog w E q
 .have B:(arrOf b).toList.Perm (vs.map λv=>(v,v)):=by rw[<-mL];exact aEN.mp e
  have same:∀p∈(arrOf b).toList,p.1=p.2/\p.2∈vs:=λp g=>by obtain⟨v,t,rfl⟩:=aAo.mp (B.mem_iff.mp g);exact⟨rfl,t⟩
  have ea:(arrOf b).map (·.2)=((arrOf b).toList.map (·.2)).toArray:=by apply Array.ext';simp
  rw[ea];refine h _ ?_ ?_
  .have:=B.map (·.2);rw[aBJ,show((λx:av×av=>x.2)∘λv=>(v,v))=id from rfl,List.map_id]at this;exact this
  .rw[aCk];intro i j hi hj lg;have fb:i<(arrOf b).size:=by simpa using hi
   have C:j<(arrOf b).size:=by simpa using hj
   have ig:(arrOf b).size=(pairsOf vs).size:=e.size_eq;have q:=U i j (aDb lg) (by rw[<-ig];exact C);have kk:∀k (H:k<(arrOf b).size),KK (kV vs key) (arrOf b) k=key (arrOf b)[k].2:=λk H=>by unfold KK;rw[getElem?_pos _ k H];obtain⟨u,z⟩:=same (arrOf b)[k] (by simp);show((kV vs key).keyOf (arrOf b)[k].1).getD _=_;rw[u,VM z];rfl
   rw[kk i fb,kk j C]at q;rw[aEt,aEt,aGb,aGb];exact q
def sorted_keys {x:av}{vs:List av}{f:Bool}{key:av->List Int}{Q:D3}{C:bb->Prop}(u:∀{p:List av->bb->Prop},(∀s',C s'->p vs s')->bc (bt prog w) A.in1 (collect x) p E s)
  (v:∀s',C s'->∀a,(∀b o,s'.heap.get? b=some o->a.heap.get? b=some o)->∀x∈vs,∀y∈vs,∀(prog:cp) (w:cu) (r:cq) (E:D3) (N:r.units<=A.units+5) {Q:vT},Q (HT.lexLt (key x) (key y)) a->bc (bt prog w) r (keyLt' (tupK f) x y) Q E a)
  (z:2<=vs.length->∀s',C s'->∀a,(∀b o,s'.heap.get? b=some o->a.heap.get? b=some o)->∀(A:cq) {Q:SortKind->bb->Prop},Q (tupK f) a->bc (bt prog w) A (keyKind' vs.toArray) Q E a) (j:vs.length<64)
  (h:∀(s':bb) (g:List av) (h':cy) (l:bp),C s'->g.Perm vs->g.Pairwise (λx y=>HT.lexLt (key y) (key x)=false)->(∀b o,s'.heap.get? b=some o->h'.get? b=some o)->s'.heap.objs.size<=l->(∃n,h'.get? l=some (seqObj "list" g.toArray n))->Q (.ref l) {s' with heap:=h'}):
  bc (bt prog w) A (call (.builtin "sorted") [x]) Q E s:=by
 refine Calls.call_function_entry kind_sorted plain_sorted entry_sorted (args_sorted1 _) ?_;unfold Builtin.«sorted»;refine aAa (m:=checkCount "sorted" 1 1 _) (aAb ?_);refine aAa (u λs' k=>?_);refine aAa (wpAny_newList ?_);have d:(s'.heap.push<|seqObj "list" vs.toArray 0).get? s'.heap.objs.size=some (seqObj "list" vs.toArray 0):=aAm _ rfl;have t:∀a,bx s'.heap.objs.size {s' with heap:=s'.heap.push (seqObj "list" vs.toArray 0)} a->∀b o,s'.heap.get? b=some o->a.heap.get? b=some o:=λa i b o e=>i b o (aAk<|aAf e) (aAc _ e);refine aAa (aAR (aBs slot_list_sort ⟨_,d,rfl⟩ entry_list_sort (HD (key:=key) (f:=f) d (λa i x B y H prog w E {Q} q=>v s' k a (t a i) x B y H prog w _ E (by simp) q) (λI a i {Q} q=>z I s' k a (t a i) _ q) j λg J L=>⟨_,rfl,?_⟩)<|args_list_sort _));refine aAb ⟨_,rfl,h s' g _ _ k J L (λb o e=>?_) (aAi _) (sortedHeap_at d)⟩;rw[sortedHeap_old (aAk<|aAf e) (by rw[aBz];exact aBA (aAf e))];exact aAc _ e
end
end TS
namespace DL
open PySem PySem.Spec L2
open PyProof.Rows hiding St
variable [Tabs]
omit [Tabs]in
def yZ {ns:List Int}(h:PySem.W.WData.layableAll [PySem.W.WData.list (ns.map PySem.W.WData.int)]=true):∀x∈ns,aAW x<=1048576:=λx a=>by
 have b:=(PySem.W.layW_cons h).1;have d:=PySem.W.layableW_item b (.int x) (aAo.mpr ⟨x,a,rfl⟩);have e:=PySem.W.lay0_int d;have f:PyData.layable0 (.int x)=true:=by simpa[PyData.layableAll0]using e
 exact PyData.bits_of_layable f
def v9 (P:cp)(w:cu)(K:jb)(mg:W6)(base:cy)(k:Nat)(x:Str)(n:Nat)(m:List D->R D):Prop:=
 ∃g a b,FnOk P w K mg base tW k g a b (az K n m)/\Binds K a b []/\PySem.W.keepIn K (.ref g)=true/\mg x=some (.ref g)
def yF (f:Ev->R (List D))(n:Nat):Prop:=∀ρ a,f ρ=.ok a->a.length=n
def F8:yF R3 0:=λρ a h=>by cases h;rfl
def t4 (h:yF g n):yF (l9 f g) (n+1):=λρ j e=>by
 unfold l9 at e;cases b:f ρ with
 |ok d=>
  rw[b,R.aa0]at e;cases a:g ρ with
  |ok i=>rw[a]at e;cases e;rw[aAv,h ρ i a]
  |ex x=>rw[a]at e;cases e
  |bad=>rw[a]at e;cases e
 |ex x=>rw[b]at e;cases e
 |bad=>rw[b]at e;cases e
section
def tV (c:v9 X.prog X.w X.K X.mg X.base k x n m)(a:Room k X.A)(d:AH X (e::es) f)(h:yF f n)(i:Gl X x:=by rfl)(j:(x==jd)=false:=by decide)(l:a9 (e::es) X.env=(false,dq e X.env)::a9 es X.env:=by rfl)(o:(cz pos (a9 es X.env)).any (·.1)=false:=by rfl):
  PD X (.Call (.Name x p) (e::es) [] pos) (λρ=>(f ρ).bind m):=by
 obtain⟨g,r,s,F,b,q,em⟩:=c;exact SL F a em q b d h i j l o
end
def ZQ {P:cp}{w:cu}{K:jb}{mg:W6}{base:cy}{x qual:Str}{st:dm}{f:bp}{fd:dA}{N ps:List Str}{k:Nat}{m:List D->R D}{F:Ev->R Out}(b:Fun K x qual st f fd)(S:FnScope N ps (c6 st))(e:Binds K fd ps [])(g:mg x=some (.ref f))
  (h:∀(U:av) (A:cq) (a:List Env) (s:bb) (H:Hp) (E:XK),Room k (A.deeper (envOfC qual (c6 st) s.heap.objs.size f U))->Y0 (TX P w K mg base N qual (c6 st) f U A a s H E) (p5 st) F)
  (i:∀ds d,ds.length=ps.length->m ds=.ok d->M9 (F (j4 N ds))=.ok d):v9 P w K mg base (k+1) x ps.length m:=
 ⟨f,fd,ps,fnD b S h i,e,b.kp,g⟩
def u4:∀d ρ1,(R.ok ((i8 [x] a ρ).set 0 (Sl.v d)):R Ev)=.ok ρ1->uD ρ1 (i8 [x] a ρ):=λd ρ1 h=>by
 cases h;refine⟨by simp,λi e h b=>?_⟩;cases i with
 |zero=>exact absurd (by simpa[i8]using h.symm) b
 |succ i=>rw[aCx (by lia)];exact h
def OQ (sc:gW)(N:List Str)(a:gW)(d:List Str)(b:List Nat):Bool:=
 decide (a.kind=.function)&&a.names.all (λy=>decide (y.2=.free->(y.1,aBX)∉a.names))&&a.names.all (λy=>decide (y.2=.local->a.names.lookup y.1=some .local))&&
 a.names.all (λy=>decide (y.2=.free->sc.names.lookup y.1=some .cell\/sc.names.lookup y.1=some .free))&&decide (b.length=d.length)&&(b.zip d).all (λp=>decide (N[p.1]?=some p.2/\(p.2,NameKind.free)∈a.names))&&decide b.Nodup&&
 a.names.all (λy=>decide (y.2=.free->a.names.lookup y.1=some .free))
def N8 (b:X.env.scope=sc:=by rfl)(d:X.N=N:=by rfl)(h:OQ sc N a e f=true:=by decide+kernel):CompSc X a own e f:=by simp only[OQ,aAF,aCf,decide_eq_true_eq]at h;obtain⟨⟨⟨⟨⟨⟨⟨g,k⟩,l⟩,m⟩,n⟩,o⟩,p⟩,q⟩:=h;subst b d;refine⟨g,k,l,m,n,λi j x r s=>?_,p,q⟩;refine o (j,x) (aAt (i:=i) ?_);rw[aBw];exact⟨r,s⟩
end DL
namespace DL.Att2
open PySem PySem.W PySem.Calls PyProof.Rows
def attach_bits {l:OpenLaw}{n:Nat}{q:cp}{b:List Str}{u:(Str->Option av)->cy->Prop}{v:cu->cy->Prop}{d:DefRec}
  (B:l.most=some n) (m:d.params.defaults=[])
  (call:∀(w:cu) (p e:bb) (mg s:W6) (fa:bp) (o:Obj) (t cd h:av) (a:bp) (vs:List av) (ns:List Int),
   Ground q b [] u w p mg s e.heap->v w e.heap->
   e.heap.get? fa=some o->o.data=.func (docDef d.name d.params d.body d.scope t cd h)->e.heap.CodeRec cd d.name->mg d.name=some (.ref fa)->
   e.heap.get? a=some {cls:=.type "list",data:=.seq vs.toArray}->IntsAre vs ns->ns.length<=n->(∀x∈ns,aAW x<=1048576)->e.gens=#[]->
   f6 (bt l.prog w) callerA (.call (.ref fa) ⟨[.ref a],[]⟩) (λr s'=>r=.ok (.ret (.bool true))/\OldK e.heap s'.heap/\s'.os=e.os/\AllBare s'.gens) e):
  WalkO q b u v l.row.toRowW d [] (λf vs=>PySem.call f vs):=by
 intro w p e mg s G Y fa o t cd h C kV E H I y J L z A as N g O Q T;obtain rfl:C=.none:=Dflts.none y m;obtain rfl:kV=.none:=Dflts.noKw y;obtain⟨a,vs,ns,rfl,rfl,j,i,k⟩:=Att.script_of B N Q;have U:=DL.yZ (ns:=ns) (by first|exact g|exact g.1|(simpa using g));refine enter_call (aDu (call w p e mg s fa o t cd h a vs ns G Y E (fd_plain H) I J j i k U L) λr s' hq=>?_);obtain⟨rfl,h2,h3,h4⟩:=hq;exact⟨.inl ⟨.bool true,.bool true,[],rfl,λ_=>rfl,.bool true,Att.post_true l _,λ_=>⟨aGq,λ_ hm=>(nomatch hm)⟩⟩,h2,h3,h4⟩
end DL.Att2
namespace DL
open PySem PySem.Spec L2
open PyProof.Rows hiding St
variable [Tabs]
end DL
namespace DL
open PySem L2
abbrev bits (a:Int):Nat:=aAW a
def j3 (h:o9 a b):CP (.int a) (.int b)=.ok (.int (a*b)):=h9 h
def rB (h:xM b):Z5 (.int a) (.int b)=.ok (.int (a.fdiv b)):=h9 h
def vZ (h:b≠0):fL (.int a) (.int b)=.ok (.int (a.fmod b)):=h9 h
def o9.of (d:bits a<=m)(e:bits b<=n)(f:m<=60000000:=by decide)(g:n<=60000000:=by decide):o9 a b:=⟨aAq d f,aAq e g⟩
def bits_add (d:bits a<=n)(e:bits b<=n):bits (a+b)<=n+1:=by have:=PyProof.Rows.bits_add d e;rw[Nat.max_self]at this;exact this
def bits_sub (d:bits a<=n)(e:bits b<=n):bits (a-b)<=n+1:=by have:=PyProof.Rows.bits_sub d e;rw[Nat.max_self]at this;exact this
def bits_mul (d:bits a<=m)(e:bits b<=n):bits (a*b)<=m+n:=PyProof.Rows.bits_mul d e
def bits_neg (b:bits a<=m):bits (-a)<=m:=PyProof.Rows.bits_neg b
def DR (h:a.natAbs<2^n):bits a<=n:=PyProof.Rows.intBits_le h
def DO (h:bits a<=n):a.natAbs<2^n:=PyProof.Rows.lt_pow_of_bits h (aAi n)
@[simp]def bI (d:D)(ρ:Ev):bW 0 (Sl.v d::ρ)=.ok d:=rfl
@[simp]def eJ (i:Nat)(x:Sl)(ρ:Ev):bW (i+1) (x::ρ)=bW i ρ:=rfl
@[simp]def kS (d:D)(ρ:Ev):vS 0 (Sl.v d::ρ)=.ok d:=rfl
@[simp]def CQ (d:List D)(ρ:Ev):vS 0 (Sl.o d::ρ)=.ok (.lst d):=rfl
@[simp]def bL (i:Nat)(x:Sl)(ρ:Ev):vS (i+1) (x::ρ)=vS i ρ:=rfl
@[simp]def cR (d:D)(ρ:Ev):TV d ρ=.ok d:=rfl
@[simp]def B9 (ρ:Ev)(F:Ev->R Out):B8 (.ok (.nx ρ)) F=F ρ:=rfl
@[simp]def mz (d:D)(F:Ev->R Out):B8 (.ok (.rt d)) F=.ok (.rt d):=rfl
@[simp]def yw (d:D):M9 (.ok (.rt d))=.ok d:=rfl
@[simp]def yj (ρ:Ev):M9 (.ok (.nx ρ))=.ok .non:=rfl
@[simp]def V8 (f:Ev->R D)(g:Ev->R (List D))(ρ:Ev):l9 f g ρ=(f ρ).bind λd=>(g ρ).bind λds=>.ok (d::ds):=rfl
@[simp]def aI (ρ:Ev):R3 ρ=.ok []:=rfl
@[simp]def a2d (a b:D):qD [a,b]=.ok (.tup [a,b]):=rfl
@[simp]def a2g (a b c:D):qD [a,b,c]=.ok (.tup [a,b,c]):=rfl
@[simp]def a2r (a b c d:D):qD [a,b,c,d]=.ok (.tup [a,b,c,d]):=rfl
@[simp]def a2a (x y z:D):X3 (.tup [x,y,z]) (.int 0)=.ok x:=rfl
@[simp]def a2i (x y z:D):X3 (.tup [x,y,z]) (.int 1)=.ok y:=rfl
@[simp]def a2y (x y z:D):X3 (.tup [x,y,z]) (.int 2)=.ok z:=rfl
@[simp]def a2h (x y z t:D):X3 (.tup [x,y,z,t]) (.int 0)=.ok x:=rfl
@[simp]def a2o (x y z t:D):X3 (.tup [x,y,z,t]) (.int 1)=.ok y:=rfl
@[simp]def a2x (x y z t:D):X3 (.tup [x,y,z,t]) (.int 2)=.ok z:=rfl
@[simp]def a1z (x y z t:D):X3 (.tup [x,y,z,t]) (.int 3)=.ok t:=rfl
@[simp]def a2v (x y:D):X3 (.tup [x,y]) (.int 0)=.ok x:=rfl
@[simp]def a2t (x y:D):X3 (.tup [x,y]) (.int 1)=.ok y:=rfl
def bT (h:nQ Y i=some d):X3 (.lst Y) (.int i)=.ok d:=by simp only[X3,h]
def NC {Y:List D}{i:Int}{d:D}(h:nQ Y i=some d):X3 (.tup Y) (.int i)=.ok d:=by simp only[X3,h]
@[simp]def gI (a b:Int):yE (.int a) (.int b)=.ok (.int (a+b)):=rfl
@[simp]def lL (a b:Int):OV (.int a) (.int b)=.ok (.int (a-b)):=rfl
@[simp]def a0i (a b:Int):jz (.int a) (.int b)=.ok (.bl (decide (a<b))):=rfl
@[simp]def AS (a b:Int):lw (.int a) (.int b)=.ok (.bl (decide (a<=b))):=rfl
@[simp]def pE (a b:Int):VE (.int a) (.int b)=.ok (.bl (decide (b<a))):=rfl
@[simp]def a1x (a:Int):YH (.int a)=.ok (.int (-a)):=rfl
@[simp]def FI (b:Bool):CI (.bl b)=.ok b:=rfl
@[simp]def a2w (b:Int):toI (.int b)=.ok (some b):=rfl
@[simp]def BJ (Y:List D):GZ [.lst Y]=.ok (.int Y.length):=rfl
@[simp]def WR (a:Int):lq [.int a]=.ok (.int (if a<0 then-a else a)):=rfl
@[simp]def KE (a:Bool):kz [.bl a]=.ok (.int (if a then 1 else 0)):=rfl
@[simp]def zj (Y:List D):VU [.lst Y]=.ok (.lst Y):=rfl
@[simp]def uO (f g:Ev->R Bool)(ρ:Ev):zQ f g ρ=(f ρ).bind λb=>if b=true then g ρ else .ok false:=rfl
@[simp]def a1j (f g:Ev->R Bool)(ρ:Ev):zk f g ρ=(f ρ).bind λb=>if b=true then .ok true else g ρ:=rfl
@[simp]def a0n (f g:Ev->R D)(ρ:Ev):orV f g ρ=((f ρ).bind CI).bind λb=>if b=true then .ok (.bl true)else g ρ:=rfl
@[simp]def xx (f:Ev->R D)(ρ:Ev):fj f ρ=((f ρ).bind CI).bind λb=>.ok (.bl (!b)):=rfl
@[simp]def NA (a b:Int):AX (.int a) (.int b)=.ok (.bl (a==b)):=by simp only[AX,E8,u0];rfl
@[simp]def ax (a b:Int):yA (.int a) (.int b)=.ok (.bl (!(a==b))):=by simp only[yA,E8,u0];rfl
@[simp]def YF (a b c d e f:Int):AX (.tup [.int a,.int b,.int c]) (.tup [.int d,.int e,.int f])=.ok (.bl (a==d&&(b==e&&c==f))):=by simp[AX,E8,J5,u0,T2]
@[simp]def zW (a b c d e f:Int):yA (.tup [.int a,.int b,.int c]) (.tup [.int d,.int e,.int f])=.ok (.bl (!(a==d&&(b==e&&c==f)))):=by simp[yA,E8,J5,u0,T2]
def aJ {α:Type}{Y:List α}{k:Int}(h0:0<=k):nQ Y k=Y[k.toNat]?:=by
 unfold nQ zH;rw[h9 h0];by_cases h:k<Y.length
 .rw[h9 h];rfl
 .rw[ic h,aCm.mpr (by omega)];rfl
def bV (n:Nat)(Y:List D):Prop:=∀x∈Y,∃i,x=.int i/\bits i<=n
def QN {n:Nat}{ns:List Int}(h:∀x∈ns,bits x<=n):bV n (ns.map D.int):=λx a=>by obtain⟨i,b,rfl⟩:=aAo.mp a;exact⟨i,rfl,h i b⟩
def qX (g:Int->Int)(Y:List D)(k:Int):D:=match Y[k.toNat]? with
 |some d=>d
 |none=>.int (g k)
def GG (h:bV n Y)(g:Int->Int)(k:Int):∃i,qX g Y k=.int i/\(bits i<=n\/i=g k):=by
 unfold qX;cases e:Y[k.toNat]? with
 |none=>exact⟨_,rfl,.inr rfl⟩
 |some d=>obtain⟨i,rfl,a⟩:=h d (aAt e);exact⟨i,rfl,.inl a⟩
def u9 (b:-((2:Int)^n)<a)(d:a<(2:Int)^n):bits a<=n:=DR (by
 have e:((2^n:Nat):Int)=(2:Int)^n:=by simp
 omega)
def bits_fmod {a b:Int}{n:Nat}(h0:b≠0)(d:bits b<=n):bits (a.fmod b)<=n:=PyProof.Rows.bits_fmod_by h0 d
def bits_fdiv (d:bits a<=n):bits (a.fdiv b)<=n:=PyProof.Rows.bits_fdiv d
def C4 (h:bits a<=m)(b:m<=n:=by decide):bits a<=n:=aAq h b
@[simp]def IH (Y:List D):gO (.lst Y)=.ok Y:=rfl
@[simp]def IM (Y:List D):FR (.tup Y)=.ok Y:=rfl
@[simp]def xk (d:D):seen (.v d)=.v d:=rfl
def VB (x:D)(r:List D):X3 (.tup (x::r)) (.int 0)=.ok x:=NC (by rw[aJ (by decide)];rfl)
def VH (x y:D)(r:List D):X3 (.tup (x::y::r)) (.int 1)=.ok y:=NC (by rw[aJ (by decide)];rfl)
def VG (x y z:D)(r:List D):X3 (.tup (x::y::z::r)) (.int 2)=.ok z:=NC (by rw[aJ (by decide)];rfl)
theorem fP (Iv:Nat->Ev->Prop)(b:∀n ρ,Iv (n+1) ρ->c ρ=.ok false\/(c ρ=.ok true/\∃ρ2,F ρ=.ok (.nx ρ2)/\Iv n ρ2))(a:∀ρ,¬Iv 0 ρ):∀n ρ,Iv n ρ->∃m ρ',R8 c F n ρ=.ok (.nx ρ')/\Iv m ρ'/\c ρ'=.ok false
 |0,ρ,h=>absurd h (a ρ)
 |n+1,ρ,h=>by
  rcases b n ρ h with e|⟨e,ρ2,d,f⟩
  .exact⟨n+1,ρ,by rw[R8,e];rfl,h,e⟩
  .obtain⟨m,ρ',g,i,j⟩:=fP Iv b a n ρ2 f;exact⟨m,ρ',by rw[R8,e];simp only[R.aa0,if_true,d];exact g,i,j⟩
def HC {Iv:Nat->Ev->Prop}(b:∀n ρ,Iv (n+1) ρ->c ρ=.ok false\/(c ρ=.ok true/\∃ρ2,F ρ=.ok (.nx ρ2)/\Iv n ρ2))(h0:Iv n ρ)(f:∀n ρ',Iv n ρ'->c ρ'=.ok false->M9 (g ρ')=.ok d)(a:∀ρ,¬Iv 0 ρ:=by(intro ρ;rintro⟨x,y,_,z,_⟩;omega)):
  M9 (B8 (R8 c F n ρ) g)=.ok d:=by
 obtain⟨m,ρ',e,h,i⟩:=fP Iv b a n ρ h0;rw[e];exact f m ρ' h i
end DL
namespace DL
open PySem PySem.Spec L2
open PyProof.Rows hiding St
section
variable [Tabs]
section
variable{K:jb}
def EnvOk.ae3 (E:EnvOk K e f H O σ ρ)(i:Nat)(h:H a=none)(d:K.lookup a=none)(r:Reps K H O vs Y):
  EnvOk K e f (upd H a (.lst vs)) (λb=>O b\/b=a) (σ.set i (some (.ref a))) (ρ.set i (.o Y)):=
 E.ad8 i h d trivial λg=>⟨a,vs,rfl,.inr rfl,g,i9,r.ab8 h d⟩
def EnvOk.disown (E:EnvOk K f g H O σ ρ)(e:ρ[i]?=some (.o Y)):∃d,EnvOk K f g H d σ (ρ.set i (.v (.lst Y)))/\(∀b,d b->O b):=by obtain⟨a,l,h,m,n,j,k⟩:=E.own i Y e;exact⟨λb=>O b/\b≠a,E.ae8 e trivial h (λz=>z) ⟨.ref a,rfl,.lst (N0.of j) (λz=>z.2 rfl) (k.sub λ_ z=>z.1)⟩,λb z=>z.1⟩
def EnvOk.write (E:EnvOk K j k H O σ ρ)(e:ρ[i]?=some (.o Y))(b:σ[i]?=some (some (V.ref a)))(r:Reps K H O d l):
  EnvOk K j k (upd H a (.lst d)) O σ (ρ.set i (.o l))/\Kp H O (upd H a (.lst d)) O:=by
 obtain⟨f,q,m,g,n,h,s⟩:=E.own i Y e;have p:f=a:=by rw[m]at b;cases b;rfl
 subst p;exact E.ae2 e trivial b h trivial trivial λ_ _ _=>⟨f,d,rfl,g,n,i9,r.upd h trivial g⟩
end
section
def tF (X:Cx)(f:Ev->R (List D)):TE:=λσ H Q=>∃h i O ρ,EnvOk X.K h i H O σ ρ/\match f ρ with
 |.ok j=>∀d b a,Same H b->b a=none->Reps X.K b O d j->Q (.ref a) (upd b a<|.lst d)
 |.ex e=>∀g,Same H g->XW X e g
 |.bad=>False
def PF (X:Cx)(e:cv)(f:Ev->R (List D)):Prop:=PE X e (tF X f)
def JL (I:Inv X b σ H s)(h:H a=some o):X.K.lookup a=none:=by
 cases e:X.K.lookup a with
 |none=>rfl
 |some d=>have:=(I.bs a d<|I.ok.mod.kin a d e).2;rw[h]at this;cases this
def PF.pd (h:PF X e f):PD X e (λρ=>(f ρ).bind λds=>.ok (.lst ds)):=NB h λσ H Q i j O ρ E q=>⟨i,j,O,ρ,E,by
 dsimp only at q;cases b:f ρ with
 |ok ds=>rw[b]at q;intro k l a g d r;exact q _ _ (g.trans<|j5 d _) (.lst (N0.of i9) ((E.grow g).fresh d) (r.same<|j5 d _))
 |ex x=>rw[b]at q;exact q
 |bad=>rw[b]at q;exact q⟩
def pM (h:AH X es f):PF X (.List es pos) (λρ=>(f ρ).bind λds=>if ds.length<=sizeLine then .ok ds else .bad):=
 NB (QA h) λσ H Q e g O ρ E q=>⟨e,g,O,ρ,E,by
  dsimp only at q;cases a:f ρ with
  |ok ds=>
   rw[a,R.aa0]at q;intro i j k d;by_cases b:ds.length<=sizeLine
   .rw[h9 b]at q;exact⟨by rw[d.length];exact b,λp l=>q i j p k l d⟩
   .rw[ic b]at q;exact aAg q
  |ex x=>rw[a]at q;exact q
  |bad=>rw[a]at q;exact q⟩
def cW (i:Nat)(J:PF X e f)(L:X.N.Nodup)(Q:X.N[i]?=some x:=by rfl)(T:Loc X.env.scope x:=by first|exact aCs rfl|exact aBC rfl)(U:et e (some (.Name x h)) pos.line X.env=pure false:=by rfl)(Y:X.fn x=true\/X.env.scope.names.lookup x=some .local:=by first|exact .inl rfl|exact .inr rfl|assumption):
  oZ X (.Assign [.Name x h] e pos) (λρ=>(f ρ).bind λds=>.ok (.nx (ρ.set i (.o ds)))):=by
 rintro u w j s σ H D I ⟨O,ρ,E,fk,q⟩;dsimp only at q;refine aFh (B1 (J j s σ H (λv A=>∃g d a ds,v=.ref a/\A=upd d a (.lst g)/\Same H d/\d a=none/\Reps X.K d O g ds/\RS X u w H O (.ok (.nx (ρ.set i<|.o ds))) D) I ⟨u,w,O,ρ,E,?_⟩) λv B z9=>?_) U
 .cases k:f ρ with
  |ok ds=>rw[k,R.aa0]at q;exactλg d a B l r=>⟨g,d,a,ds,rfl,rfl,B,l,r,q⟩
  |ex x=>rw[k]at q;exactλH' s=>q H' (E.same.trans s)
  |bad=>rw[k]at q;exact q
 .obtain⟨y,A,p,r2,g,d,a,ds,k,e2,m,l,r,q'⟩:=z9;subst k e2;refine V9 p L Q T r2 (λs3 I3=>⟨_,_,I3,?_⟩) Y;have hk:=JL p (i9 (H:=d) (a:=a) (o:=.lst g));have C:=(E.grow m).ae3 i l hk r;refine q' _ _ _ C (qK p _ C.trk) ?_;exactλb o t n=>⟨by rw[k9 (p9 (m b o t) l)];exact m b o t,λz=>z.elim n (p9 (m b o t) l)⟩
def vM (i:Nat)(ρ:Ev):Ev:=match ρ[i]? with
 |some (.o Y)=>ρ.set i (.v (.lst Y))
 |_=>ρ
def tJ (i:Nat){st:dm}(h:oZ X st F):oZ X st (λρ=>F (vM i ρ)):=by
 intro g j f s σ H D I ⟨O,ρ,E,k,q⟩;dsimp only at q;unfold vM at q;cases e:ρ[i]? with
 |none=>rw[e]at q;exact h g j f s σ H D I ⟨O,ρ,E,k,q⟩
 |some l=>
  rw[e]at q;cases l with
  |x C=>exact h g j f s σ H D I ⟨O,ρ,E,k,q⟩
  |c m φ=>exact h g j f s σ H D I ⟨O,ρ,E,k,q⟩
  |d J=>exact h g j f s σ H D I ⟨O,ρ,E,k,q⟩
  |no=>exact h g j f s σ H D I ⟨O,ρ,E,k,q⟩
  |v d=>exact h g j f s σ H D I ⟨O,ρ,E,k,q⟩
  |o Y=>obtain⟨p,r,sub⟩:=E.disown e;exact h g j f s σ H D I ⟨p,_,r,λa o t z=>k a o t (sub a z),RS.grow q λb o u n=>⟨u,λz=>n (sub b z)⟩⟩
def uL (i:Nat)(ρ:Ev)(d:D):R Out:=match ρ[i]? with
 |some (.o Y)=>if Y.length<sizeLine then .ok (.nx (ρ.set i<|.o (Y++[d])))else .bad
 |_=>.bad
def Z7 (i:Nat)(y:PD X e f)(z:X.N[i]?=some x:=by rfl)(A:tE X.env.scope x:=by first|exact aCs rfl|exact aBC (aCs rfl)|exact aBC (aBC rfl))(B:(x==jd)=false:=by decide)(I:(x==ka)=false:=by decide)(L:gv (.Name x p) "append" X.env (dq (.Name x p) X.env)=dq (.Name x p) X.env:=by rfl)(Q:((cz g (a9 [e] X.env)).all (λx=>!x.1)&&(backToKw g (keywordEach [] X.env)).all (λx=>x.1.isSome)
   &&decide ([e].length+([]:List Keyword).length+(if([]:List Keyword).isEmpty then 0 else 1)<30))=true:=by rfl) (T:(b.endLine==g.line)=true:=by rfl) (n:a9 [e] X.env=(false,dq e X.env)::a9 [] X.env:=by rfl) (U:(cz g (a9 [] X.env)).any (·.1)=false:=by rfl) (xb:et (.Call (.Attribute (.Name x p) "append" b) [e] [] g) none pos.line X.env=pure false:=by rfl):
  oZ X (.Expr (.Call (.Attribute (.Name x p) "append" b) [e] [] g) pos) (λρ=>(f ρ).bind (uL i ρ)):=λHa O0=>
 BZ (lT (VS PySem.F.plainAttrs_list PySem.F.slot_list_append PySem.F.type_list_append qZ (M3 z A B I) (i5 y l5 n) L Q T n U) xb) λD σ H O ρ E fk q=>by
 cases j:f ρ with
 |ok d=>
  rw[j,R.aa0]at q;unfold uL at q;cases h:ρ[i]? with
  |none=>rw[h]at q;exact aAg q
  |some r=>
   rw[h]at q;cases r with
   |x C=>exact aAg q
   |c m φ=>exact aAg q
   |d J=>exact aAg q
   |no=>exact aAg q
   |v d=>exact aAg q
   |o Y=>
    dsimp only at q;split at q
    .rename_i hz;obtain⟨a,s,t,h2,h3,u,w⟩:=E.own i Y h;refine⟨_,t,.inl ⟨rfl,s,N0.of u⟩,Ha,O0,O,ρ,E,?_⟩;show FU X H O ((f ρ).bind λd=>(R.ok []).bind λds=>.ok (d::ds)) _;rw[j];intro us H1 k l;cases l with
     |cons l rn=>cases rn;have E1:=E.grow k;refine⟨a,s,_,rfl,rfl,k _ _ u,by rw[w.length];exact hz,?_⟩;obtain⟨E2,k2⟩:=E1.write h t ((w.same k).snoc l);exact q σ _ O E2 fk ((Kp.of k).trans k2)
    .exact aAg q
 |ex x=>
  rw[j]at q;cases h:ρ[i]? with
  |none=>exact(q H E.same).elim
  |some r=>exact(q H E.same).elim
 |bad=>rw[j]at q;exact aAg q
def XU (i:Nat)(ρ:Ev)(d:D):R Out:=match ρ[i]?,d with
 |some (.o Y),.lst N=>if Y.length+N.length<=sizeLine then .ok (.nx (ρ.set i<|.o (Y++N)))else .bad
 |_,_=>.bad
def CH (i:Nat)(ρ:Ev):R (D×Ev):=match ρ[i]? with
 |some (.o Y)=>match Y[Y.length-1]? with
  |some d=>.ok (d,ρ.set i (.o Y.dropLast))
  |none=>.bad
 |_=>.bad
def SY (i:Nat)(n:X.N[i]?=some x:=by rfl)(r:tE X.env.scope x:=by first|exact aCs rfl|exact aBC (aCs rfl)|exact aBC (aBC rfl))(s:(x==jd)=false:=by decide)(t:(x==ka)=false:=by decide)(u:gv (.Name x p) "pop" X.env (dq (.Name x p) X.env)=dq (.Name x p) X.env:=by rfl)(w:(b.endLine==h.line)=true:=by rfl)(y:et (.Call (.Attribute (.Name x p) "pop" b) [] [] h) none pos.line X.env=pure false:=by rfl):
  oZ X (.Expr (.Call (.Attribute (.Name x p) "pop" b) [] [] h) pos) (λρ=>(CH i ρ).bind λz=>.ok (.nx z.2)):=λT U=>
 BZ (lT (MO PySem.F.plainAttrs_list PySem.F.slot_list_pop PySem.F.type_list_pop NH (M3 n r s t) u w) y) λD σ H O ρ E A q=>by
 unfold CH at q;cases e:ρ[i]? with
 |none=>rw[e]at q;exact aAg q
 |some B=>
  rw[e]at q;cases B with
  |x C=>exact aAg q
  |c m φ=>exact aAg q
  |d J=>exact aAg q
  |no=>exact aAg q
  |v d=>exact aAg q
  |o Y=>
   dsimp only at q;cases f:Y[Y.length-1]? with
   |none=>rw[f]at q;exact aAg q
   |some d=>rw[f]at q;obtain⟨a,j,k,h2,h3,l,g⟩:=E.own i Y e;obtain⟨v,I,g2⟩:=g.get f;refine⟨_,k,.inl ⟨rfl,j,N0.of l⟩,a,j,v,rfl,rfl,l,by rw[g.length];exact I,?_⟩;obtain⟨L,Q⟩:=E.write e k g.dropLast;exact q σ _ O L A Q
def BP (j i:Nat)(f:X.N.Nodup)(lg:i≠j:=by decide)(w:X.N[i]?=some x:=by rfl)(A:X.N[j]?=some y:=by rfl)(B:tE X.env.scope x:=by first|exact aCs rfl|exact aBC (aCs rfl)|exact aBC (aBC rfl))(I:(x==jd)=false:=by decide)(L:(x==ka)=false:=by decide)(Q:gv (.Name x p) "pop" X.env (dq (.Name x p) X.env)=dq (.Name x p) X.env:=by rfl)(T:(b.endLine==l.line)=true:=by rfl)(g:Loc X.env.scope y:=by first|exact aCs rfl|exact aBC rfl)(U:et (.Call (.Attribute (.Name x p) "pop" b) [] [] l) (some (.Name y py)) pos.line X.env=pure false:=by rfl)(hf:X.fn y=true\/X.env.scope.names.lookup y=some .local:=by first|exact .inl rfl|exact .inr rfl|assumption):
  oZ X (.Assign [.Name y py] (.Call (.Attribute (.Name x p) "pop" b) [] [] l) pos) (λρ=>(CH i ρ).bind λz=>.ok (.nx (z.2.set j (.v z.1)))):=λHa O0=>
 BZ (OS f A g (MO PySem.F.plainAttrs_list PySem.F.slot_list_pop PySem.F.type_list_pop NH (M3 w B I L) Q T) U hf) λD σ H O ρ E n q=>by
 unfold CH at q;cases e:ρ[i]? with
 |none=>rw[e]at q;exact aAg q
 |some sl=>
  rw[e]at q;cases sl with
  |x C=>exact aAg q
  |c m φ=>exact aAg q
  |d J=>exact aAg q
  |no=>exact aAg q
  |v d=>exact aAg q
  |o Y=>
   dsimp only at q;cases h:Y[Y.length-1]? with
   |none=>rw[h]at q;exact aAg q
   |some d=>rw[h]at q;obtain⟨a,r,s,h2,h3,t,k⟩:=E.own i Y e;obtain⟨v,g1,g2⟩:=k.get h;refine⟨_,s,.inl ⟨rfl,r,N0.of t⟩,a,r,v,rfl,rfl,t,by rw[k.length];exact g1,?_⟩;obtain⟨E2,u⟩:=E.write e s k.dropLast;exact q _ _ O (E2.set j<|u.rep E.trk n g2) n u
def ID (i:Nat)(ρ:Ev)(k d:D):R Out:=match ρ[i]?,k with
 |some (.o Y),.int k=>match zH Y.length k with
  |some j=>.ok (.nx (ρ.set i<|.o (Y.set j d)))
  |none=>.bad
 |_,_=>.bad
def GK (i:Nat)(Q:PD X e f)(T:PD X k g)(U:X.N[i]?=some x:=by rfl)(hv:tE X.env.scope x:=by first|exact aCs rfl|exact aBC (aCs rfl)|exact aBC (aBC rfl))(hd:(x==jd)=false:=by decide)(dn:(x==ka)=false:=by decide)(ha:∀v,f7 (.Subscript (.Name x p) k ps) X.env v=(do
   let h<-fh [v] (dq (.Name x p) X.env)
   let t<-fh [v,h] (dq k X.env)
   standAt ps
   fh [v,h,t] (setItem h t v)
   release [v,h,t] []):=by intro _;rfl) (hs:swapsWithSole [.Subscript (.Name x p) k ps] e pos.line X.env=pure false:=by rfl) (hw:swappedStores [.Subscript (.Name x p) k ps] e X.env=pure none:=by rfl) (l:(dC [.Subscript (.Name x p) k ps] X.env).map (·.2)=[f7 (.Subscript (.Name x p) k ps) X.env]:=by rfl):
  oZ X (.Assign [.Subscript (.Name x p) k ps] e pos) (λρ=>(f ρ).bind λd=>(g ρ).bind λu=>ID i ρ u d):=λA B=>
 BZ (BN Q (BF (M3 U hv hd dn) T xL ha) hs hw l) λD σ H O ρ E fk q=>⟨A,B,O,ρ,E,by
  cases w:f ρ with
  |ok d=>
   rw[w,R.aa0]at q;intro v H1 I r1;have y:=E.grow I;cases n:g ρ with
   |ok u=>
    rw[n,R.aa0]at q;unfold ID at q;cases r:ρ[i]? with
    |none=>rw[r]at q;exact aAg q
    |some sl=>
     rw[r]at q;cases sl with
     |x C=>exact aAg q
     |c m φ=>exact aAg q
     |d J=>exact aAg q
     |no=>exact aAg q
     |v d=>exact aAg q
     |o Y=>
      obtain⟨a,vs,l,h2,h3,h4,L⟩:=y.own i Y r;refine⟨_,l,A,B,O,ρ,y,?_⟩;rw[n];intro kv H2 b r2;have E2:=y.grow b;cases u with
      |int kk=>
       dsimp only at q;cases z:zH Y.length kk with
       |none=>rw[z]at q;exact aAg q
       |some j=>rw[z]at q;cases r2;refine⟨a,vs,kk,j,rfl,rfl,b _ _ h4,by rw[L.length];exact z,?_⟩;obtain⟨E3,k3⟩:=E2.write r l ((L.same b).set (r1.same b) j);exact q σ _ O E3 fk (((Kp.of I).trans (Kp.of b)).trans k3)
      |_=>exact aAg q
   |ex x=>rw[n]at q;exact(q H E.same).elim
   |bad=>rw[n]at q;exact aAg q
  |ex x=>rw[w]at q;exactλH' s=>q H' (E.same.trans s)
  |bad=>rw[w]at q;exact q⟩
def GC (i:Nat)(own fr:List Str)(L:List Nat)(hN:X.N.Nodup)(hc:X.calm=true)(S:CompSc X f own fr L)(hi:TJ X tg v6 fi)(hX:∀(g:K6) (fp:List bp) (X':Cx),(∃sa Hb C,X'=BL X g sa Hb (own++fr) f (aZ X f C) C fp)->IY X' tg G/\QF X' k ft/\PD X' l fe)(hG:∀ρ d ρ1,G d (i8 own L ρ)=.ok ρ1->uD ρ1 (i8 own L ρ))(hy:X.N[i]?=some y:=by rfl)(U:X.env.scope.names.lookup y=some .local:=by rfl)(xb:et (.ListComp l [⟨tg,v6,k,0⟩] f pos) (some (.Name y Y)) spos.line X.env=pure true:=by rfl)(hs:∀x,eN v6 X.env x=pure x:=by intro _;rfl):
  oZ X (.Assign [.Name y Y] (.ListComp l [⟨tg,v6,k,0⟩] f pos) spos) (λρ=>((fi ρ).bind λds=>if ds.length<=sizeLine then(A0 G ft fe (i8 own L ρ) ds).bind λh=>R.ok h else .bad).bind λh=>.ok (.nx (ρ.set i (.o h)))):=by
 rintro Ha O0 g s σ H D I ⟨O,ρ,E,fk,q⟩;dsimp only at q;rw[exec_Assign_Name_used _ _ _ _ xb];refine aAa (aFp<|aAa ?_);show bc _ X.A (do let _<-comprehension (.ListComp l [⟨tg,v6,k,0⟩] f pos) f X.env _ (newList []) false (dq v6 X.env) (some<|f7 (.Name y Y) X.env)) _ _ s;refine aAa (aBG (aDQ (use:=some (f7 (.Name y Y) X.env)) (Q:=λ_ t=>SP X g D .next t) rfl hs (W8<|Inv.aa9 I S) S.kind S.names ?_) (λ_ t hq=>aAb (aAb hq)) λ_ _ e=>e);refine B1 (hi g s σ H (λJ H1=>∃ds h,Same H H1/\VF X.K J H1 O ds/\ds.length<=sizeLine/\A0 G ft fe (i8 own L ρ) ds=.ok h/\RS X Ha O0 H O (.ok (.nx (ρ.set i<|.o h))) D) I ⟨Ha,O0,O,ρ,E,qK I O E.trk,?_⟩) λv s1 h1=>B1 h1 λitv s2 h2=>?_
 .cases e1:fi ρ with
  |ex x=>rw[e1]at q;exactλH' s=>q H' (E.same.trans s)
  |bad=>rw[e1]at q;exact q
  |ok ds=>
   rw[e1,R.aa0]at q;intro J H1 s1 hJ;split at q
   .rename_i hl;cases e2:A0 G ft fe (i8 own L ρ) ds with
    |ex x=>rw[e2]at q;exact(q H E.same).elim
    |bad=>rw[e2]at q;exact q.elim
    |ok h=>rw[e2]at q;exact⟨ds,h,s1,hJ,hl,e2,q⟩
   .exact q.elim
 .obtain⟨it,fp,tn,J,H2,e,I2,T,kh,f2,ds,h,sm,hJ,hl,hrs,q⟩:=h2;subst e;refine pA (RR:=λB C=>compPost (bt X.prog X.w) X.A X.xe (some<|f7 (.Name y Y) X.env) (λ_ t=>SP X g D .next t) B C) hc S (hX g fp) (hG ρ) I2 T kh f2 (E.grow sm) hJ.c hrs hl ?_;intro B C t H' m hn hCa j has sm' r nw hC hI;have I3:=hI t.heap (aGv ..);show bc _ X.A (f7 (.Name y Y) X.env<|.ref B) _ _ t;refine wpAny_assign_Name (qN (i:=i) (v:=.ref B) I3 hN hy (.inl U) rfl (λs4 I4 z9=>?_)<|.inr U);obtain⟨a,hsb,ha⟩:=z9;have ir:∀x c,X.env.cells.lookup x=some c->c≠C:=λx c hc=>by obtain⟨v,hv⟩:=I2.cell x c hc;exact aAk (aAr hv.lt j)
  have hCL:C≠X.env.locals:=aDt (aAr I2.lt j);have hCa2:C≠a:=by
   rcases ha with ha|ha
   .rw[ha];exact hCL
   .exact aBU (ir y a ha)
  refine⟨m,hn.sameBut hsb hCa2,λh' ko=>?_⟩;obtain⟨H1,vs,xa,u,eH,rr⟩:=nw;subst eH;have E2:=((E.grow sm).grow xa).ae3 i u (JL I3<|i9 (H:=H1) (a:=B) (o:=.lst vs)) rr;refine⟨_,_,?_,q _ _ _ E2 (qK I3 _ E2.trk) λb o hb n=>⟨by rw[k9 (p9 ((sm.trans xa) b o hb) u)];exact(sm.trans xa) b o hb,λz=>z.elim n (p9 ((sm.trans xa) b o hb) u)⟩⟩;exact I4.turned (t':=s4.toks) (it:=C) (λb o hb e=>(ko.2 b hb).trans e) hC hCL (.inr (aAq I2.sz j)) ir λp hp=>aAk (aAr (aAf (I2.pin p hp).1) j)
def JV (i:Nat)(own s:List Str)(g:List Nat)(hN:X.N.Nodup)(hc:X.calm=true)(S:CompSc X f own s g)(t:TJ X u v6 L)(hX:∀(h:K6) (fp:List bp) (p:Cx),(∃sa Hb C,p=BL X h sa Hb (own++s) f (aZ X f C) C fp)->IY p u G/\QF p j ft/\PD p l fe)(hG:∀ρ d ρ1,G d (i8 own g ρ)=.ok ρ1->uD ρ1 (i8 own g ρ))(hy:X.N[i]?=some y:=by rfl)(w:X.env.scope.names.lookup y=some .local:=by rfl)(xb:et (.ListComp l [⟨u,v6,j,0⟩] f pos) (some (.Name y py)) m.line X.env=pure true:=by rfl)(hs:∀x,eN v6 X.env x=pure x:=by intro _;rfl):
  oZ X (.Assign [.Name y py] (.ListComp l [⟨u,v6,j,0⟩] f pos) m) (λρ=>((L ρ).bind λds=>if ds.length<=sizeLine then(A0 G ft fe (i8 own g ρ) ds).bind λr=>.ok (D.lst r)else .bad).bind λd=>.ok (.nx (ρ.set i (.v d)))):=λQ T=>BZ (GC i own s g hN hc S t hX hG hy w xb hs Q T) λD σ H O ρ E fk q=>⟨O,ρ,E,fk,by
 dsimp only at q⊢;cases A:L ρ with
 |ex x=>rw[A]at q;exact q
 |bad=>rw[A]at q;exact q
 |ok ds=>
  rw[A,R.aa0]at q;rw[R.aa0];by_cases U:ds.length<=sizeLine
  .rw[h9 U]at q⊢;cases B:A0 G ft fe (i8 own g ρ) ds with
   |ex x=>rw[B]at q;exact q
   |bad=>rw[B]at q;exact q
   |ok r=>
    rw[B]at q;intro ah H' O' I f' J;by_cases t:i<ρ.length
    .obtain⟨O2,E2,sub⟩:=I.disown (i:=i) (Y:=r) (by rw[aBh t]);rw[List.set_set]at E2;exact q ah H' O2 E2 (λa o k z=>f' a o k (sub a z)) λb o hb n=>⟨(J b o hb n).1,λz=>(J b o hb n).2 (sub b z)⟩
    .have e:∀x,ρ.set i x=ρ:=λx=>List.set_eq_of_length_le (by lia);have q:RS X Q T H O (.ok (.nx (ρ.set i<|.v (.lst r)))) D:=q;rw[e]at I q;exact q ah H' O' I f' J
  .rw[ic U]at q;exact aAg q⟩
def iS {st:dm}:oZ X st (λ_=>.bad):=λa b=>BZ ON λD σ H O ρ E d q=>q
end
end
section
theorem aU {α β:Type}[BEq α][LawfulBEq α]:∀{l:List (α×β)} {a:α} {b:β},(l.map (·.1)).Nodup->(a,b)∈l->l.lookup a=some b
 |(x,y)::l,a,b,h,f=>by
  rw[aAp,aAS]at h;rw[aBa];rcases aAd.mp f with e|d
  .cases e;simp
  .have:(a==x)=false:=by rw[beq_eq_false_iff_ne];rintro rfl;exact h.1 (aAo.mpr ⟨(a,b),d,rfl⟩)
   rw[this];exact aU h.2 d
theorem mem_lookup {α β:Type}[BEq α][LawfulBEq α]:∀{l:List (α×β)} {a:α} {b:β},l.lookup a=some b->(a,b)∈l
 |(x,y)::l,a,b,h=>by
  rw[aBa]at h;split at h
  .rename_i q;cases h;rw[eq_of_beq q];exact .head _
  .exact .tail _ (mem_lookup h)
def uA (o:Obj):Prop:=∃v,o.data=.cell v
def cK (H:Hp)(cs:K6):Hp:=λb=>match cs.lookup b with
 |some o=>some (.frz o (.own b))
 |none=>H b
def Q7 (H:Hp)(cs:K6):Hp:=λb=>match cs.lookup b with
 |some _=>none
 |none=>H b
section
variable{K:jb}
def dJ (e:cs.lookup b=some o):cK H cs b=some (.frz o (.own b)):=by unfold cK;rw[e]
def Q5 (e:cs.lookup b=none):cK H cs b=H b:=by unfold cK;rw[e]
def bC (e:cs.lookup b=some o):Q7 H cs b=none:=by unfold Q7;rw[e]
def M0 (e:cs.lookup b=none):Q7 H cs b=H b:=by unfold Q7;rw[e]
def D8 (a:∀b o,cs.lookup b=some o->H b=none)(e:H b=some u):cK H cs b=some u:=by
 cases q:cs.lookup b with
 |none=>rw[Q5 q];exact e
 |some o=>rw[a b o q]at e;cases e
def dD (a:∀b o,cs.lookup b=some o->H b=none):Same H (cK H cs):=λb u e=>D8 a e
def v8 (a:∀b o,cs.lookup b=some o->H b=some (.frz o (.own b)))(e:H b=some u)(ne:∀o,cs.lookup b=some o->u≠.frz o (.own b)):Q7 H cs b=some u:=by
 cases q:cs.lookup b with
 |none=>rw[M0 q];exact e
 |some o=>rw[a b o q]at e;cases e;exact absurd rfl (ne o q)
def PC (x:Y3 P w H h)(a:∀b o,cs.lookup b=some o->h.get? b=some o/\H b=none):Y3 P w (cK H cs) h:=λb u e=>by
 have d:∀b o,cs.lookup b=some o->H b=none:=λb o q=>(a b o q).2;cases q:cs.lookup b with
 |some o=>rw[dJ q]at e;cases e;exact⟨(a b o q).1,⟨o,(a b o q).1⟩⟩
 |none=>rw[Q5 q]at e;exact(x b u e).ab5 (λ_ _ _ z=>z) (λc z=>D8 d z) λc u _ z=>D8 d z
def NJ (x:Y3 P w H h)(d:∀b o,cs.lookup b=some o->H b=some (.frz o (.own b))/\uA o):Y3 P w (Q7 H cs) h:=λb u e=>by
 have g:∀b o,cs.lookup b=some o->H b=some (.frz o (.own b)):=λb o q=>(d b o q).1;cases q:cs.lookup b with
 |some o=>rw[bC q]at e;cases e
 |none=>rw[M0 q]at e;refine(x b u e).ab5 (λ_ _ _ z=>z) (λc z=>v8 g z λo _ a=>by cases a) λc u f z=>v8 g z λo q a=>?_;subst a;obtain⟨k,j⟩:=f;obtain⟨v,i⟩:=(d c o q).2;rw[j]at i;cases i
def WU (U:Un fs [] (cK H cs) g h h')(k:Y3 P w g h')(i:∀b o,cs.lookup b=some o->h.get? b=some o/\H b=none/\uA o):Un fs [] H (Q7 g cs) h h'/\Y3 P w (Q7 g cs) h'/\∀b o,cs.lookup b=some o->g b=some (.frz o (.own b)):=by
 have j:∀b o,cs.lookup b=some o->H b=none:=λb o q=>(i b o q).2.1;have a:∀b o,cs.lookup b=some o->g b=some (.frz o (.own b)):=λb o q=>U.frzs b o _ (dJ q);refine⟨⟨λb o e n l d=>?_,λb o e n l d=>?_,λb o e n d=>?_,λb o e d=>U.there b o e d,λb Y e=>?_,λb o u e=>?_,λb m e=>?_⟩,NJ k λb o q=>⟨a b o q,(i b o q).2.2⟩,a⟩
 .cases q:cs.lookup b with
  |none=>exact U.keep b o e (by rw[Q5 q];exact n) l d
  |some f=>have:=(i b f q).1;rw[e]at this;cases this;exact(k b _<|a b o q).1
 .cases q:cs.lookup b with
  |none=>exact U.slot b o e (by rw[Q5 q];exact n) l d
  |some f=>have:=(i b f q).1;rw[e]at this;cases this;exact⟨o.slots,(k b _<|a b o q).1⟩
 .cases q:cs.lookup b with
  |none=>rw[M0 q];exact U.free b o e (by rw[Q5 q];exact n) d
  |some f=>exact bC q
 .exact v8 a (U.tups b Y<|D8 j e) λo _ z=>by cases z
 .refine v8 a (U.frzs b o u<|D8 j e) λf q z=>?_;rw[j b f q]at e;cases e
 .exact v8 a (U.tbls b m<|D8 j e) λo _ z=>by cases z
def ZE (U:Un fs [] (Q7 H cs) f h h')(k:Y3 P w f h')(i:∀b o,cs.lookup b=some o->h.get? b=some o/\H b=some (.frz o (.own b))/\b∉fs):Un fs [] H (cK f cs) h h'/\Y3 P w (cK f cs) h'/\Same f (cK f cs):=by
 have j:∀b o,cs.lookup b=some o->H b=some (.frz o (.own b)):=λb o q=>(i b o q).2.1;have g:∀b o,cs.lookup b=some o->f b=none:=λb o q=>U.free b o (i b o q).1 (bC q) (by simp);have m:∀b o,cs.lookup b=some o->h'.get? b=some o:=λb o q=>U.keep b o (i b o q).1 (bC q) (i b o q).2.2 (by simp);have a:∀b,H b=none->cs.lookup b=none:=λb n=>by
  cases q:cs.lookup b with
  |none=>rfl
  |some o=>rw[j b o q]at n;cases n
 refine⟨⟨λb o e n l d=>U.keep b o e (by rw[M0 (a b n)];exact n) l d,λb o e n l d=>U.slot b o e (by rw[M0 (a b n)];exact n) l d,λb o e n d=>?_,λb o e d=>U.there b o e d,λb Y e=>?_,λb o u e=>?_,λb p e=>?_⟩,
  PC k λb o q=>⟨m b o q,g b o q⟩,dD g⟩
 .rw[Q5 (a b n)];exact U.free b o e (by rw[M0 (a b n)];exact n) d
 .exact D8 g (U.tups b Y (v8 j e λo _ z=>by cases z))
 .cases q:cs.lookup b with
  |none=>exact D8 g (U.frzs b o u (by rw[M0 q];exact e))
  |some r=>rw[j b r q]at e;cases e;exact dJ q
 .exact D8 g (U.tbls b p (v8 j e λo _ z=>by cases z))
def DX (d:∀b o,cs.lookup b=some o->H b=some (.frz o (.own b)))(q:W0 K H a Y):W0 K (Q7 H cs) a Y:=by
 rcases q with(q|⟨o,q⟩)|q
 .exact .inl (.inl (v8 d q λo _ z=>by cases z))
 .exact .inl (.inr ⟨o,v8 d q λo _ z=>by cases z⟩)
 .exact .inr q
def FJ (d:∀b o,cs.lookup b=some o->H b=some (.frz o (.own b)))(q:N0 K H a Y):N0 K (Q7 H cs) a Y:=by
 rcases q with(q|⟨o,q⟩)|q
 .exact .inl (.inl (v8 d q λo _ z=>by cases z))
 .exact .inl (.inr ⟨o,v8 d q λo _ z=>by cases z⟩)
 .exact .inr q
def EZ {cs:K6}{φ:cy->Prop}(a:∀b o,cs.lookup b=some o->H b=some (.frz o (.own b)))(q:H b=some (.ext φ)):Q7 H cs b=some (.ext φ):=by
 unfold Q7;cases e:cs.lookup b with
 |none=>simpa[e]using q
 |some o=>have:=a b o e;rw[q]at this;cases this
def Rep.hid (a:∀b o,cs.lookup b=some o->H b=some (.frz o (.own b)))(r:Rep K H O v d):Rep K (Q7 H cs) O v d:=r.mono (λ_ _ q=>DX a q) (λ_ _ n q=>⟨n,FJ a q⟩) λb φ n q=>⟨n,EZ a q⟩
def Reps.hid (a:∀b o,cs.lookup b=some o->H b=some (.frz o (.own b)))(r:Reps K H O v d):Reps K (Q7 H cs) O v d:=r.mono (λ_ _ q=>DX a q) (λ_ _ n q=>⟨n,FJ a q⟩) λb φ n q=>⟨n,EZ a q⟩
end
variable [Tabs]
section
variable(P:cp) (w:cu) (K:jb) (mg:W6) (base:cy) (k:Nat)
def JB (n:Nat)(m:List D->R D)(H:Hp)(O:bp->Prop)(a:bp):Prop:=
 (∃i j l p,H a=some (.frz ⟨i,j,.func l,p⟩ (.own a)))/\
 ∀(A:cq) (b:List Env) (s:bb) (g:List av) (h:List V) (e:List D) (d:D) (Q:VK) (E:XK),Room k A->Env0 P w K mg base A b s H->l4 h g->Reps K H O h e->e.length=n->(∀a,O a->∃o,H a=some o/\Mt o)->Tb H->Q1 K O->m e=.ok d->
  (∀v f,Same H f->Rep K f O v d->Q v f)->f6 (bt P w) A (.call (.ref a) ⟨g,[]⟩) (CR tW b P w H s Q E) s
end
open Classical in
def callC (Φ:(List D->R D)->Hp->(bp->Prop)->bp->Prop) (i:Nat) (f:Ev->R (List D)):Ev->R D:=λρ=>match ρ[i]? with
 |some (.c m φ)=>if φ=Φ m then(f ρ).bind m else .bad
 |_=>.bad
section
def JH (i:Nat)(ha:AH X (e::es) f)(hl:yF f n)(hr:Room k X.A)(hN:X.N[i]?=some x:=by rfl)(hv:tE X.env.scope x:=by first|exact aCs rfl|exact aBC (aCs rfl)|exact aBC (aBC rfl))(hd:(x==jd)=false:=by decide)(dn:(x==ka)=false:=by decide)(he:a9 (e::es) X.env=(false,dq e X.env)::a9 es X.env:=by rfl)(bg:(cz pos (a9 es X.env)).any (·.1)=false:=by rfl):
  PD X (.Call (.Name x p) (e::es) [] pos) (callC (JB X.prog X.w X.K X.mg X.base k n) i f):=by
 refine rL λb s σ H Q I Ha O0 O ρ E q=>?_;unfold callC at q;cases t:ρ[i]? with
 |none=>rw[t]at q;exact q.elim
 |some j=>
  rw[t]at q;cases j with
  |c m φ=>
   dsimp only at q;split at q
   .rename_i y;subst y;obtain⟨a,h1,L⟩:=E.slot i _ t;obtain⟨⟨T,U,Y,j,hf⟩,_⟩:=L H O (Kp.refl _ _);refine aAQ (B1 (M3 hN hv hd dn b s σ H (λv H'=>v=.ref a/\H'=H) I ⟨_,h1,rfl,rfl⟩) λu s1 z9=>?_);obtain⟨v,H1,I1,r1,ev,eH⟩:=z9;subst ev eH;obtain rfl:u=aCU a:=r1;refine PySem.W.callWith_F ⟨T,U,Y,j,(I1.hok a _ hf).1⟩ (B1 (ha pos b s1 σ H1 _ I1 ⟨Ha,O0,O,ρ,E,FU.seq q⟩) λus s2 ⟨vs,H2,l,rv,B,e2,C,rr,g⟩=>⟨⟨T,U,Y,j,(l.hok a _<|C _ _ hf).1⟩,?_⟩) he bg;cases o:m B with
    |ex z=>rw[o]at g;exact(g H2<|Same.refl _).elim
    |bad=>rw[o]at g;exact g.elim
    |ok d=>
     rw[o]at g;have J:=E.grow C;refine aFR (aDu ((L H2 O<|Kp.of C).2 X.A X.stack s2 us vs B d Q (λ_ _ _=>False) hr l.ae5 rv rr (hl ρ B e2) J.trk J.tab (qK l O J.trk) o g) λr s' h=>?_);cases r with
     |error e=>exact h.elim
     |ok fl=>
      cases fl with
      |ret u=>exact l.after h
      |next=>exact aAg h
      |brk=>exact aAg h
      |cont=>exact aAg h
   .exact q.elim
  |_=>exact q.elim
end
def yq (K:jb)(Φ:(List D->R D)->Hp->(bp->Prop)->bp->Prop)(M:D->(List D->R D)->(List D->R D)->R D):Sp:=λl H Q _=>∃O v1 g h i j k d,l=[v1,.ref h,.ref j]/\Rep K H O v1 g/\(∀b e,Kp H O b e->Φ i b e h)/\(∀b e,Kp H O b e->Φ k b e j)/\
 (∀a,O a->∃o,H a=some o/\Mt o)/\Tb H/\Q1 K O/\M g i k=.ok d/\∀v f,Same H f->Rep K f O v d->Q v f
def iU (N:List Str)(Φ:(List D->R D)->Hp->(bp->Prop)->bp->Prop)(d:D)(a b:List D->R D):Ev:=.v d::.c a (Φ a)::.c b (Φ b)::aCO (N.length-3) Sl.no
def BK {K:jb}{H:Hp}{O:bp->Prop}{N:List Str}{v1:V}{f:D}{a1 a2:bp}{g k:List D->R D}{Φ:(List D->R D)->Hp->(bp->Prop)->bp->Prop}(r:Rep K H O v1 f)(l:∀d e,Kp H O d e->Φ g d e a1)(m:∀d e,Kp H O d e->Φ k d e a2)
  (t:∀a,O a->∃o,H a=some o/\Mt o) (tb:Tb H):EnvOk K H O H O (start N [v1,.ref a1,.ref a2]) (iU N Φ f g k)where
 len:=by simp[L2.start,iU]
 same:=Same.refl H
 sub:=λ_ h=>h
 trk:=t
 trk0:=λa h=>let⟨o,q,_⟩:=t a h;⟨o,q⟩
 tab:=tb
 slot:=λi n h=>by
  match i with
  |0=>cases h;exact⟨v1,rfl,r⟩
  |1=>cases h;exact⟨a1,rfl,l⟩
  |2=>cases h;exact⟨a2,rfl,m⟩
  |i+3=>
   have b:(aCO (N.length-3) Sl.no)[i]?=some n:=h;rw[aBq]at b;split at b
   .cases b;trivial
   .cases b
 inj:=λi j x y a h _ o=>by
  match i with
  |0=>cases h;exact o.elim
  |1=>cases h;exact o.elim
  |2=>cases h;exact o.elim
  |i+3=>
   have b:(aCO (N.length-3) Sl.no)[i]?=some x:=h;rw[aBq]at b;split at b
   .cases b;exact o.elim
   .cases b
section
variable{K:jb}
def fnF {x qual:Str}{st:dm}{f:bp}{fd:dA}{N ps:List Str}{k:Nat}{M:D->(List D->R D)->(List D->R D)->R D}{Φ:(List D->R D)->Hp->(bp->Prop)->bp->Prop}{F:Ev->R Out}(m:Fun K x qual st f fd)(S:FnScope N ps (c6 st))(n:ps.length=3)
  (p:∀(U:av) (A:cq) (a:List Env) (s:bb) (H:Hp) (E:XK),Room k (A.deeper (envOfC qual (c6 st) s.heap.objs.size f U))->Y0 (TX P w K mg base N qual (c6 st) f U A a s H E) (p5 st) F)
  (t:∀g i j d,M g i j=.ok d->M9 (F (iU N Φ g i j))=.ok d):FnOk P w K mg base tW (k+1) f fd ps (yq K Φ M):=by
 refine m.ok S (λu H Q E z=>by obtain⟨O,v1,g,v,i,y,j,d,e,_⟩:=z;rw[e,n];rfl) (λU A a s H u Q E B z=>?_);obtain⟨O,v1,g,v,i,y,j,d,C,r,I,J,L,T,Y,e,q⟩:=z;subst C;refine⟨_,p U A a s H E B H O,O,_,BK r I J L T,Y,?_⟩;have h:=t g i j d e;cases l:F (iU N Φ g i j)with
 |ok o=>
  rw[l]at h;cases o with
  |rt d'=>have b:R.ok d'=R.ok d:=h;injection b with b;subst b;exact q
  |nx ρ=>have b:R.ok D.non=R.ok d:=h;injection b with b;subst b;exactλah H' O' E' _ _=>q .non H' E'.same .non
  |bk ρ=>cases h
  |ct ρ=>cases h
 |ex x=>rw[l]at h;cases h
 |bad=>rw[l]at h;cases h
end
structure NScope (ps ls fn:List Str)(sc:Scope):Prop where
 kind:sc.kind=.function
 co:sc.isCoroutine=false
 gen:sc.isGenerator=false
 nd:(ps++(ls++fn)).Nodup
 par:∀x∈ps,sc.names.lookup x=some .local
 fre:∀x∈fn,sc.names.lookup x=some .free
 all:∀x,sc.names.lookup x=some .free->x∈fn
 nocell:∀y∈sc.names,y.2≠.cell
abbrev uq (P:cp)(w:cu)(K:jb)(mg:W6)(base:cy)(N:List Str)(env:Env)(A:cq)(outer:List Env)(s:bb)(H:Hp):Cx where
 prog:=P
 w:=w
 K:=K
 mg:=mg
 base:=base
 A:=A.deeper env
 N:=N
 sa:=s
 Ha:=H
 env:=env
 outer:=outer
 stack:=env::outer
 ex:=[]
 calm:=true
 fn:=λ_=>false
 pn:=[]
 xe:=λ_ _=>False
def M4 {α:Type}(vs:List α)(n:Nat)(no:α)(ws:List α):List α:=vs++(aCO n no++ws)
def fE {α:Type}{vs ws:List α}{n i:Nat}{no a:α}(h:(M4 vs n no ws)[i]?=some a):vs[i]?=some a\/a=no\/(vs.length+n<=i/\ws[i-(vs.length+n)]?=some a):=by
 unfold M4 at h;by_cases d:i<vs.length
 .rw[aAT d]at h;exact .inl h
 .rw[aAA (by lia)]at h;by_cases b:i-vs.length<n
  .rw[aAT (by simpa using b),aBq,h9 b]at h;exact .inr (.inl (Option.some.inj h).symm)
  .rw[aAA (by simpa using b),aCo]at h;exact .inr (.inr ⟨by lia,by rw[show i-(vs.length+n)=i-vs.length-n by lia];exact h⟩)
def OF {α:Type}{vs ws:List α}{n i:Nat}{no a:α}(h:vs[i]?=some a):(M4 vs n no ws)[i]?=some a:=by unfold M4;rw[aAT (aAy.mp h).1];exact h
def NL {α:Type}{vs ws:List α}{n i:Nat}{no a:α}(h:ws[i]?=some a):(M4 vs n no ws)[vs.length+n+i]?=some a:=by unfold M4;rw[aAA (by lia),aAA (by simp;lia),aCo,show vs.length+n+i-vs.length-n=i by lia];exact h
section
variable{K:jb}
def CM {A:cq}{g:List Env}{s:bb}{H:Hp}{L:List av}{vs wv:List V}{h₁:cy}{tk:Nat}(S:NScope ps k fn d)(Q:A.handled=none)(j:Env0 P w K mg base A g s H)(B:vs.length=ps.length)(r:l4 vs L)(N:wv.length=fn.length)
  (O:∀(i:Nat) (x:Str) (v:V),fn[i]?=some x->wv[i]?=some v->∃c u,clos.lookup x=some c/\RelV v u/\s.heap.IsCell c (some u)) (t:∀x c,clos.lookup x=some c->(∃v,s.heap.IsCell c v)/\H c=none)
  (T:∀x y c,clos.lookup x=some c->clos.lookup y=some c->x=y) (U:h₁.Ns s.heap.objs.size (λx=>(ps.zip L).reverse.lookup x)) (C:∀b o,s.heap.get? b=some o->h₁.get? b=some o):
  Inv (uq P w K mg base (ps++(k++fn)) (PySem.W.envX qual d s.heap.objs.size fa cd clos) A g s H) [] (M4 (vs.map some) k.length none (wv.map some)) H {s with heap:=h₁,toks:=tk}:=by
 have l:∀b:bp,b∉(uq P w K mg base (ps++(k++fn)) (PySem.W.envX qual d s.heap.objs.size fa cd clos) A g s H).ex:=λb z=>absurd (show b∈([]:List bp)from z) (by simp);have I:ps.Nodup:=(aCT.mp S.nd).1;refine⟨⟨j.mod,S.kind,rfl,rfl,aAi _,T,λy m=>?_,λy c Y _=>(by cases Y),λ_=>Q,aFW j.frames,.inr ⟨rfl,rfl⟩,λb z=>absurd z (l b),j.bs,j.bsz,λb _ _=>l b,λb z=>absurd z (l b),j.funs,j.frf⟩,
  rfl,j.bare,Un.kept C,⟨_,U,λi y v h1 f h3=>?_⟩,λy c h=>?_,j.hok.fresh (aAi _),λy c h=>(t y c h).2,λp hp=>absurd (show p∈([]:K6)from hp) (by simp),j.hok.kept C,?_⟩
 .have m:d.names.lookup y=some .cell\/d.names.lookup y=some .free:=m;rcases m with m|m
  .exact absurd rfl (S.nocell _<|PySem.mem_of_lookup m)
  .have hm:=S.all y m;obtain⟨i,E,e⟩:=aBo hm;have hw:i<wv.length:=by rw[N];exact E
   obtain⟨c,u,q,_⟩:=O i y wv[i] (by rw[aAj E,e]) (aAj hw);exact⟨c,q⟩
 .have n:(ps++(k++fn))[i]?=some y:=h1;rcases fE f with f|f|⟨h4,f⟩
  .rw[aAI]at f;cases e:vs[i]? with
   |none=>rw[e]at f;cases f
   |some a=>
    rw[e]at f;have J:a=v:=Option.some.inj (Option.some.inj f);subst J;obtain⟨u,hu,rv⟩:=r.get e;have E:i<ps.length:=by rw[<-B];exact(aAy.mp e).1
    rw[aAT E]at n;refine⟨u,rv,.inl ⟨S.par y (aAt n),?_⟩⟩;refine aU ?_ ?_
    .rw[aFx];refine(List.reverse_perm _).nodup_iff.mpr ?_;rw[List.map_fst_zip (by rw[<-B,r.length];exact aAi _)];exact I
    .rw[aCv];exact aAt (i:=i) (by rw[aBw];exact⟨n,hu⟩)
  .cases f
  .rw[aAh]at h4 f;rw[aAI]at f;cases e:wv[i-(vs.length+k.length)]? with
   |none=>rw[e]at f;cases f
   |some a=>rw[e]at f;have J:a=v:=Option.some.inj (Option.some.inj f);subst J;rw[aAA (by lia),aAA (by lia),<-B,show i-vs.length-k.length=i-(vs.length+k.length)by lia]at n;obtain⟨c,u,q1,q2,q3⟩:=O _ y a n e;exact⟨u,q2,.inr ⟨.inr (S.fre y<|aAt n),c,q1,q3.keeps C⟩⟩
 .obtain⟨⟨v,z⟩,_⟩:=t y c h;exact⟨v,z.keeps C⟩
 .unfold M4;simp[B,N]
def BV {H:Hp}{O:bp->Prop}{vs wv:List V}{ds wd:List D}{n:Nat}(r:Reps K H O vs ds)(k:Reps K H O wv wd)(t:∀a,O a->∃o,H a=some o/\Mt o)(tb:Tb H):
  EnvOk K H O H O (M4 (vs.map some) n none (wv.map some)) (M4 (ds.map Sl.v) n .no (wd.map Sl.v))where
 len:=by unfold M4;simp[r.length,k.length]
 same:=Same.refl H
 sub:=λ_ h=>h
 trk:=t
 trk0:=λa h=>let⟨o,q,_⟩:=t a h;⟨o,q⟩
 tab:=tb
 slot:=λi l h=>by
  rcases fE h with h|h|⟨m,h⟩
  .rw[aAI]at h;cases e:ds[i]? with
   |none=>rw[e]at h;cases h
   |some d=>rw[e]at h;have b:Sl.v d=l:=Option.some.inj h;subst b;obtain⟨v,f,g⟩:=r.get e;exact⟨v,OF (by rw[aAI,f];rfl),g⟩
  .subst h;trivial
  .rw[aAI,aAh]at h;rw[aAh]at m;cases e:wd[i-(ds.length+n)]? with
   |none=>rw[e]at h;cases h
   |some d=>rw[e]at h;have b:Sl.v d=l:=Option.some.inj h;subst b;obtain⟨v,f,g⟩:=k.get e;refine⟨v,?_,g⟩;have:=NL (vs:=vs.map some) (n:=n) (no:=(none:Option V)) (ws:=wv.map some) (i:=i-(ds.length+n)) (a:=some v) (by rw[aAI,f];rfl);rw[aAh,r.length,show ds.length+n+(i-(ds.length+n))=i by lia]at this;exact this
 inj:=λi j x y a h _ o=>by
  rcases fE h with h|h|⟨_,h⟩
  .obtain⟨d,_,rfl⟩:=aAo.mp (aAt h);exact o.elim
  .subst h;exact o.elim
  .obtain⟨d,_,rfl⟩:=aAo.mp (aAt h);exact o.elim
def YW {name:Str}{j:Arguments}{body:List dm}{doc pm ctv:av}{L:bp}{oc:Obj}{k:Nat}{m:List D->R D}{F:Ev->R Out}{H:Hp}{O:bp->Prop}{cs:K6}{wv:List V}{wd:List D}(S:NScope ps ls fn g)
  (hb:∀(A:cq) (f:List Env) (s:bb) (H:Hp),Room k (A.deeper (PySem.W.envX qual g s.heap.objs.size fa (.ref L) clos))->Y0 (uq P w K mg base (ps++(ls++fn)) (PySem.W.envX qual g s.heap.objs.size fa (.ref L) clos) A f s H) body F)
  (hm:∀ds d,ds.length=ps.length->m ds=.ok d->M9 (F (M4 (ds.map Sl.v) ls.length .no (wd.map Sl.v)))=.ok d)
  (xc:∀(s:bb) (T:List av),T.length=ps.length->BindsTo s (PySem.W.fnX name qual j body g clos .none .none doc pm none (.ref L) ctv) ⟨T,[]⟩ (ps.zip T))
  (hfa:H fa=some (.frz (PySem.W.fnMade name qual j body g clos doc pm L ctv) (.own fa))) (hc:H L=some (.frz oc (.own L))) (uh:∃vs t,oc.data=.fields vs/\vs[1]?=some (.str qual t))
  (wc:∀b o,cs.lookup b=some o->H b=some (.frz o (.own b))/\uA o) (qd:∀(i:Nat) (x:Str) (v:V),fn[i]?=some x->wv[i]?=some v->∃c u o,clos.lookup x=some c/\cs.lookup c=some o/\o.data=.cell (some u)/\RelV v u)
  (hcc:∀x c,clos.lookup x=some c->∃o,cs.lookup c=some o) (og:∀x y c,clos.lookup x=some c->clos.lookup y=some c->x=y) (ud:wv.length=fn.length) (hr:Reps K H O wv wd) (hO:∀a,O a->∃o,H a=some o/\Mt o):
  ∀l U,Kp H O l U->JB P w K mg base (k+1) ps.length m l U fa:=by
 intro l U kp;have fz:∀b o u,H b=some (.frz o u)->l b=some (.frz o u):=λb o u e=>(kp b _ e λz=>by obtain⟨o',q,mt⟩:=hO b z;rw[e]at q;cases q;exact mt).1;have N:∀b o,cs.lookup b=some o->l b=some (.frz o (.own b)):=λb o q=>fz _ _ _ (wc b o q).1;refine⟨⟨_,_,_,_,fz _ _ _ hfa⟩,λA f s T vs ds d Q E oo B rv rr hl ht tb fk em q=>?_⟩;have KX:K.In s.heap:=B.mod.kin.keeps λb o e=>(B.bs b o e).1;have lim:s.heap.NoLimit:=B.mod.nolimit.keeps λb o e=>(B.bs b o e).1;have gfa:=(B.hok fa _<|fz _ _ _ hfa).1;have goc:=(B.hok L _<|fz _ _ _ hc).1;obtain⟨ovs,ot,od1,od2⟩:=uh;have Y:∀b,l b=none->Q7 l cs b=none:=λb n=>by
  cases z:cs.lookup b with
  |none=>rw[M0 z];exact n
  |some o=>exact bC z
 have e1:Env0 P w K mg base A f s (Q7 l cs):=⟨B.frames,B.mod,λb o e=>⟨(B.bs b o e).1,Y b (B.bs b o e).2⟩,B.bsz,B.funs,λb hb=>Y b (B.frf b hb),NJ B.hok λb o z=>⟨N b o z,(wc b o z).2⟩,B.bare⟩;have zf:∀b o,cs.lookup b=some o->s.heap.get? b=some o:=λb o z=>(B.hok b _<|N b o z).1;have cfs:∀b o,cs.lookup b=some o->b∉V6 f:=λb o z hb=>by have:=B.frf b hb;rw[N b o z]at this;cases this
 have hul:T.length=ps.length:=by rw[<-rv.length,rr.length];exact hl
 have hvl:vs.length=ps.length:=by rw[rr.length];exact hl
 have rwv:Reps K (Q7 l cs) U wv wd:=(kp.ac8 hO fk hr).hid N;have tb1:Tb (Q7 l cs):=λp hp=>v8 N (tb p hp) λo _ z=>by cases z
 have ht1:∀a,U a->∃o,Q7 l cs a=some o/\Mt o:=λa z=>by obtain⟨o,q1,q2⟩:=ht a z;exact⟨o,v8 N q1 λo' _ z'=>by subst z';exact q2,q2⟩
 let Q':VK:=λv H3=>(∀b o,cs.lookup b=some o->H3 b=none)->Q v (cK H3 cs)
 have qq:∀v C,Same (Q7 l cs) C->Rep K C U v d->Q' v C:=λv C sm r hn=>by
  refine q v _ (λb u e=>?_) (r.same<|dD hn);cases z:cs.lookup b with
  |none=>exact D8 hn (sm b u (by rw[M0 z];exact e))
  |some o=>rw[N b o z]at e;cases e;exact dJ z
 have fin:∀{u:av} {s':bb},CE f P w (Q7 l cs) s Q' u s'->CE f P w l s Q u s':=λ{u s'} ⟨v,H3,os,bare,un,hok,r,qv⟩=>by obtain⟨U2,k2,qu⟩:=ZE un hok λb o z=>⟨zf b o z,N b o z,cfs b o z⟩;exact⟨v,_,os,bare,U2,k2,r,qv λb o z=>un.free b o (zf b o z) (bC z) (by simp)⟩
 refine codeAny_call_def (fd:=PySem.W.fnX name qual j body g clos .none .none doc pm none (.ref L) ctv) (body:=body) (binds:=ps.zip T) oo.depth gfa rfl lim ⟨L,oc,ovs,ot,rfl,goc,od1,od2⟩ rfl (xc s T hul) S.nocell (λy hy=>S.par y.1 (aDT hy).1) (λh₁ za hk=>?_) S.co S.gen S.kind;show bc (bt P w) (A.deeper<|PySem.W.envX qual g s.heap.objs.size fa (.ref L) clos) (execs body<|PySem.W.envX qual g s.heap.objs.size fa (.ref L) clos) _ _ _;have I:=CM (qual:=qual) (fa:=fa) (cd:=.ref L) (clos:=clos) (tk:=s.toks+(ps.zip T).length) S oo.hd e1 hvl rv ud (λi x v h1 h2=>by
   obtain⟨c,u,o,q1,q2,q3,q4⟩:=qd i x v h1 h2;exact⟨c,u,q1,q4,o,zf c o q2,q3⟩) (λx c h=>by
   obtain⟨o,z⟩:=hcc x c h;obtain⟨v,z2⟩:=(wc c o z).2;exact⟨⟨v,o,zf c o z,z2⟩,bC z⟩) og za hk
 have hx:=hb A f s (Q7 l cs) (oo.deeper _) (Q7 l cs) U [] _ _ _ {nx:=λ_ C=>Q' .non C,rt:=Q'} I ⟨U,_,BV (rr.hid N) rwv ht1 tb1,fk,?_⟩
 .refine aBG hx (λfl s' hs=>?_) λe s' hs=>hs.elim;have fin2:∀{ah:St} {C:Hp} {v:V} {u:av},Inv (uq P w K mg base (ps++(ls++fn)) (PySem.W.envX qual g s.heap.objs.size fa (.ref L) clos) A f s<|Q7 l cs) [] ah C s'->RelV v u->Q' v C->CE f P w l s Q u s':=
   λ{ah C v u} J rv q=>fin ⟨v,C,J.os,J.bare,J.base,J.hok,rv,q⟩
  cases fl with
  |ret u=>obtain⟨v,ah,C,J,rv,q⟩:=hs;exact fin2 J rv q
  |next=>obtain⟨ah,C,J,q⟩:=hs;exact fin2 (v:=V.non) (u:=Value.none) J rfl q
  |brk=>obtain⟨_,_,_,q⟩:=hs;exact aAg q
  |cont=>obtain⟨_,_,_,q⟩:=hs;exact aAg q
 .have h:=hm ds d hl em;cases e1:F (M4 (ds.map Sl.v) ls.length .no (wd.map Sl.v))with
  |ok o=>
   rw[e1]at h;cases o with
   |rt d'=>have h':R.ok d'=R.ok d:=h;injection h' with h';subst h';exact qq
   |nx ρ=>have h':R.ok D.non=R.ok d:=h;injection h' with h';subst h';exactλah C O' E' _ _=>qq .non C E'.same .non
   |bk ρ=>cases h
   |ct ρ=>cases h
  |ex x=>rw[e1]at h;cases h
  |bad=>rw[e1]at h;cases h
end
end
section
variable [Tabs]
def gU (mg:W6)(base:cy):Prop:=∃b a,mg "__builtins__"=some (.ref b)/\b≠builtinsNs/\base.get? b=some a/\a.cls=.type "module"/\a.dict=some builtinsNs/\a.data=.plain
def qY:∀(l:List av),TriplesOk l->fo pos l=some x->fo pos (l++[e9 a,e9 b,c])=some x:=λl h e=>by
 fun_induction TriplesOk l with
 |case1=>simp[fo]at e
 |case2 g t i u y rest f=>
  simp only[aAY,fo]at e⊢;split at e
  .rename_i d;rw[h9 d];exact e
  .rename_i d;rw[ic d];exact f h e
 |case3 l j k=>exact h.elim
def KI (ne:¬(a=pos.line/\b=pos.col)):∀(l:List av),TriplesOk l->fo pos l=none->fo pos (l++[e9 a,e9 b,c])=none:=λl h e=>by
 fun_induction TriplesOk l with
 |case1=>simp only[aCC,e9,fo];rw[ic];simp only[aAF,beq_iff_eq];exact ne
 |case2 g t i u y rest d=>
  simp only[aAY,fo]at e⊢;split at e
  .cases e
  .rename_i f;rw[ic f];exact d h e
 |case3 l j k=>exact h.elim
def fI (H:Hp)(fa:bp)(name qual:Str)(a:Arguments)(body:List dm)(b:gW)(clos:List (Str×bp)):Prop:=
 ∃d g e i f,H fa=some (.frz (PySem.W.fnMade name qual a body b clos e i d f) (.own fa))/\H d=some (.frz g (.own d))/\∃h t,g.data=.fields h/\h[1]?=some (.str qual t)
def fI.same (h:fI H fa name qual a body b clos)(s:Same H H'):fI H' fa name qual a body b clos:=
 let⟨f,g,d,i,e,j,k,l⟩:=h;⟨f,g,d,i,e,s _ _ j,s _ _ k,l⟩
section
def xX {Q:Flow->bb->Prop}(I:Inv X pins σ H s)(hB:gU X.mg X.base)(jt:X.env.code=.ref c)(hK:PySem.W.codeHdIn X.K c m=true)(hT:H m=some (.tbl tb))(hq:qualnameIn X.env name name=qual)(hm:(pos,qual)∈tb)(hu:∀p∈tb,p.1.line=pos.line->p.1.col=pos.col->p.2=qual)(qd:closureFor f X.env=pure clos)(hd0:d.defaults=[])(hk0:d.kw_defaults=[])(ha:annTrees d none X.env=[])(hN:X.N.Nodup)(hi:X.N[i]?=some name)(hx:Loc X.env.scope name)(hf:X.fn name=true\/X.env.scope.names.lookup name=some .local)(h:∀fa H' s',Inv X pins (σ.set i (some (.ref fa))) H' s'->Same H H'->fI H' fa name qual d body f clos->Q .next s'):bc (bt X.prog X.w) X.A (exec (.FunctionDef name d body [] none [] f none name pos) X.env) Q X.xe s:=by
 refine PySem.W.nestDef_K hd0 hk0 ha ?_;rw[hq];have hg:s.heap.Ns cf X.mg:=I.mod.glob.keeps I.bk;have C:PySem.W.CodeHd s.heap c m:=PySem.W.codeHd_of_K I.kIn hK;obtain⟨ps,hP,l,J⟩:=I.hok m _ hT;have hgP:cf≠m:=λq=>by obtain⟨o,es,ep,e,hd,_⟩:=hg;rw[q,hP]at e;cases e;cases hd
 have L:s.heap.BuiltinsAt X.mg m:=by
  obtain⟨bm,ob,b1,b2,b3,b4,b5,b6⟩:=hB;have x:=I.bk _ _ b3;refine⟨bm,ob,b1,b2,λq=>?_,λq=>?_,x,b4,b5,b6⟩
  .obtain⟨o,es,ep,e,hd,_⟩:=hg;rw[<-q,x]at e;cases e;rw[hd]at b6;cases b6
  .rw[q,hP]at x;cases x;cases b4
 have O:∀b,H b=none->b≠m:=λb n z=>by rw[z,hT]at n;cases n
 have neL:X.env.locals≠m:=O _ I.free;rcases J _ hm with hnf|⟨g,oc,vs,t,hf',hc',dn⟩
 .refine PySem.W.makeFunction_K (mg:=X.mg) qd I.ok.glob hg jt C hP l hnf hgP L λg j k h' tk hx' y ar hrec htb=>?_;obtain⟨c2,oc,vs,t,e2,uh,hd,hv⟩:=hrec;cases e2;have old:∀b u,H b=some u->b<s.heap.objs.size:=λb u e=>I.hok.lt e;have hcN:H g=none:=I.hok.fresh y;have B:H h'.objs.size=none:=I.hok.fresh (aAq y<|aDb ar);have ncf:g≠h'.objs.size:=aAk ar;have E:Same H (upd (upd H g<|.frz oc (.own g)) h'.objs.size<|.frz (PySem.W.fnMade name qual d body f clos k ((X.mg "__name__").getD .none) g j) (.own h'.objs.size)):=λb u e=>by rw[k9 (p9 e B),k9 (p9 e hcN)];exact e
  have ou:∀b o,b≠m->s.heap.get? b=some o->(h'.push<|PySem.W.fnMade name qual d body f clos k ((X.mg "__name__").getD .none) g j).get? b=some o:=λb o L e=>aAc _ (hx' b o L e);have lts:∀b o,s.heap.get? b=some o->b≠g/\b≠h'.objs.size:=λb o e=>⟨aAk (aAr (aAf e) y),aAk (aAr (aAf e)<|aAq y<|aDb ar)⟩;have I1:=I.step (H':=upd (upd H g<|.frz oc (.own g)) h'.objs.size (.frz (PySem.W.fnMade name qual d body f clos k ((X.mg "__name__").getD .none) g j) (.own h'.objs.size)))
   (h':=h'.push (PySem.W.fnMade name qual d body f clos k ((X.mg "__name__").getD .none) g j)) (g':=s.gens) (t':=tk) (d':=s.drawn) (ch:=[]) (λ_ z=>nomatch z) (λb o _ _ _ e n=>ou b o (O b n) e) (λb o _ _ _ e n=>⟨o.slots,ou b o (O b n) e⟩)
   (λb o _ e n=>by rw[k9 (lts b o e).2,k9 (lts b o e).1];exact n) (λb o _ e=>by
    by_cases L:b=m
    .subst L;exact⟨_,aAc _ htb⟩
    .exact⟨o,ou b o L e⟩) (λb Y e=>E _ _ e) (λb o u e=>E _ _ e) (λb tb e=>E _ _ e) (λm' hm'=>by
    obtain⟨o,es,ep,e,r⟩:=hm';exact⟨o,es,ep,ou _ o neL e,r⟩) (λb u e=>by
    by_cases hbf:b=h'.objs.size
    .subst hbf;rw[i9]at e;cases e;exact⟨aAm _ rfl,_,aAm _ rfl⟩
    .rw[k9 hbf]at e;by_cases hbc:b=g
     .subst hbc;rw[i9]at e;cases e;exact⟨aAc _ uh,_,aAc _ uh⟩
     .rw[k9 hbc]at e;by_cases hbP:b=m
      .subst hbP;rw[hT]at e;cases e;refine⟨_,aAc _ htb,?_,λp hp=>?_⟩
       .rw[aGk];exact TriplesOk_snoc _ _ _ _ l
       .rw[aGk];show fo p.1 (ps.toList++[e9 pos.line,e9 pos.col,.ref g])=none\/_;by_cases T:(pos.line:Int)=p.1.line/\(pos.col:Int)=p.1.col
        .rcases J p hp with U|⟨c3,oc3,vs3,t3,U,h1,h2⟩
         .have e1:pos.line=p.1.line:=by exact_mod_cast T.1
          have e2:pos.col=p.1.col:=by exact_mod_cast T.2
          refine .inr ⟨g,oc,vs,t,?_,by rw[k9 ncf,i9],hd,?_⟩
          .rw[e1,e2];exact codeAmong_snoc _ l U
          .rw[hu p hp e1.symm e2.symm];exact hv
         .exact .inr ⟨c3,oc3,vs3,t3,qY _ l U,E _ _ h1,h2⟩
        .rcases J p hp with U|⟨c3,oc3,vs3,t3,U,h1,h2⟩
         .exact .inl (KI T _ l U)
         .exact .inr ⟨c3,oc3,vs3,t3,qY _ l U,E _ _ h1,h2⟩
      .refine(I.hok b u e).ab5 (λb2 v hc q=>ou b2 v (λz=>?_) q) (λb2 z=>E _ _ z) λb2 u _ z=>E _ _ z;rcases hc with hc|hc
       .exact hbP (hc▸z)
       .rw[z,hT]at hc;cases hc) I.bare
  refine V9 I1 hN hi hx (show RelV (.ref h'.objs.size) _ from rfl) (λs' I'=>h _ _ s' I' E ⟨g,oc,k,_,j,i9,by rw[k9 ncf,i9],vs,t,hd,hv⟩) hf
 .refine PySem.W.makeFunction_hit (mg:=X.mg) qd I.ok.glob hg jt C hP l hf' L λj k h' tk hk ig=>?_;have B:H h'.objs.size=none:=I.hok.fresh ig;have I1:=I.laid (a:=h'.objs.size) (o:=.frz (PySem.W.fnMade name qual d body f clos k ((X.mg "__name__").getD .none) g j) (.own h'.objs.size)) (h':=h'.push (PySem.W.fnMade name qual d body f clos k ((X.mg "__name__").getD .none) g j)) (t':=tk)
   (λb u e=>aAc _ (hk b u e)) ig ⟨aAm _ rfl,_,aAm _ rfl⟩
  refine V9 I1 hN hi hx (show RelV (.ref h'.objs.size) _ from rfl) (λs' I'=>h _ _ s' I' (j5 B _) ⟨g,oc,k,_,j,i9,j5 B _ _ _ hc',vs,t,dn⟩) hf
end
structure Nst where
 name:Str
 qual:Str
 params:Arguments
 body:List Stmt
 scope:Scope
 pos:Pos
 ps:List Str
 ls:List Str
 fn:List Str
 js:List Nat
 F:Ev->R Out
 mm:List D->List D->R D
 i:Nat
abbrev Nst.stmt (n:Nst):dm:=.FunctionDef n.name n.params n.body [] none [] n.scope none n.name n.pos
structure NstOk (X:Cx)(k:Nat)(n:Nst):Prop where
 sc:NScope n.ps n.ls n.fn n.scope
 one:n.ps.length=1
 body:∀(fa:Addr) (cd:Value) (clos:List (Str×Addr)) (A:Around) (outer:List Env) (s:Shared) (H:Hp),Room k (A.deeper (PySem.W.envX n.qual n.scope s.heap.objs.size fa cd clos))->Y0 (uq X.prog X.w X.K X.mg X.base (n.ps++(n.ls++n.fn)) (PySem.W.envX n.qual n.scope s.heap.objs.size fa cd clos) A outer s H) n.body n.F
 mm:∀wd ds d,wd.length=n.fn.length->ds.length=n.ps.length->n.mm wd ds=.ok d->M9 (n.F (M4 (ds.map Sl.v) n.ls.length .no (wd.map Sl.v)))=.ok d
 bind:∀(clos:List (Str×Addr)) (doc pm cd ctv:Value) (us:List Value),us.length=n.ps.length->bindArgs (PySem.W.fnX n.name n.qual n.params n.body n.scope clos .none .none doc pm none cd ctv) ⟨us,[]⟩=pure (n.ps.zip us)
 len:n.js.length=n.fn.length
 at_:∀(i j:Nat) (x:Str),n.js[i]?=some j->n.fn[i]?=some x->X.N[j]?=some x/\X.env.scope.names.lookup x=some .cell
 d0:n.params.defaults=[]
 k0:n.params.kw_defaults=[]
 nm:X.N[n.i]?=some n.name
 lc:Loc X.env.scope n.name
 st:X.fn n.name=true\/X.env.scope.names.lookup n.name=some .local
 dbg:(n.name==jd)=false
 cdt:(n.name==ka)=false
structure ClosOk (X:Cx)(n:Nst)(clos:List (Str×Addr)):Prop where
 eq:closureFor n.scope X.env=pure clos
 ann:annTrees n.params none X.env=[]
 qn:qualnameIn X.env n.name n.name=n.qual
 sub:∀x c,clos.lookup x=some c->X.env.cells.lookup x=some c
 has:∀x∈n.fn,∃c,clos.lookup x=some c
def cB:List Nat->Ev->R (List D)
 |[],_=>.ok []
 |j::a,ρ=>(bW j ρ).bind λd=>(cB a ρ).bind λb=>.ok (d::b)
theorem PQ {K:jb}{l H:Hp}{m O:bp->Prop}{σ:St}{ρ:Ev}(E:EnvOk K l m H O σ ρ):∀{b:List Nat} {wd:List D},cB b ρ=.ok wd->∃wv,Reps K H O wv wd/\wv.length=b.length/\∀(i j:Nat) (v:V),b[i]?=some j->wv[i]?=some v->σ[j]?=some (some v)
 |[],wd,h=>by cases h;exact⟨[],.nil,rfl,λi j v e=>by simp at e⟩
 |j::b,wd,h=>by
  unfold cB at h;cases a:bW j ρ with
  |ok d=>
   rw[a,R.aa0]at h;cases f:cB b ρ with
   |ok u=>
    rw[f,R.aa0]at h;cases h;obtain⟨wv,r,n,at_⟩:=PQ E f;have:ρ[j]?=some (.v d):=by
     unfold bW at a;split at a
     .rename_i q;cases a;exact q
     .cases a
    obtain⟨v,o,p⟩:=E.val j d this;refine⟨v::wv,.cons p r,by simp[n],λi s t g k=>?_⟩;cases i with
    |zero=>simp at g k;subst g k;exact o
    |succ i=>exact at_ i s t (by simpa using g) (by simpa using k)
   |ex z=>rw[f]at h;cases h
   |bad=>rw[f]at h;cases h
  |ex z=>rw[a]at h;cases h
  |bad=>rw[a]at h;cases h
section
def T0 (h:cy)(a:List (Str×bp)):List (bp×Obj):=a.filterMap λp=>(h.get? p.2).map λo=>(p.2,o)
def L4 (e:(T0 h a).lookup b=some o):h.get? b=some o/\∃x,(x,b)∈a:=by
 obtain⟨p,d,q⟩:=aBB.mp (mem_lookup e);cases z:h.get? p.2 with
 |none=>rw[z]at q;cases q
 |some f=>rw[z]at q;have g:(p.2,f)=(b,o):=Option.some.inj q;injection g with i j;subst i j;exact⟨z,p.1,d⟩
def kT (f:(x,b)∈a)(e:h.get? b=some o):∃d,(T0 h a).lookup b=some d:=by
 have:(b,o)∈T0 h a:=aBB.mpr ⟨(x,b),f,by show(h.get? b).map _=_;rw[e];rfl⟩;cases q:(T0 h a).lookup b with
 |some d=>exact⟨d,rfl⟩
 |none=>have:=List.lookup_eq_none_iff.mp q (b,o) this;simp at this
def jj (X:Cx)(n1 n2:Nst)(clos1 clos2:List (Str×bp))(f:Ev->R D)(M:D->(List D->R D)->(List D->R D)->R D):TE:=λσ H Q=>∃d e O ρ b a,EnvOk X.K d e H O σ ρ/\σ[n1.i]?=some (some<|V.ref b)/\σ[n2.i]?=some (some<|V.ref a)/\
 fI H b n1.name n1.qual n1.params n1.body n1.scope clos1/\fI H a n2.name n2.qual n2.params n2.body n2.scope clos2/\RC X H O ((f ρ).bind λg=>(cB n1.js ρ).bind λh=>(cB n2.js ρ).bind λj=>M g (n1.mm h) (n2.mm j)) Q
def wB {n:Nst}{clos a:List (Str×bp)}{k:Nat}{h:K6}{σ:St}{H:Hp}{s:bb}{Ha:Hp}{O0 O:bp->Prop}{ρ:Ev}{fa:bp}{wd:List D}(ok:NstOk X k n)(j:ClosOk X n clos)(I:Inv X h σ H s)(E:EnvOk X.K Ha O0 H O σ ρ)
  (hA:∀p∈clos,p∈a) (l:∀x b,(x,b)∈a->X.env.cells.lookup x=some b) (r:fI H fa n.name n.qual n.params n.body n.scope clos) (hw:cB n.js ρ=.ok wd):
  ∀t z,Kp (cK H (T0 s.heap a)) O t z->JB X.prog X.w X.K X.mg X.base (k+1) 1 (n.mm wd) t z fa:=by
 obtain⟨c',oc,T,pm,U,h1,h2,h3⟩:=r;obtain⟨wv,rh,hl,at_⟩:=PQ E hw;have hn:∀b o,(T0 s.heap a).lookup b=some o->H b=none:=λb o q=>by obtain⟨_,x,Y⟩:=L4 q;exact I.freeC x b (l x b Y)
 have N:=dD hn
 suffices B:∀t z,Kp (cK H<|T0 s.heap a) O t z->JB X.prog X.w X.K X.mg X.base (k+1) n.ps.length (n.mm wd) t z fa by rw[ok.one]at B;exact B
 refine YW (cs:=T0 s.heap a) (wv:=wv) (wd:=wd) (F:=n.F) ok.sc (λA g s H hr=>ok.body fa (.ref c') clos A g s H hr) (λds d kg e=>ok.mm wd ds d (by rw[<-rh.length,hl,ok.len]) kg e) (λs us kg=>.of_eq (ok.bind clos T pm (.ref c') U us kg)) (N _ _ h1) (N _ _ h2) h3
  (λb o q=>⟨dJ q,?_⟩) (λi x v C q2=>?_) (λx c q=>?_) (λx y c C q2=>I.ok.inj x y c (j.sub x c C) (j.sub y c q2)) (by rw[hl,ok.len]) (rh.same N) (E.grow N).trk
 .obtain⟨e1,x,Y⟩:=L4 q;obtain⟨v,o',e2,e3⟩:=I.cell x b (l x b Y);rw[e1]at e2;cases e2;exact⟨v,e3⟩
 .have hi:i<n.js.length:=by rw[ok.len];exact(aAy.mp C).1
  have ej:n.js[i]?=some n.js[i]:=aAj hi;obtain⟨hN,hk⟩:=ok.at_ i _ x ej C;have hσ:=at_ i _ v ej q2;obtain⟨m,za,J⟩:=I.loc;obtain⟨u,ru,L⟩:=J _ x v hN hσ (.inr (.inl hk));rcases L with⟨ku,_⟩|⟨_,c,ir,o,Q,hd⟩
  .have f:X.env.scope.names.lookup x=some .local:=ku;rw[hk]at f;cases f
  .obtain⟨c2,q3⟩:=j.has x (aAt C);have q4:=j.sub x c2 q3;rw[ir]at q4;cases q4;obtain⟨o',q5⟩:=kT (hA _<|PySem.mem_of_lookup q3) Q;have:=(L4 q5).1;rw[Q]at this;cases this;exact⟨c,u,o,q3,q5,hd,ru⟩
 .obtain⟨v,o,Q,_⟩:=I.cell x c (j.sub x c q);exact kT (hA _<|PySem.mem_of_lookup q) Q
def RM (pg:NstOk X k n1)(ql:NstOk X k n2)(yg:ClosOk X n1 clos1)(jo:ClosOk X n2 clos2)(J:∀x b,(x,b)∈clos1++clos2->X.env.cells.lookup x=some b)(FF:FnOk X.prog X.w X.K X.mg X.base tW kf g gd L (yq X.K (JB X.prog X.w X.K X.mg X.base (k+1) 1) M))(hr:Room kf X.A)(U:X.mg x=some (.ref g))(hk:PySem.W.keepIn X.K (.ref g)=true)(n:Binds X.K gd L [])(h3:L.length=3)(he:PD X e f)(yb:∀y,X.fn y=true)(hg:Gl X x:=by rfl)(dc:(x==jd)=false:=by decide)(zb:a9 [e,.Name n1.name Y,.Name n2.name t] X.env=(false,dq e X.env)::a9 [.Name n1.name Y,.Name n2.name t] X.env:=by rfl)(zg:a9 [.Name n1.name Y,.Name n2.name t] X.env=(false,dq (.Name n1.name Y) X.env)::a9 [.Name n2.name t] X.env:=by rfl)(hs3:a9 [.Name n2.name t] X.env=(false,dq (.Name n2.name t) X.env)::a9 [] X.env:=by rfl)(bg:(cz pos (a9 [.Name n1.name Y,.Name n2.name t] X.env)).any (·.1)=false:=by rfl):
  PE X (.Call (.Name x p) [e,.Name n1.name Y,.Name n2.name t] [] pos) (jj X n1 n2 clos1 clos2 f M):=by
 rintro pins s σ H Q I ⟨Ha,O0,O,ρ,yf,fa2,E,h1,h2,md1,md2,q⟩;have vis:∀{y:Str},Loc X.env.scope y->tE X.env.scope y:=λh=>h.elim .inl λz=>.inr (.inl z);have qr:PA X [e,.Name n1.name Y,.Name n2.name t] _:=J3 he (J3 (M3 pg.nm (vis pg.lc) pg.dbg pg.cdt) (J3 (M3 ql.nm (vis ql.lc) ql.dbg ql.cdt) aY hs3) zg) zb;refine aAQ (aM I hg U ?_ dc);refine PySem.W.callWith_K (h₀:=X.base) I.ok.mod.kin hk (B1 (qr pos pins s σ H (λvs i=>∃v1 N w1 w2 d,vs=[v1,.ref yf,.ref fa2]/\Same H i/\Rep X.K i O v1 N/\cB n1.js ρ=.ok w1/\cB n2.js ρ=.ok w2/\M N (n1.mm w1) (n2.mm w2)=.ok d/\∀v l,Same i l->Rep X.K l O v d->Q v l) I ⟨Ha,O0,O,ρ,E,?_⟩) λus B z9=>?_) zb bg
 .cases e1:f ρ with
  |ex z=>rw[e1]at q;exact q
  |bad=>rw[e1]at q;exact q
  |ok N=>
   rw[e1,R.aa0]at q;cases C:cB n1.js ρ with
   |ex z=>rw[C]at q;exact(q H<|Same.refl _).elim
   |bad=>rw[C]at q;exact q.elim
   |ok w1=>
    rw[C,R.aa0]at q;cases e3:cB n2.js ρ with
    |ex z=>rw[e3]at q;exact(q H<|Same.refl _).elim
    |bad=>rw[e3]at q;exact q.elim
    |ok w2=>
     rw[e3,R.aa0]at q;cases e4:M N (n1.mm w1) (n2.mm w2)with
     |ex z=>rw[e4]at q;exact(q H<|Same.refl _).elim
     |bad=>rw[e4]at q;exact q.elim
     |ok d=>rw[e4]at q;exactλv1 i B r1=>⟨_,h1,_,h2,v1,N,w1,w2,d,rfl,B,r1,rfl,rfl,e4,λv l s2 r2=>q v l (B.trans s2) r2⟩
 .obtain⟨vs,i,a,r,v1,N,w1,w2,d,ev,sm,r1,c1,c2,em,qq⟩:=z9;refine⟨a.kIn,?_⟩;subst ev;have E1:=E.grow sm;generalize wc:T0 B.heap (clos1++clos2)=j;have hn:∀b o,j.lookup b=some o->B.heap.get? b=some o/\i b=none/\uA o:=λb o z=>by rw[<-wc]at z;obtain⟨e1,y,U⟩:=L4 z;obtain⟨v,o',C,e3⟩:=a.cell y b (J y b U);rw[e1]at C;cases C;exact⟨e1,a.freeC y b (J y b U),v,e3⟩
  have hn0:∀b o,j.lookup b=some o->i b=none:=λb o z=>(hn b o z).2.1;have T:Same i (cK i j):=dD hn0;have E2:=E1.grow T;have m:=a.ae5;have nofr:∀b o,j.lookup b=some o->b∉V6 X.stack:=λb o z n=>by
   rw[<-wc]at z;obtain⟨_,y,hmy⟩:=L4 z;rcases aAd.mp (a.ab3 b n)with e|n
   .exact a.cne y b (J y b hmy) e
   .obtain⟨_,o',ho,_⟩:=a.ok.funs.mem n;exact absurd (aAr (aAf ho)<|a.ok.cab y b (yb y)<|J y b hmy) (aBj _)
  have nob:∀b o,X.base.get? b=some o->j.lookup b=none:=λb o e=>by
   cases z:j.lookup b with
   |none=>rfl
   |some o'=>rw[<-wc]at z;obtain⟨_,y,U⟩:=L4 z;exact absurd (aAr (aAf e)<|aAq a.ok.bsz<|a.ok.cab y b (yb y)<|J y b U) (aBj _)
  have C:Env0 X.prog X.w X.K X.mg X.base X.A X.stack B (cK i j):=⟨m.frames,m.mod,λb o e=>⟨(m.bs b o e).1,by rw[Q5 (nob b o e)];exact(m.bs b o e).2⟩,m.bsz,m.funs,λb n=>by
   cases z:j.lookup b with
   |none=>rw[Q5 z];exact m.frf b n
   |some o=>exact absurd n (nofr b o z),PC m.hok λb o z=>⟨(hn b o z).1,(hn b o z).2.1⟩,m.bare⟩
  have cl1:=wB pg yg a E1 (λp hp=>aBI _ hp) J (md1.same sm) c1;have cl2:=wB ql jo a E1 (λp hp=>aAH _ hp) J (md2.same sm) c2;rw[wc]at cl1 cl2;have hl:us.length=L.length:=by rw[<-r.length,h3];rfl
  have hbs:=n B us a.kIn (by rw[aBL];exact hl);rw[aBL]at hbs;refine aFR (aDu (FF.run X.A X.stack B (cK i j) ⟨us,[]⟩ us _ (λv l=>Q v (Q7 l j)) (λ_ _ _=>False) hr C hbs r ⟨O,v1,N,yf,_,fa2,_,d,rfl,r1.same T,cl1,cl2,E2.trk,E2.tab,qK a O E1.trk,em,λv l s2 r2=>?_⟩) λrr s' hq=>?_)
  .have hz:∀b o,j.lookup b=some o->l b=some (.frz o (.own b)):=λb o z=>s2 _ _ (dJ z);refine qq v _ (λb u e=>v8 hz (s2 b u<|T b u e) λo z _=>?_) (r2.hid hz);rw[hn0 b o z]at e;cases e
  .cases rr with
   |error e=>exact hq.elim
   |ok fl=>
    cases fl with
    |next=>exact aAg hq
    |brk=>exact aAg hq
    |cont=>exact aAg hq
    |ret u=>obtain⟨v,l,os,bare,un,hok,rv,qv⟩:=hq;obtain⟨U2,k2,_⟩:=WU un hok hn;exact a.after ⟨v,_,os,bare,U2,k2,rv,qv⟩
def IE (a:NstOk X k n1)(h:NstOk X k n2)(u:ClosOk X n1 clos1)(B:ClosOk X n2 clos2)(hA:∀x b,(x,b)∈clos1++clos2->X.env.cells.lookup x=some b)(hB:gU X.mg X.base)(jt:X.env.code=.ref c)(hK:PySem.W.codeHdIn X.K c Pt=true)(l:(Pt,tb)∈Tabs.tbs)(L:(n1.pos,n1.qual)∈tb)(kl:(n2.pos,n2.qual)∈tb)(gi:∀p∈tb,p.1.line=n1.pos.line->p.1.col=n1.pos.col->p.2=n1.qual)(Q:∀p∈tb,p.1.line=n2.pos.line->p.1.col=n2.pos.col->p.2=n2.qual)(au:n1.i≠n2.i)(hN:X.N.Nodup)(FF:FnOk X.prog X.w X.K X.mg X.base tW kf g gd m (yq X.K (JB X.prog X.w X.K X.mg X.base (k+1) 1) M))(hr:Room kf X.A)(hm:X.mg x=some (.ref g))(hk:PySem.W.keepIn X.K (.ref g)=true)(hb:Binds X.K gd m [])(h3:m.length=3)(he:PD X e f)(yb:∀y,X.fn y=true)(hg:Gl X x:=by rfl)(dc:(x==jd)=false:=by decide)(zb:a9 [e,.Name n1.name n,.Name n2.name j] X.env=(false,dq e X.env)::a9 [.Name n1.name n,.Name n2.name j] X.env:=by rfl)(zg:a9 [.Name n1.name n,.Name n2.name j] X.env=(false,dq (.Name n1.name n) X.env)::a9 [.Name n2.name j] X.env:=by rfl)(T:a9 [.Name n2.name j] X.env=(false,dq (.Name n2.name j) X.env)::a9 [] X.env:=by rfl)(bg:(cz pos (a9 [.Name n1.name n,.Name n2.name j] X.env)).any (·.1)=false:=by rfl):
  Y0 X [n1.stmt,n2.stmt,.Return (some (.Call (.Name x p) [e,.Name n1.name n,.Name n2.name j] [] pos)) rpos] (λρ=>((f ((ρ.set n1.i .no).set n2.i .no)).bind λU=>(cB n1.js ((ρ.set n1.i .no).set n2.i .no)).bind λY=>(cB n2.js ((ρ.set n1.i .no).set n2.i .no)).bind λw2=>M U (n1.mm Y) (n2.mm w2)).bind λd=>.ok (.rt d)):=by
 rintro Ha O0 o s σ H D I ⟨O,ρ,E,fk,q⟩;refine aCK (xX (σ:=σ) I hB jt hK (E.tab _ l) u.qn L gi u.eq a.d0 a.k0 u.ann hN a.nm a.lc a.st λC H1 s1 I1 sm1 md1=>?_);have E1:EnvOk X.K Ha O0 H1 O (σ.set n1.i<|some<|.ref C) (ρ.set n1.i .no):=(E.grow sm1).put n1.i (λz=>z) trivial;refine aCK (xX (σ:=σ.set n1.i (some<|.ref C)) I1 hB jt hK (E1.tab _ l) B.qn kl Q B.eq h.d0 h.k0 B.ann hN h.nm h.lc h.st λt H2 s2 I2 qu md2=>?_);have J:EnvOk X.K Ha O0 H2 O ((σ.set n1.i<|some<|.ref C).set n2.i (some<|.ref t)) ((ρ.set n1.i .no).set n2.i .no):=(E1.grow qu).put n2.i (λz=>z) trivial;have l1:n1.i<σ.length:=by rw[I.len];exact(aAy.mp a.nm).1
 have l2:n2.i<σ.length:=by rw[I.len];exact(aAy.mp h.nm).1
 refine DF (NK<|RM a h u B hA FF hr hm hk hb h3 he yb hg dc zb zg T bg) o s2 _ H2 D I2 ⟨Ha,O0,O,_,C,t,J,?_,?_,md1.same qu,md2,?_⟩
 .rw[aCx (aBU au),aBh l1]
 .rw[aBh (by rw[aED];exact l2)]
 .revert q;dsimp only;generalize((f<|(ρ.set n1.i .no).set n2.i .no).bind λU=>(cB n1.js<|(ρ.set n1.i .no).set n2.i .no).bind λY=>(cB n2.js<|(ρ.set n1.i .no).set n2.i .no).bind λw2=>M U (n1.mm Y) (n2.mm w2))=rr;intro q;cases rr with
  |ok d=>exactλv H' s r=>q v H' (J.same.trans s) (r.sub J.sub)
  |ex z=>exactλH' s=>q H' (J.same.trans s)
  |bad=>exact q
end
def tL (K:jb):Sp:=λd H Q _=>∃(a:bp) (b:List Int),d=[.ref a]/\N0 K H a (b.map V.int)/\b.length<=63/\(∀x∈b,aAW x<=1048576)/\Tb H/\∀e,Q (.bl true) e
def RQ {P:cp}{w:cu}{K:jb}{mg:W6}{base:cy}{k:Nat}{f:bp}{fd:dA}{m:List D->R D}(F:FnOk P w K mg base tW k f fd ["script"] (az K 1 m))
  (h:∀ns:List Int,ns.length<=63->(∀x∈ns,aAW x<=1048576)->m [.lst (ns.map D.int)]=.ok (.bl true)):FnOk P w K mg base tW k f fd ["script"] (tL K):=
 F.imp<|by rintro l H Q E ⟨a,ns,e,b,d,g,i,q⟩;exact⟨λ_=>False,_,_,by rw[e];exact .cons (.lst b (λz=>z) (Reps.ints ns)) .nil,rfl,λ_ z=>z.elim,i,λ_ _ _ z=>z,h ns d g,λv j _ r=>by cases r;exact q j⟩
def HJ {P:cp}{w:cu}{K:jb}{mg mb:W6}{k:Nat}{fa a:bp}{fd:dA}{f:bb}{vs:List av}{ns:List Int}
  (KX:K.In f.heap) (za:f.heap.Ns cf mg) (j:f.heap.Ns builtinsNs mb) (hbb:∀x:Str,x≠ "__name__"->mb x=dt x) (J:f.heap.NoLimit) (hB:gU mg f.heap) (hg:f.gens=#[])
  (L:f.heap.get? a=some {cls:=.type "list",data:=.seq vs.toArray}) (hi:IntsAre vs ns) (hl:ns.length<=63) (xf:∀x∈ns,aAW x<=1048576) (hr:Room k callerA)
  (hT:∀p∈Tabs.tbs,f.heap.get? p.1=some (PySem.W.tabObj #[])/\isCodeTable f.heap p.1) (hTd:(Tabs.tbs.map (·.1)).Nodup) (hKn:PySem.W.noTabs K=true)
  (F:∀base:cy,K.In base->base.Ns cf mg->gU mg base->FnOk P w K mg base tW k fa fd ["script"] (tL K)) (xc:∀(s:bb) (u:av),BindsTo s fd ⟨[u],[]⟩ [("script",u)]):
  f6 (bt P w) callerA (.call (.ref fa) ⟨[.ref a],[]⟩) (λr s'=>r=.ok (.ret (.bool true))/\OldK f.heap s'.heap/\s'.os=f.os/\AllBare s'.gens) f:=by
 have rv:=L2.sE hi;have N:=hi.length;have gm:ns.length<=sizeLine:=aAq hl (by decide);have C:∀b i,Tabs.tbs.lookup b=some i->f.heap.get? b=some (PySem.W.tabObj #[])/\isCodeTable f.heap b:=λb i e=>hT (b,i) (mem_lookup e);have nta:Tabs.tbs.lookup a=none:=by
  cases e:Tabs.tbs.lookup a with
  |none=>rfl
  |some i=>have:=(C a i e).1;rw[L]at this;cases this
 have noK:∀b o,K.lookup b=some o->Tabs.tbs.lookup b=none:=λb o e=>by
  cases z:Tabs.tbs.lookup b with
  |none=>rfl
  |some i=>have O:=KX b o e;rw[(C b i z).1]at O;cases O;have l:=aCf.mp hKn (b,_) (PySem.W.mem_of_lookupK e);exact absurd (show false=true from l) aAV
 let put:Hp->Hp:=λH b=>match Tabs.tbs.lookup b with
  |some i=>some (.tbl i)
  |none=>H b
 have mO:∀(H:Hp) b i,Tabs.tbs.lookup b=some i->put H b=some (.tbl i):=λH b i e=>by show(match Tabs.tbs.lookup b with|some i=>some (HO.tbl i)|none=>H b)=_;rw[e]
 have E:∀(H:Hp) b,Tabs.tbs.lookup b=none->put H b=H b:=λH b e=>by show(match Tabs.tbs.lookup b with|some i=>some (HO.tbl i)|none=>H b)=_;rw[e]
 have y:∀g:Hp,(∀b,g b=none\/∃Y,g b=some (.frz {cls:=.type "list",data:=.seq vs.toArray} (.lst Y)))->N0 K (put g) a (ns.map V.int)->(∀b u,g b=some u->ObjOk P w (put g) f.heap b u)->(∀b,g b≠none->b=a)->(g a≠none->K.lookup a=none)->
   f6 (bt P w) callerA (.call (.ref fa) ⟨[.ref a],[]⟩) (λr s'=>r=.ok (.ret (.bool true))/\OldK f.heap s'.heap/\s'.os=f.os/\AllBare s'.gens) f:=by
  intro g hO hS Q hA hK;have T:Y3 P w (put g) f.heap:=λb u e=>by
   cases z:Tabs.tbs.lookup b with
   |none=>rw[E _ b z]at e;exact Q b u e
   |some i=>rw[mO _ b i z]at e;cases e;exact⟨#[],(C b i z).1,trivial,λp _=>.inl rfl⟩
  have nh:∀{b:bp} {o:Obj},f.heap.get? b=some o->put g b=none->(qC f.heap<|put g).get? b=some o:=λe n=>KJ e n;have none_of:∀{b:bp} {o:Obj},f.heap.get? b=some o->o≠PySem.W.tabObj #[]->o≠{cls:=.type "list",data:=.seq vs.toArray}->put g b=none:=λ{b o} e n1 n2=>by
   cases z:Tabs.tbs.lookup b with
   |some i=>have:=(C b i z).1;rw[e]at this;exact absurd (Option.some.inj this) n1
   |none=>
    rw[E _ b z];cases q:g b with
    |none=>rfl
    |some u=>have e':b=a:=hA b (by rw[q];simp);subst e';rw[L]at e;exact absurd (Option.some.inj e).symm n2
  have t:∀{b:bp} {m:W6},f.heap.Ns b m->(qC f.heap<|put g).Ns b m:=λ{b m} ⟨o,es,ep,e,d,r⟩=>⟨o,es,ep,nh e (none_of e (λz=>by rw[z]at d;cases d) λz=>by rw[z]at d;cases d),d,r⟩;have U:K.In (qC f.heap<|put g):=λb o e=>nh (KX b o e) (by
   rw[E _ b (noK b o e)];cases q:g b with
   |none=>rfl
   |some u=>have e':b=a:=hA b (by rw[q];simp);subst e';rw[hK (by rw[q];simp)]at e;cases e)
  have hBb:gU mg (qC f.heap<|put g):=by obtain⟨bm,ob,b1,b2,b3,b4,b5,b6⟩:=hB;exact⟨bm,ob,b1,b2,nh b3 (none_of b3 (λz=>by rw[z]at b6;cases b6) λz=>by rw[z]at b6;cases b6),b4,b5,b6⟩
  have hM:Mod K mg (qC f.heap<|put g):=⟨U,t za,⟨mb,t j,hbb⟩,let⟨mc,A,l⟩:=J;⟨mc,t A,l⟩⟩;have e0:Env0 P w K mg (qC f.heap<|put g) callerA [] f (put g):=⟨rfl,hM,λb o e=>RH e,aEn (GV _ _),trivial,λb j=>absurd (show b∈([]:List bp)from j) (by simp),T,.of_eq hg⟩;have tb0:Tb (put g):=λp hp=>mO _ p.1 p.2 (aU hTd hp);refine aDu ((F _ U (t za) hBb).run callerA [] f (put g) ⟨[.ref a],[]⟩ [.ref a] [.ref a] (λv _=>v=.bl true) (λ_ _ _=>False) hr e0 (xc f<|.ref a) (.cons rfl .nil) ⟨a,ns,rfl,hS,hl,xf,tb0,λ_=>rfl⟩) λr s' h=>?_;cases r with
  |error e=>exact(show False from h).elim
  |ok fl=>
   cases fl with
   |next=>exact aAg h
   |brk=>exact aAg h
   |cont=>exact aAg h
   |ret u=>
    obtain⟨v,H',os,bare,un,zc,r',q⟩:=h;have q':v=.bl true:=q;subst q';obtain rfl:u=aCJ true:=r';have B:∀b o,f.heap.get? b=some o->s'.heap.get? b=some o\/(isCodeTable f.heap b/\o=PySem.W.tabObj #[]/\∃I,s'.heap.get? b=some (PySem.W.tabObj I)):=λb o e=>by
     cases z:Tabs.tbs.lookup b with
     |some i=>have:=(C b i z).1;rw[e]at this;obtain⟨I,hps,_⟩:=zc b _ (un.tbls b i<|mO _ b i z);exact .inr ⟨(C b i z).2,Option.some.inj this,I,hps⟩
     |none=>
      refine .inl ?_;rcases hO b with n|⟨Y,n⟩
      .exact un.keep b o e (by rw[E _ b z];exact n) (by intro z;exact absurd (show b∈([]:List bp)from z) (by simp)) (by simp)
      .have z1:put g b=some (.frz {cls:=.type "list",data:=.seq vs.toArray} (.lst Y)):=by rw[E _ b z];exact n
       have z2:=un.frzs b _ _ z1;obtain⟨O,_⟩:=T b _ z1;obtain⟨e2,_⟩:=zc b _ z2;rw[e]at O;cases O;exact e2
    refine⟨rfl,⟨λb o e=>?_,λb o e=>?_⟩,os,bare⟩
    .rcases B b o e with h|⟨A,l,I,h3⟩
     .exact .inl h
     .subst l;exact .inr (.inl ⟨A,rfl,#[],I,rfl,by rw[Array.empty_append];exact h3⟩)
    .rcases B b o e with h|⟨A,l,I,h3⟩
     .exact⟨o,h⟩
     .exact⟨_,h3⟩
 cases hk:K.lookup a with
 |some o=>have e:=KX a o hk;rw[L]at e;cases e;refine y (λ_=>none) (λ_=>.inl rfl) (.inr ⟨_,vs.toArray,_,hk,rfl,rfl,rfl,by rw[aAl,N];exact gm,by simpa using rv⟩) (λb u z=>by have z':(none:Option HO)=some u:=z;cases z') (λb z=>absurd rfl z) λz=>absurd rfl z
 |none=>
  obtain⟨g,A,l⟩:∃g:Hp,g a=some (.frz {cls:=.type "list",data:=.seq vs.toArray} (.lst (ns.map V.int)))/\∀b,b≠a->g b=none:=⟨λb=>if b=a then _ else none,h9 rfl,λb j=>ic j⟩;refine y g (λb=>?_) (.inl (.inr ⟨{cls:=.type "list",data:=.seq vs.toArray},(E g a nta).trans A⟩)) (λb u z=>?_) (λb z=>?_) λ_=>hk
  .by_cases j:b=a
   .subst j;exact .inr ⟨_,A⟩
   .exact .inl (l b j)
  .by_cases j:b=a
   .subst j;rw[A]at z;cases z;exact⟨L,by rw[aAh];exact gm,vs,_,rv,L⟩
   .rw[l b j]at z;cases z
  .by_cases j:b=a
   .exact j
   .exact absurd (l b j) z
def QT {l:PySem.W.OpenLaw}{k:Nat}{q:cp}{e:List Str}{B:(Str->Option av)->cy->Prop}{y:cu->cy->Prop}{d:DefRec}{K:Params->jb}{z:List bp}
  (C:l.most=some 63) (n:d.params.defaults=[]) (E:Room k callerA)
  (H:∀(w:cu) (h:cy),y w h->(K w.params).In h/\∀P∈z,h.get? P=some (PySem.W.tabObj #[]))
  (r:∀p∈Tabs.tbs,p.1∈z/\∃c,∀w:cu,PySem.W.codeHdIn (K w.params) c p.1=true) (t:(Tabs.tbs.map (·.1)).Nodup) (v:∀w:cu,PySem.W.noTabs (K w.params)=true)
  (F:∀(w:cu) (mg:W6) (fa:bp) (h:cy),(K w.params).In h->h.Ns cf mg->mg d.name=some (.ref fa)->
   ∃fd:dA,(∀(s:bb) (u:av),BindsTo s fd ⟨[u],[]⟩ [("script",u)])/\
    ∀base:cy,(K w.params).In base->base.Ns cf mg->gU mg base->FnOk l.prog w (K w.params) mg base tW k fa fd ["script"] (tL (K w.params))):
  PySem.W.WalkO q e B y l.row.toRowW d [] (λf vs=>PySem.call f vs):=by
 refine Att2.attach_bits C n λw sa ag mg mb fa o pm cd I a vs ns G Y ho hd dn J j i m L N=>?_;obtain⟨x,O⟩:=H w _ Y;obtain⟨fd,Q,U⟩:=F w mg fa _ x G.T.g J;refine HJ x G.T.g G.T.b G.T.builtins G.T.nolimit G.T.bmain N j i m L E (λp hp=>?_) t (v w) U Q;obtain⟨h1,c,h2⟩:=r p hp;have A:=O p.1 h1;exact⟨A,((PySem.W.codeHd_of_K x<|h2 w).tab A).isCodeTable⟩
section
def FM (own N:List Str)(h:List Nat)(hc:X.calm=true)(S:CompSc X f own N h)(hi:TJ X U v6 Y)(hX:∀(b:K6) (o:List bp) (k:Cx),(∃sa Hb C,k=BL X b sa Hb (own++N) f (aZ X f C) C o)->IY k U G/\QF k p ft/\PD k t fe)(hG:∀ρ d ρ1,G d (i8 own h ρ)=.ok ρ1->uD ρ1 (i8 own h ρ))(hs:∀x,eN v6 X.env x=pure x:=by intro _;rfl):
  PF X (.ListComp t [⟨U,v6,p,0⟩] f pos) (λρ=>(Y ρ).bind λds=>if ds.length<=sizeLine then A0 G ft fe (i8 own h ρ) ds else .bad):=by
 refine rL λb s σ H Q I Ha O0 O ρ E q=>?_;dsimp only at q;rw[eval_ListComp];refine aDQ (use:=none) rfl hs (W8<|Inv.aa9 I S) S.kind S.names ?_;refine B1 (hi b s σ H (λJ g=>∃ds i,Same H g/\VF X.K J g O ds/\ds.length<=sizeLine/\A0 G ft fe (i8 own h ρ) ds=.ok i/\∀l g a,Same H g->g a=none->Reps X.K g O l i->Q (.ref a) (upd g a<|.lst l)) I ⟨Ha,O0,O,ρ,E,qK I O E.trk,?_⟩) λv s1 h1=>B1 h1 λitv s2 h2=>?_
 .cases u:Y ρ with
  |ex x=>rw[u]at q;exact q
  |bad=>rw[u]at q;exact q
  |ok ds=>
   rw[u,R.aa0]at q;intro J g s1 y;by_cases j:ds.length<=sizeLine
   .rw[h9 j]at q;cases n:A0 G ft fe (i8 own h ρ) ds with
    |ex x=>rw[n]at q;exact(q H<|Same.refl _).elim
    |bad=>rw[n]at q;exact q.elim
    |ok i=>rw[n]at q;exact⟨ds,i,s1,y,j,n,q⟩
   .rw[ic j]at q;exact q.elim
 .obtain⟨it,o,tn,J,H2,e,I2,T,kh,f2,ds,i,sm,y,j,z,q⟩:=h2;subst e;refine pA (RR:=λB C=>compPost (bt X.prog X.w) X.A X.xe none (EP X b σ Q) B C) hc S (hX b o) (hG ρ) I2 T kh f2 (E.grow sm) y.c z j ?_;intro B C s' H' m hn _ _ _ sm' r nw _ hI;obtain⟨g,l,xa,L,eH,rr⟩:=nw;subst eH;exact⟨m,hn,λh' ko=>⟨.ref B,_,hI h' ko,rfl,q l g B (sm.trans xa) L rr⟩⟩
def kw {Y es:List cv}{p:Pos}{env:Env}:a9 (.List Y p::es) env=(false,dq (.List Y p) env)::a9 es env:=rfl
def bz {Y:List cv}{p:Pos}{t:Option cv}{l:Nat}{env:Env}:et (Expr.List Y p) t l env=pure false:=rfl
def ZN:D->Bool
 |.int _=>true
 |_=>false
theorem Reps.af9 {K:jb}:∀{vs:List V} {ds:List D},Reps K H O vs ds->ds.all ZN=true->Reps K H' a vs ds
 |_,_,.nil,_=>.nil
 |_,_,.cons (d:=d) h t,e=>by
  rw[aFr,aAF]at e;cases d with
  |int i=>cases h;exact .cons .int (Reps.af9 t e.2)
  |_=>cases e.1
def CK (i:Nat){x:Str}{e k:cv}{f:Ev->R (List D)}{g:Ev->R D}{p ps pos:Pos}(he:PF X e f)(hk:PD X k g)(hN:X.N[i]?=some x:=by rfl)(hv:tE X.env.scope x:=by first|exact aCs rfl|exact aBC (aCs rfl)|exact aBC (aBC rfl))(hd:(x==jd)=false:=by decide)(dn:(x==ka)=false:=by decide)(ha:∀v,f7 (.Subscript (.Name x p) k ps) X.env v=(do
   let l<-fh [v] (dq (.Name x p) X.env)
   let t<-fh [v,l] (dq k X.env)
   standAt ps
   fh [v,l,t] (setItem l t v)
   release [v,l,t] []):=by intro _;rfl) (hs:swapsWithSole [.Subscript (.Name x p) k ps] e pos.line X.env=pure false:=by rfl) (hw:swappedStores [.Subscript (.Name x p) k ps] e X.env=pure none:=by rfl) (m:(dC [.Subscript (.Name x p) k ps] X.env).map (·.2)=[f7 (.Subscript (.Name x p) k ps) X.env]:=by rfl):
  oZ X (.Assign [.Subscript (.Name x p) k ps] e pos) (λρ=>(f (vM i ρ)).bind λds=>if ds.all ZN=true then(g ρ).bind λu=>ID i ρ u (.lst ds)else .bad):=λw y=>
 BZ (BN he (BF (M3 hN hv hd dn) hk xL ha) hs hw m) λD σ H O ρ E fk q=>by
  obtain⟨b,z⟩:∃b,EnvOk X.K w y H b σ (vM i ρ):=by
   unfold vM;cases e:ρ[i]? with
   |none=>exact⟨O,E⟩
   |some A=>
    cases A with
    |o Y=>obtain⟨b,z,_⟩:=E.disown e;exact⟨b,z⟩
    |_=>exact⟨O,E⟩
  refine⟨w,y,b,vM i ρ,z,?_⟩;cases B:f (vM i ρ)with
  |ex x=>rw[B]at q;exactλH' s=>q H' (E.same.trans s)
  |bad=>rw[B]at q;exact q
  |ok ds=>
   rw[B,R.aa0]at q;intro L Q a T d r0;by_cases C:ds.all ZN=true
   .rw[h9 C]at q;have U:Same H (upd Q a<|.lst L):=T.trans (j5 d _);have r1:Rep X.K (upd Q a<|.lst L) O (.ref a) (.lst ds):=.lst (N0.of i9) ((E.grow T).fresh d) (r0.af9 C);have I:=E.grow U;cases n:g ρ with
    |ok u=>
     rw[n,R.aa0]at q;unfold ID at q;cases r:ρ[i]? with
     |none=>rw[r]at q;exact aAg q
     |some A=>
      rw[r]at q;cases A with
      |o Y=>
       obtain⟨a',il,m,h2,h3,h4,h5⟩:=I.own i Y r;refine⟨_,m,w,y,O,ρ,I,?_⟩;rw[n];intro kv H2 h r2;have E2:=I.grow h;cases u with
       |int kk=>
        dsimp only at q;cases J:zH Y.length kk with
        |none=>rw[J]at q;exact aAg q
        |some j=>rw[J]at q;cases r2;refine⟨a',il,kk,j,rfl,rfl,h _ _ h4,by rw[h5.length];exact J,?_⟩;obtain⟨E3,k3⟩:=E2.write r m ((h5.same h).set (r1.same h) j);exact q σ _ O E3 fk (((Kp.of U).trans (Kp.of h)).trans k3)
       |_=>exact aAg q
      |_=>exact aAg q
    |ex x=>rw[n]at q;exact(q H E.same).elim
    |bad=>rw[n]at q;exact aAg q
   .rw[ic C]at q;exact q.elim
end
end
end DL
namespace DL
open PySem L2
def iJ (G:D->Ev->R Ev)(F:Ev->R Out)(d:D)(ρ:Ev):R Out:=match G d ρ with
 |.ok a=>F a
 |_=>.bad
@[simp]def fM (i:Nat)(F:Ev->R Out)(d:D)(ρ:Ev):iJ (λd ρ=>.ok (ρ.set i (Sl.v d))) F d ρ=F (ρ.set i (.v d)):=rfl
@[simp]def oj (G:D->Ev->R Ev)(F:Ev->R Out)(ρ:Ev):T9 G F [] ρ=.ok (.nx ρ):=rfl
def JW {α:Type}{a b:α}:(R.ok a=R.ok b)=(a=b):=by simp
class Bd (a:Int)(n:outParam Nat):Prop where
 h:bits a<=n
def B5 (h:bits a<=m)(b:m<=n):bits a<=n:=aAq h b
section
end
abbrev vd (v:G.V):D:=.tup [.int v.x,.int v.y,.int v.z]
def Sz (n:Nat)(v:G.V):Prop:=bits v.x<=n/\bits v.y<=n/\bits v.z<=n
def Sz.mono (h:Sz m v)(a:m<=n:=by decide):Sz n v:=⟨B5 h.1 a,B5 h.2.1 a,B5 h.2.2 a⟩
def Sz.sub (h:Sz n u)(h':Sz n v):Sz (n+1) (u-v):=⟨bits_sub h.1 h'.1,bits_sub h.2.1 h'.2.1,bits_sub h.2.2 h'.2.2⟩
def Sz.add (h:Sz n u)(h':Sz n v):Sz (n+1) (u+v):=⟨bits_add h.1 h'.1,bits_add h.2.1 h'.2.1,bits_add h.2.2 h'.2.2⟩
def Sz.smul (a:bits k<=m)(h:Sz n v):Sz (m+n) (k*v):=⟨bits_mul a h.1,bits_mul a h.2.1,bits_mul a h.2.2⟩
def Sz.cr (h:Sz m u)(h':Sz n v):Sz (m+n+1) (G.cr u v):=⟨bits_sub (bits_mul h.2.1 h'.2.2) (bits_mul h.2.2 h'.2.1),bits_sub (bits_mul h.2.2 h'.1) (bits_mul h.1 h'.2.2),bits_sub (bits_mul h.1 h'.2.1) (bits_mul h.2.1 h'.1)⟩
end DL
namespace M
open PySem L2 DL
abbrev pt (a b c:Int):D:=.tup [.int a,.int b,.int c]
abbrev VQ (n:Nat)(a b c:Int):Prop:=bits a<=n/\bits b<=n/\bits c<=n
def zG (k:List D->List D->R D):List D->R D
 |.lst Y::a=>k Y a
 |_=>.bad
def QH (k:List D->List D->R D):List D->R D
 |.tup Y::a=>k Y a
 |_=>.bad
def oV (k:Int->List D->R D):List D->R D
 |.int a::b=>k a b
 |_=>.bad
def M2 {k:Int->List D->R D}{ds:List D}{r:D}(h:oV k ds=.ok r):∃a e,ds=.int a::e/\k a e=.ok r:=by
 unfold oV at h;split at h
 .exact⟨_,_,rfl,h⟩
 .cases h
def iO (q:R D):List D->R D
 |[]=>q
 |_=>.bad
def aE (h:zG k ds=.ok r):∃Y e,ds=.lst Y::e/\k Y e=.ok r:=by
 unfold zG at h;split at h
 .exact⟨_,_,rfl,h⟩
 .cases h
def sV (h:QH k ds=.ok r):∃Y e,ds=.tup Y::e/\k Y e=.ok r:=by
 unfold QH at h;split at h
 .exact⟨_,_,rfl,h⟩
 .cases h
def y8 (h:iO q ds=.ok r):ds=[]/\q=.ok r:=by
 unfold iO at h;split at h
 .exact⟨rfl,h⟩
 .cases h
def v1 (k:Int->Int->Int->List D->R D):List D->R D:=QH λY e=>oV (λa=>oV λb=>oV λc=>iO (k a b c e)) Y
def v4 (k:Int->Int->Int->Int->List D->R D):List D->R D:=QH λY e=>oV (λa=>oV λb=>oV λc=>oV λd=>iO (k a b c d e)) Y
def v3 (k:Int->Int->Int->List D->R D):List D->R D:=QH λY e=>oV (λa=>oV λb=>oV λc _=>k a b c e) Y
def VV (h:v3 k ds=.ok r):∃a b c t e,ds=.tup (.int a::.int b::.int c::t)::e/\k a b c e=.ok r:=by obtain⟨Y,e,rfl,h⟩:=sV h;obtain⟨a,x,rfl,h⟩:=M2 h;obtain⟨b,y,rfl,h⟩:=M2 h;obtain⟨c,z,rfl,h⟩:=M2 h;exact⟨a,b,c,z,e,rfl,h⟩
def F9 (h:v1 k ds=.ok r):∃a b c e,ds=.tup [.int a,.int b,.int c]::e/\k a b c e=.ok r:=by obtain⟨Y,e,rfl,h⟩:=sV h;obtain⟨a,x,rfl,h⟩:=M2 h;obtain⟨b,y,rfl,h⟩:=M2 h;obtain⟨c,z,rfl,h⟩:=M2 h;obtain⟨rfl,h⟩:=y8 h;exact⟨a,b,c,e,rfl,h⟩
def VZ (h:v4 k ds=.ok r):∃a b c d e,ds=.tup [.int a,.int b,.int c,.int d]::e/\k a b c d e=.ok r:=by obtain⟨Y,e,rfl,h⟩:=sV h;obtain⟨a,x,rfl,h⟩:=M2 h;obtain⟨b,y,rfl,h⟩:=M2 h;obtain⟨c,z,rfl,h⟩:=M2 h;obtain⟨d,w,rfl,h⟩:=M2 h;obtain⟨rfl,h⟩:=y8 h;exact⟨a,b,c,d,e,rfl,h⟩
def o5:List D->R D:=v1 λa b c=>v1 λd e f=>iO (.ok (pt (d-a) (e-b)<|f-c))
def w5:List D->R D:=v1 λa b c=>v1 λd e f=>iO (if VQ 20000000 a b c/\VQ 20000000 d e f then .ok (pt (b*f-c*e) (c*d-a*f)<|a*e-b*d)else .bad)
def o6:List D->R D:=v3 λa b c=>v1 λd e f=>iO (if VQ 50000000 a b c/\VQ 50000000 d e f then .ok (.int (a*d+b*e+c*f))else .bad)
@[simp]def LI (P Q:G.V):o5 [vd P,vd Q]=.ok (vd (Q-P)):=rfl
def bO (a:Sz 20000000 u)(b:Sz 20000000 v):w5 [vd u,vd v]=.ok (vd (G.cr u v)):=h9 ⟨a,b⟩
def gZ (a:Sz 50000000 u)(b:Sz 50000000 v):o6 [vd u,vd v]=.ok (.int (G.c5 u v)):=h9 ⟨a,b⟩
def rule (k:Int):Int:=7*k*k+10*k+3
def P64:Int:=10^64
def P34:Int:=10^34
def a2m:Int:=P64*P34
def sgn (x:Int):Int:=if 0<x then 1 else if x<0 then-1 else 0
def Y8:List D->R D:=v4 λa b c d=>v1 λx y z=>iO (if VQ 50000000 a b c/\VQ 50000000 x y z then .ok (.int (sgn<|a*x+b*y+c*z-d))else .bad)
def TW (e:VQ 50000000 a b c)(f:VQ 50000000 x y z):Y8 [.tup [.int a,.int b,.int c,.int d],pt x y z]=.ok (.int (sgn (a*x+b*y+c*z-d))):=h9 ⟨e,f⟩
def rq (i:Nat)(ρ:Ev):Nat:=match ρ[i]? with
 |some (.v (.int b))=>b.natAbs+2
 |_=>0
def yP (d:bits a<=n)(f:bits b<=n):bits (aGw a b)<=n:=by
 refine DR ?_;have g:=DO d;have h:=DO f;have e:((aGw a b:Nat):Int).natAbs=aGw a b:=by simp
 rw[e];unfold aGw;rcases Nat.eq_zero_or_pos a.natAbs with z|z
 .rw[z,Nat.gcd_zero_left];exact h
 .exact aCq (Nat.gcd_le_left _ z) g
end M
namespace DL
open PySem PySem.Spec L2
open PyProof.Rows hiding St
section
variable [Tabs]in
end
theorem rO (Iv:List D->Ev->Prop)(b:∀d ds ρ,Iv (d::ds) ρ->∃ρ2,iJ G F d ρ=.ok (.nx ρ2)/\Iv ds ρ2):∀{ds:List D} {ρ:Ev},Iv ds ρ->∃ρ',T9 G F ds ρ=.ok (.nx ρ')/\Iv [] ρ'
 |[],ρ,h=>⟨ρ,rfl,h⟩
 |d::ds,ρ,h=>by
  obtain⟨ρ2,e,f⟩:=b d ds ρ h;obtain⟨ρ',g,i⟩:=rO Iv b f;unfold iJ at e;cases a:G d ρ with
  |ok j=>rw[a]at e;exact⟨ρ',by rw[T9,a];dsimp only at e⊢;rw[e];exact g,i⟩
  |ex x=>rw[a]at e;cases e
  |bad=>rw[a]at e;cases e
def gM (Iv:List D->Ev->Prop)(a:∀d ds ρ,Iv (d::ds) ρ->∃ρ2,iJ G F d ρ=.ok (.nx ρ2)/\Iv ds ρ2)(h0:Iv ds ρ)(b:∀ρ',Iv [] ρ'->M9 (f ρ')=.ok d):
  M9 (B8 (T9 G F ds ρ) f)=.ok d:=by
 obtain⟨ρ',e,h⟩:=rO Iv a h0;rw[e];exact b ρ' h
def wZ {Post:Ev->Prop}(Iv:Nat->Ev->Prop)(b:∀n ρ,Iv (n+1) ρ->c ρ=.ok false\/(c ρ=.ok true/\∃ρ2,F ρ=.ok (.nx ρ2)/\Iv n ρ2))(a:∀ρ,¬Iv 0 ρ)(h0:Iv n ρ)(d:∀m ρ',Iv m ρ'->c ρ'=.ok false->Post ρ'):∃ρ2,R8 c F n ρ=.ok (.nx ρ2)/\Post ρ2:=by obtain⟨m,ρ',e,h,f⟩:=fP Iv b a n ρ h0;exact⟨ρ',e,d m ρ' h f⟩
end DL
namespace M
open PySem L2 DL
abbrev vY (n:G.V)(d:Int):D:=.tup [.int n.x,.int n.y,.int n.z,.int d]
def G8:List D->R D:=v1 λa b c=>iO (.ok (.int (G.x9 ⟨a,b,c⟩)))
def zZ (v:G.V):G8 [vd v]=.ok (.int (G.x9 v)):=rfl
def Sz3 (P Q R:G.V):Prop:=Sz 1000 P/\Sz 1000 Q/\Sz 1000 R
open Classical in
def R5:List D->R D:=v1 λa b c=>v1 λd e f=>v1 λg h i=>iO (
 if Sz3 ⟨a,b,c⟩ ⟨d,e,f⟩ ⟨g,h,i⟩/\G.cr ((⟨d,e,f⟩:G.V)-⟨a,b,c⟩) ((⟨g,h,i⟩:G.V)-⟨a,b,c⟩)≠0 then .ok (vY (G.j7 ⟨a,b,c⟩ ⟨d,e,f⟩ ⟨g,h,i⟩).1 (G.j7 ⟨a,b,c⟩ ⟨d,e,f⟩ ⟨g,h,i⟩).2)else .bad)
def MG {P Q R:G.V}(h:Sz3 P Q R)(a:G.cr (Q-P) (R-P)≠0):R5 [vd P,vd Q,vd R]=.ok (vY (G.j7 P Q R).1 (G.j7 P Q R).2):=h9 ⟨h,a⟩
def GI (h:Sz n v):bits (G.x9 v:Nat)<=n:=by
 have e:((G.x9 v:Nat):Int)=aGw (aGw v.x v.y:Nat) v.z:=by simp[G.x9,aGw]
 rw[e];exact yP (yP h.1 h.2.1) h.2.2
def mU {a g:Int}(h:0<g):a.fdiv g=a/g:=aEP a (aAL h)
end M
namespace DL
open PySem PySem.Spec L2
open PyProof.Rows hiding St
section
variable [Tabs]
mutual
inductive HV (h:Heap):Value->D->Prop
 |int (i:Int) (t:Tok):HV h (.int i t) (.int i)
 |tup {a:Addr} {B:Array Value} {ds:List D} (p:IsTup h a B) (r:HVs h B.toList ds):HV h (.ref a) (.tup ds)
inductive HVs (h:Heap):List Value->List D->Prop
 |nil:HVs h [] []
 |cons {v:Value} {d:D} {vs:List Value} {ds:List D} (r:HV h v d) (t:HVs h vs ds):HVs h (v::vs) (d::ds)
end
mutual
def lY:D->Bool
 |.int _=>true
 |.tup Y=>bN Y
 |_=>false
def bN:List D->Bool
 |[]=>true
 |x::Y=>lY x&&bN Y
end
theorem fG:∀Y:List D,sR Y=Y.map m7
 |[]=>rfl
 |x::Y=>by rw[sR,fG Y];rfl
section
mutual
theorem HV.keeps (k:∀b o,h.get? b=some o->o.cls=.type "tuple"->h'.get? b=some o):∀{v:av} {d:D},HV h v d->HV h' v d
 |_,_,.int i t=>.int i t
 |_,_,.tup p r=>.tup (by obtain⟨o,e,c,n,d⟩:=p;exact⟨o,k _ _ e c,c,n,d⟩) (HVs.keeps k r)
theorem HVs.keeps (k:∀b o,h.get? b=some o->o.cls=.type "tuple"->h'.get? b=some o):∀{v:List av} {d:List D},HVs h v d->HVs h' v d
 |_,_,.nil=>.nil
 |_,_,.cons r t=>.cons (HV.keeps k r) (HVs.keeps k t)
end
mutual
theorem HV.inj:∀{v:av} {d d':D},HV h v d->HV h v d'->d=d'
 |_,_,_,.int i t,.int _ _=>rfl
 |_,_,_,.tup p r,.tup f g=>by obtain⟨o,e,c,n,j⟩:=p;obtain⟨k,a,l,m,b⟩:=f;rw[e]at a;cases a;rw[j]at b;injection b with q _;subst q;rw[HVs.inj r g]
theorem HVs.inj:∀{v:List av} {d d':List D},HVs h v d->HVs h v d'->d=d'
 |_,_,_,.nil,.nil=>rfl
 |_,_,_,.cons r t,.cons a b=>by rw[HV.inj r a,HVs.inj t b]
end
theorem HVs.length:∀{v:List av} {d:List D},HVs h v d->v.length=d.length
 |_,_,.nil=>rfl
 |_,_,.cons _ t=>by simp[HVs.length t]
end
section
variable{prog:cp} {w:cu}
def PH (prog:cp)(w:cu)(h:cy)(v:av)(d:D):Prop:=∀(A:cq) (E:D3) (s:bb) (Q:Int->bb->Prop),s.heap=h->A.units+8*E8 d<dy->(∀a,s.toks<=a->Q (m7 d) {s with toks:=a})->bc (bt prog w) A (pyHash v) Q E s
mutual
theorem VJ:∀{v:av} {d:D},HV h v d->PH prog w h v d
 |_,_,.int i t=>λA E s Q L N q=>by exact(intKind prog w).pyHash (k:=i) (intKind_is _ _ _ _) (q _<|Nat.le_succ _)
 |_,_,.tup (a:=a) (B:=B) (ds:=ds) p r=>λA E s Q L N q=>by
  have fs:=NX r;subst L;obtain⟨o,O,U,n,Y⟩:=p;have u:s.TypeIs (.ref a) "tuple":=⟨o,O,U⟩;have H:A.units<dy:=by lia
  rw[E8]at N;unfold pyHash;first|unfold pyHashByItsType|skip
  first|refine aAa (wpAny_cRoomFor_or (.inr H) ?_)|skip
  refine aAa (aBt u PySem.F.slot_tuple_hash.lookup ?_);show bc _ _ (if(some (aDA "tuple.__hash__")==some Value.none)=true then _ else _) Q E s;rw[ic (by rw[aFy];exact aAV)];refine aAa (aBt u PySem.F.slot_tuple_hash.lookup ?_);show bc _ _ (callSpecialIfBoundUnlessNone? (.ref a) "__hash__" _>>=_) Q E s;refine aAa (aDp u PySem.F.slot_tuple_hash<|aBs PySem.F.slot_tuple_hash u PySem.F.entry_tuple_hash ?_ (PySem.F.args_tuple_hash_1 _));show bc _ _ (aDD (.ref a)>>=_) _ _ s;refine aAa (wpAny_tupleItemsOf O Y ?_);refine aAa ?_;rw[<-aCt];refine aCw _
   (λrest (b:Array Int) I=>∃done left g,ds=done++left/\Paired (PH prog w s.heap) rest left/\b.toList=done.map m7/\s.toks<=g/\I={s with toks:=g})
   _ ?_ ?_ _ _ ⟨[],ds,s.toks,rfl,fs,rfl,aAi _,rfl⟩
  .rintro x rest b I ⟨done,left,g,l,J,y,xg,rfl⟩;cases J with
   |@cons _ d _ e h1 T=>
    refine aAa (h1 _ _ _ _ rfl ?_ λz f=>?_)
    .have:E8 d<=J5 ds:=by rw[l];exact uI (j:=done.length) (by simp)
     rw[u6];lia
    first
     |exact aAb ⟨done++[d],e,z,by simp[l],T,by simp[y],by(have:g<=z:=f);lia,rfl⟩
     |exact aAa (aAb (aAb ⟨done++[d],e,z,by simp[l],T,by simp[y],by(have:g<=z:=f;lia),rfl⟩))
  .rintro b I ⟨done,left,g,l,J,y,xg,rfl⟩;cases J;rw[aBL]at l;subst l;show bc _ _ (retInt<|aAP b.toList) _ _ _;rw[y];refine wpAny_ret_mkInt ?_;show bc _ _ (if(decide (-(2:Int)^63<=aAP (ds.map m7))&&decide (aAP (ds.map m7)<2^63))=true then _ else _) Q E _;have m:=q (g+1) (by lia);rw[m7,fG]at m;unfold reduceHash at m;by_cases C:(decide (-(2:Int)^63<=aAP (ds.map m7))&&decide (aAP (ds.map m7)<2^63))=true
   .rw[h9 C];rw[h9 C]at m;exact aAb m
   .rw[ic C];rw[ic C]at m;exact aAa (aDO<|aAb m)
theorem NX:∀{v:List av} {d:List D},HVs h v d->Paired (PH prog w h) v d
 |_,_,.nil=>.nil
 |_,_,.cons r t=>.cons (VJ r) (NX t)
end
mutual
theorem DI:∀{v u:av} {d e:D} {A:cq},HV s.heap v d->HV s.heap u e->A.units+E8 d<dy->SeqAt.EqAt A s v u (u0 d e)
 |_,_,_,_,A,.int i t,.int j h,_=>by simp only[u0];exact aEV _ _ _ _
 |_,_,_,_,A,.int i t,.tup p r,b=>by simp only[u0];exact aFZ _ _ p (by lia)
 |_,_,_,_,A,.tup p r,.int j h,b=>by simp only[u0];exact aGa _ _ p (by lia)
 |_,_,_,_,A,.tup (a:=a) (ds:=ds) p r,.tup (a:=k) (ds:=l) g f,b=>by
  by_cases e:a=k
  .subst e;have:=HV.inj (.tup p r) (.tup g f);rw[this,R1];exact aDY _
  .simp only[u0];rw[E8]at b;exact aEW e (jP (by simpa using p) (by simpa using g) r.length f.length (by lia) (MB r f (by rw[u6];lia))).1
theorem MB:∀{vs e:List av} {ds es:List D} {A:cq},HVs s.heap vs ds->HVs s.heap e es->A.in1.units+J5 ds<dy->lH A s vs e ds es
 |_,_,_,_,A,.nil,_,_=>λj u w a b=>by simp at a
 |_,_,_,_,A,.cons r t,.nil,_=>λj u w a b=>by simp at b
 |_,_,_,_,A,.cons (d:=d) (ds:=ds) r t,.cons (d:=i) (ds:=k) f g,h=>λj u w a b=>by
  rw[J5]at h;match j,a,b with
  |0,a,b=>simp only[aDf,aGt]at a b;subst a b;exact DI r f (by lia)
  |j+1,a,b=>simp only[aFs]at a b;exact MB t g (by lia) j u w a b
end
mutual
theorem dF:∀{d e:D},lY d=true->lY e=true->u0 d e=true->d=e
 |.int i,.int j,_,_,h=>by simp[u0]at h;rw[h]
 |.tup Y,.tup N,a,b,h=>by rw[lY]at a b;rw[u0]at h;rw[xP a b h]
 |.int _,.tup _,_,_,h=>by simp[u0]at h
 |.tup _,.int _,_,_,h=>by simp[u0]at h
 |.non,_,h,_,_=>by simp[lY]at h
 |.bl _,_,h,_,_=>by simp[lY]at h
 |.str _,_,h,_,_=>by simp[lY]at h
 |.lst _,_,h,_,_=>by simp[lY]at h
 |_,.non,_,h,_=>by simp[lY]at h
 |_,.bl _,_,h,_=>by simp[lY]at h
 |_,.str _,_,h,_=>by simp[lY]at h
 |_,.lst _,_,h,_=>by simp[lY]at h
theorem xP:∀{d e:List D},bN d=true->bN e=true->T2 d e=true->d=e
 |[],[],_,_,_=>rfl
 |[],_::_,_,_,h=>by simp[T2]at h
 |_::_,[],_,_,h=>by simp[T2]at h
 |x::Y,y::N,a,b,h=>by rw[bN,aAF]at a b;rw[T2,aAF]at h;rw[dF a.1 b.1 h.1,xP a.2 b.2 h.2]
end
mutual
theorem HV.ok:∀{v:av} {d:D},HV h v d->lY d=true
 |_,_,.int i t=>rfl
 |_,_,.tup p r=>by rw[lY];exact HVs.ok r
theorem HVs.ok:∀{v:List av} {d:List D},HVs h v d->bN d=true
 |_,_,.nil=>rfl
 |_,_,.cons r t=>by rw[bN,HV.ok r,HVs.ok t];rfl
end
mutual
theorem iK:∀{v:av} {d:D} (k:Nat),HV h v d->E8 d<k->∀(M:hV) (A:cq) (E:D3) (s:bb) (Q:vT),s.heap=h->Q true s->bc M A (eqIsQuiet k v) Q E s
 |_,_,k,.int i t,_=>λM A E s Q m q=>by unfold eqIsQuiet;exact aAb q
 |_,_,k,.tup (a:=a) (B:=B) (ds:=ds) p r,e=>λM A E s Q m q=>by
  subst m;obtain⟨o,u,y,n,z⟩:=p;have x:s.TypeIs (.ref a) "tuple":=⟨o,u,y⟩;match k,e with
  |k+1,e=>
   rw[E8]at e;unfold eqIsQuiet;refine aAa (aBt x PySem.F.slot_tuple_eq.lookup ?_);show bc _ _ (isInstance (.ref a) (.type "tuple")>>=_) _ _ s;refine aAa (aDL x isSubtype_tuple_tuple ?_);simp only[aDy,aAu,if_false];refine aAa (aBM u z ?_);refine aAa ?_;show bc _ _ (forIn B _ _) _ _ s;rw[<-aCt];refine aCw _ (λrest r b=>r.1=none/\b=s/\∃f,HVs s.heap rest f/\J5 f<k) _ ?_ ?_ _ _ ⟨rfl,rfl,ds,r,by lia⟩
   .rintro v rest r b ⟨g,rfl,f,j,l⟩;cases j with
    |@cons _ d _ C j H=>rw[J5]at l;refine aAa (iK k j (by lia) M A E b _ rfl ?_);simp only[aDy,aAu,if_false];exact aAb ⟨rfl,rfl,C,H,by lia⟩
   .rintro⟨I,J⟩ b ⟨g,rfl,_⟩;simp only at g;subst g;exact aAb q
end
mutual
theorem fD:∀{v:av} {d:D} (k:Nat),HV h v d->E8 d<k->∀(M:hV) (A:cq) (E:D3) (s:bb) (Q:vT),s.heap=h->Q false s->bc M A (ofAClassStatement k v) Q E s
 |_,_,k,.int i t,_=>λM A E s Q m q=>by unfold ofAClassStatement;exact aAb q
 |_,_,k,.tup (a:=a) (B:=B) (ds:=ds) p r,e=>λM A E s Q m q=>by
  subst m;obtain⟨o,u,x,n,y⟩:=p;have z:s.TypeIs (.ref a) "tuple":=⟨o,u,x⟩;match k,e with
  |k+1,e=>
   rw[E8]at e;unfold ofAClassStatement;refine aAa (aDP z ?_);dsimp only;rw[h9 (by decide)];refine aAa (aAb ?_);simp only[aDy,aAu,if_false];refine aAa (aBM u y ?_);dsimp only;refine aAa ?_;show bc _ _ (forIn B _ _) _ _ s;rw[<-aCt];refine aCw _ (λrest r b=>r.1=none/\b=s/\∃f,HVs s.heap rest f/\J5 f<k) _ ?_ ?_ _ _ ⟨rfl,rfl,ds,r,by lia⟩
   .rintro v rest r b ⟨g,rfl,f,j,l⟩;cases j with
    |@cons _ d _ C j H=>rw[J5]at l;refine aAa (fD k j (by lia) M A E b _ rfl ?_);simp only[aAu,if_false];exact aAb ⟨rfl,rfl,C,H,by lia⟩
   .rintro⟨I,J⟩ b ⟨g,rfl,_⟩;simp only at g;subst g;exact aAb q
end
mutual
theorem mS:∀{v:av} {d:D} (k:Nat),HV h v d->E8 d<k->∀(M:hV) (A:cq) (E:D3) (s:bb) (Q:vT),s.heap=h->Q true s->bc M A (hashByValue k v) Q E s
 |_,_,k,.int i t,_=>λM A E s Q m q=>by unfold hashByValue;exact aAb q
 |_,_,k,.tup (a:=a) (B:=B) (ds:=ds) p r,e=>λM A E s Q m q=>by
  subst m;obtain⟨o,u,x,n,y⟩:=p;have z:s.TypeIs (.ref a) "tuple":=⟨o,u,x⟩;match k,e with
  |k+1,e=>
   rw[E8]at e;unfold hashByValue;refine aAa (aBt z PySem.F.slot_tuple_hash.lookup ?_);dsimp only;refine aAa (aBM u y ?_);refine aAa ?_;show bc _ _ (forIn B _ _) _ _ s;rw[<-aCt];refine aCw _ (λrest r b=>r.1=none/\b=s/\∃f,HVs s.heap rest f/\J5 f<k) _ ?_ ?_ _ _ ⟨rfl,rfl,ds,r,by lia⟩
   .rintro v rest r b ⟨g,rfl,f,j,l⟩;cases j with
    |@cons _ d _ C j H=>rw[J5]at l;refine aAa (mS k j (by lia) M A E b _ rfl ?_);simp only[aDy,aAu,if_false];exact aAb ⟨rfl,rfl,C,H,by lia⟩
   .rintro⟨I,J⟩ b ⟨g,rfl,_⟩;simp only at g;subst g;exact aAb q
end
def jQ {α:Type}{M:hV}{A:cq}{E:D3}{s:bb}{Q:α->bb->Prop}{c:Prop}[Decidable c]{a b:Sem α}(d:c->bc M A a Q E s)(e:¬c->bc M A b Q E s):bc M A (if c then a else b) Q E s:=by
 by_cases h:c
 .rw[h9 h];exact d h
 .rw[ic h];exact e h
def WK {M:hV}{A:cq}{E:D3}{s:bb}{Q:vT}{x:av}{d:D}(j:HV s.heap x d)(k:E8 d<8)(N:List av)(m:∀y∈N,∃e,HV s.heap y e/\E8 e<8)(q:Q false s):bc M A (searchCouldBeSeen x N) Q E s:=by
 unfold searchCouldBeSeen;refine aAa ?_;refine aCw _ (λrest r a=>r.1=none/\a=s/\∀y∈rest,y∈N) _ ?_ ?_ _ _ ⟨rfl,rfl,λy h=>h⟩
 .rintro y rest r a ⟨f,rfl,g⟩;obtain⟨e,l,b⟩:=m y (g y (by simp));dsimp only;refine jQ (λ_=>?_) (λ_=>?_)
  .exact aAb ⟨rfl,rfl,λz i=>g z (aAe _ i)⟩
  .refine aAa (iK 8 j k M A E a _ rfl ?_);simp only[aDy,aAu,if_false];refine aAa (iK 8 l b M A E a _ rfl ?_);simp only[aDy,aAu,if_false];refine aAa (fD 8 j k M A E a _ rfl ?_);simp only[aAu,if_false];refine aAa (fD 8 l b M A E a _ rfl ?_);simp only[aAu,if_false];exact aAb ⟨rfl,rfl,λz i=>g z (aAe _ i)⟩
 .rintro⟨n,o⟩ a ⟨f,rfl,_⟩;simp only at f;subst f;exact aAb q
end
def EV (h:cy)(e:Int×av)(d:D):Prop:=HV h e.2 d/\e.1=m7 d
theorem F7 {α β:Type}{F:α->β->Prop}:∀{l:List α} {m:List β} {i:Nat} {a:α},Paired F l m->l[i]?=some a->∃b,m[i]?=some b/\F a b
 |_,_,_,_,.nil,h=>by simp at h
 |_,_,0,_,.cons r _,h=>by simp at h;subst h;exact⟨_,rfl,r⟩
 |_,_,i+1,a,.cons _ t,h=>by obtain⟨b,d,e⟩:=F7 (i:=i) t (by simpa using h);exact⟨b,by simpa using d,e⟩
theorem cE {α β:Type}{F:α->β->Prop}:∀{l:List α} {m:List β} {i:Nat} {b:β},Paired F l m->m[i]?=some b->∃a,l[i]?=some a/\F a b
 |_,_,_,_,.nil,h=>by simp at h
 |_,_,0,_,.cons r _,h=>by simp at h;subst h;exact⟨_,rfl,r⟩
 |_,_,i+1,a,.cons _ t,h=>by obtain⟨b,d,e⟩:=cE (i:=i) t (by simpa using h);exact⟨b,by simpa using d,e⟩
theorem gA {α β:Type}{F:α->β->Prop}:∀{l:List α} {m:List β},Paired F l m->l.length=m.length
 |_,_,.nil=>rfl
 |_,_,.cons _ t=>by simp[gA t]
section
variable{es:Array (Int×av)}
def iI (K:ST.SOk t es.toList):t.fits es.size=true:=by
 have a:=K.len;have d:=K.room;have b:=K.tab.nod;unfold aGo SetTable.fill;rw[b];simp at a⊢
 lia
theorem kQ (ho:s.heap.get? S=some o)(hd:o.data=.set es ep t)(K:ST.SOk t es.toList)(B:t.mask%2=1)(P:Paired (EV s.heap) es.toList ds)(O:HV s.heap (.ref x) (.tup Y))(C:E8 (.tup Y)<8)(yc:∀e∈ds,E8 e<8)(hT:∀e∈ds,∃N,e=.tup N)
  (hu:A.units+16<dy) (hf:ST.T8 t (m7 (.tup Y)) n0) {Q:SetFound->bb->Prop} (g:D.tup Y∈ds->Q (.there none) s) (b:D.tup Y∉ds->Q (.free (ST.l8 t.mask (m7 (.tup Y)) n0).j false) s):
  ∀(a n:Nat) (T:Option SetTable.Probe),T.getD (t.probeStart (m7 (.tup Y)))=ST.l8 t.mask (m7 (.tup Y)) n->n<=n0->n0-n<a->
   (∀m<n,∀(i:Nat),t.place[i]?=some (ST.l8 t.mask (m7 (.tup Y)) m).j->ds[i]?≠some (.tup Y))->bc (bt prog w) A (setSearchFrom S (.ref x) (m7 (.tup Y)) true a T) Q E s
 |0,n,T,_,_,h,_=>by lia
 |a+1,n,T,ji,hn,hfu,H=>by
  unfold setSearchFrom;refine aAa (aCj ho hd (iI K) ?_);dsimp only;refine jQ (λz=>?_) (λ_=>?_)
  .unfold SetTable.gaveWay at z;simp at z;lia
  rw[ji];obtain⟨U,a1,a2,a3,a4⟩:=ST.JJ K.tab (λi=>(es[i]?.map (·.1)).getD 0) (m7<|.tup Y) hf n hn;generalize hg:t.probe _ (m7<|.tup Y) (ST.l8 t.mask (m7<|.tup Y) n)=pm;rcases a4 with⟨en,e⟩|⟨ar,i,u,hh,e⟩
  .have ep:pm=_:=hg.symm.trans e;rw[ep];dsimp only;refine aAb (b λI=>?_);obtain⟨i,u⟩:=aDs.mp I;obtain⟨⟨J,v⟩,he,h1,h2⟩:=cE P u;obtain⟨j,hj,qm⟩:=ST.TH K.len he;dsimp only at h2;have hr:=K.reach _ qm;dsimp only at hr;rw[h2]at hr;obtain⟨m,I,em⟩:=ST.Reach.before hf (by rw[<-aAD]at hj;exact aAt hj) hr;by_cases z:m<n
   .exact H m z i (by rw[em];exact hj) u
   .obtain⟨f,fb,au⟩:=a3 m (by lia) (by lia);have:f=i:=by have g:=ST.K9 K.tab fb;have b:=ST.K9 K.tab hj;rw[em]at g;rw[g]at b;injection b
    subst this;refine au ?_;show(es[f]?.map (·.1)).getD 0=_;rw[<-aAD,he];exact h2
  .have ep:pm=_:=hg.symm.trans e;rw[ep];dsimp only;have L:i<es.size:=by
    have:=(aCh.mp u).1;have h1:=K.len;simp at h1
    lia
   have l:es[i]?=some es[i]:=aAJ L;obtain⟨di,d,J,q⟩:=F7 P (show es.toList[i]?=some es[i]by rw[aAD];exact l);obtain⟨N,rfl⟩:=hT di (aAt d);have go:bc (bt prog w) A (do
     let some (_,y):=es[i]?|unsupported "internal:set-entry"
     let equal<-fh [y] (eqBool y<|.ref x)
     let(es',_,t')<-setState S
     if true&&equal then return .there none
     let some same:=t'.sameMemory t.moves t.mask|unsupported "set.changed-during-lookup:is-the-new-block-at-the-old-address"
     let VC<-match(if same then t'.slot (ST.l8 t.mask (m7<|.tup Y) U).j else .empty)with
      |.live f=>match es'[f]? with
       |some (_,y')=>do pure (if<-isSame y' y then some f else none)
       |none=>pure none
      |_=>pure none
     match VC with
     |none=>rule "set.search.anew";setSearchFrom S (.ref x) (m7<|.tup Y) true a none
     |some f=>if equal then return .there (some f)else setSearchFrom S (.ref x) (m7<|.tup Y) true a (some<|ST.l8 t.mask (m7<|.tup Y)<|U+1)) Q E s:=by
    rw[l];generalize he:es[i]=en at*
    obtain⟨hn,y⟩:=en;dsimp only at J q⊢;refine aAa (aAR (DI J O (by have:=yc _ (aAt d);lia) prog w E _ ?_));refine aAa (aCj ho hd (iI K) ?_);dsimp only;cases hq:u0 (.tup N) (.tup Y)with
    |true=>rw[h9 (show(true&&true)=true from rfl)];have:D.tup N=.tup Y:=dF J.ok O.ok hq;rw[this]at d;exact aAb (g<|aAt d)
    |false=>
     rw[ic (by simp)];have hsm:t.sameMemory t.moves t.mask=some true:=by unfold SetTable.sameMemory;rw[h9 (by simp)]
     rw[hsm];dsimp only;rw[h9 rfl,ST.K9 K.tab u];dsimp only;rw[l];dsimp only;cases J with
     |tup p r=>
      refine aAa (wpAny_isSame_ref_self ?_);refine aAa (aAb ?_);rw[h9 rfl];dsimp only;rw[ic (by simp)];refine kQ ho hd K B P O C yc hT hu hf g b a (U+1) _ rfl (by lia) (by lia) λm I i2 zi hz=>?_;by_cases z:m<n
      .exact H m z i2 zi hz
      .by_cases z2:m=U
       .subst z2;have:i2=i:=by have g:=ST.K9 K.tab zi;have b:=ST.K9 K.tab u;rw[g]at b;injection b
        subst this;rw[d]at hz;have:D.tup N=.tup Y:=Option.some.inj hz;rw[this,R1]at hq;cases hq
       .obtain⟨f,fb,au⟩:=a3 m (by lia) (by lia);have:f=i2:=by have g:=ST.K9 K.tab fb;have b:=ST.K9 K.tab zi;rw[g]at b;injection b
        subst this;obtain⟨⟨h0,v0⟩,he0,hv0,hh0⟩:=cE P hz;refine au ?_;show(es[f]?.map (·.1)).getD 0=_;rw[<-aAD,he0];exact hh0
   refine jQ (λ_=>?_) (λ_=>go);refine aAa (WK O C _ (λy hy=>?_) ?_)
   .obtain⟨e',xr,rfl⟩:=aAo.mp hy;rw[Array.toList_filter]at xr;have I:=(aAx.mp xr).1;obtain⟨k,hk⟩:=aDs.mp I;obtain⟨dk,hdk,hvk,_⟩:=F7 P hk;exact⟨dk,hvk,yc _ (aAt hdk)⟩
   .rw[ic (by simp)];exact go
def sQ (m n:Nat):Prop:=(m=7/\n<=4)\/(m=31/\n<=18)\/(m=127/\n<=76)
def sQ.odd (h:sQ m n):m%2=1:=by rcases h with⟨rfl,_⟩|⟨rfl,_⟩|⟨rfl,_⟩<;>rfl
def Keeps (h0 h:cy):Prop:=∀b o,h0.get? b=some o->h.get? b=some o
structure SetAt (L:Bool)(h0 h:Heap)(S:Addr)(ds:List D):Prop where
 ex:∃(o:Obj) (es:Array (Int×Value)) (ep:Nat) (t:SetTable),h.get? S=some o/\o.cls=.type "set"/\o.dict=none/\o.slots=#[]/\o.data=.set es ep t/\ST.SOk t es.toList/\sQ t.mask es.size/\Paired (EV h0) es.toList ds/\t.led=L/\t.plain=true
 nd:ds.Nodup
def cH {α β:Type}{F:α->β->Prop}:∀{l b:List α} {m:List β},b.Perm l->Paired F l m->∃a,a.Perm m/\Paired F b a:=λ{l b m} p=>by
 induction p generalizing m with
 |nil=>intro h;exact⟨m,.refl _,h⟩
 |cons x _ f=>
  intro h;cases h with
  |cons r t=>obtain⟨a,g,i⟩:=f t;exact⟨_::a,g.cons _,.cons r i⟩
 |swap x y l=>
  intro h;cases h with
  |cons r t=>
   cases t with
   |cons j k=>exact⟨_,.swap _ _ _,.cons j (.cons r k)⟩
 |trans _ _ d e=>intro h;obtain⟨v,n,o⟩:=e h;obtain⟨q,s,u⟩:=d o;exact⟨q,s.trans n,u⟩
theorem cI {α β:Type}{F G:α->β->Prop}(i:∀a b,F a b->G a b):∀{l:List α} {m:List β},Paired F l m->Paired G l m
 |_,_,.nil=>.nil
 |_,_,.cons r t=>.cons (i _ _ r) (cI i t)
theorem nA {α β:Type}{F:α->β->Prop}{a:α}{b:β}(r:F a b):∀{l:List α} {m:List β} (p:Nat),Paired F l m->Paired F (l.take p++a::l.drop p) (m.take p++b::m.drop p)
 |_,_,0,h=>.cons r h
 |_,_,p+1,.nil=>.cons r .nil
 |_,_,p+1,.cons d t=>.cons d (nA r p t)
def NN {α:Type}(a:α)(l:List α)(p:Nat):(l.take p++a::l.drop p).Perm (a::l):=by have h:=List.perm_middle (a:=a) (l₁:=l.take p) (l₂:=l.drop p);rw[aFI]at h;exact h
def wD {α β:Type}{M:hV}{Q:α->bb->Prop}{c:Prop}[Decidable c]{a:Sem β}{k:β->Sem α}(b:β)(e:∀d:β->bb->Prop,d b s->bc M A a d E s)(h:bc M A (k b) Q E s):bc M A (if c then a>>=k else pure b>>=k) Q E s:=
 jQ (λ_=>aAa (e _ h)) (λ_=>aAa (aAb h))
def kF (h:cy)(S:bp)(f:Obj->Obj):Heap.SameBut S h (h.update S f):=⟨by simp[Heap.size_update],λb a=>aAC _ _ (aBU a)⟩
def qS {h:cy}{S:bp}{o:Obj}{es es':Array (Int×av)}{ep:Nat}{t t':fm}(b:h.get? S=some o)(a:o.data=.set es ep t):(h.update S (aEz es' t')).get? S=some {o with data:=.set es' (ep+1) t'}:=by
 have e:aEz es' t' o={o with data:=.set es' (ep+1) t'}:=by obtain⟨c,d,f,g⟩:=o;cases f<;>simp at a;obtain⟨rfl,rfl,rfl⟩:=a;rfl
 rw[aBf _ b (by rw[e];rfl),e]
def XV {L:Bool}{h0:cy}{Q:vT}(hS:SetAt L h0 s.heap S ds)(kp:Keeps h0 s.heap)(C:HV h0 (.ref x) (.tup Y))(H:E8 (.tup Y)<8)(yc:∀e∈ds,E8 e<8)(hT:∀e∈ds,∃N,e=.tup N)(hu:A.units+128<dy)(hn:ds.length<76)
  (q1:D.tup Y∈ds->∀tk,s.toks<=tk->Q false {s with toks:=tk})
  (q2:D.tup Y∉ds->∀h' tk br,s.toks<=tk->Heap.SameBut S s.heap h'->SetAt L h0 h' S br->br.Perm (.tup Y::ds)->Q true {s with heap:=h',toks:=tk}):bc (bt prog w) A (setAdd S (.ref x)) Q E s:=by
 obtain⟨⟨o,es,ep,t,I,hc,n,J,O,K,mk,P0,lp0⟩,nd⟩:=hS;have hx:HV s.heap (.ref x) (.tup Y):=C.keeps λb o e _=>kp b o e;have P:Paired (EV s.heap) es.toList ds:=cI (λe d r=>⟨r.1.keeps λb o e _=>kp b o e,r.2⟩) P0;have ig:es.size=ds.length:=by have:=gA P;simpa using this
 unfold setAdd;refine aAR (aAa (VJ hx A E s _ rfl (by lia) λtk xg=>?_));unfold setAddHashed setAddHashedIn;refine aAR (aAa<|aCj (s:={s with toks:=tk}) I O (iI K) ?_);dsimp only;rw[show byScan (.ref x) es=false from rfl];simp only[aAu,if_false];obtain⟨n0,hf⟩:=ST.CY K.full K.room (m7<|.tup Y);refine aAa (kQ (s:={s with toks:=tk}) (n0:=n0) I O K mk.odd P hx H yc hT (by lia) hf (λp=>?_) (λp=>?_) 100000 0 none rfl (aAG _) ?_ (λm p=>by lia))
 .dsimp only;exact aAb (q1 p tk xg)
 .dsimp only;refine aAa (aCj (s:={s with toks:=tk}) I O (iI K) ?_);dsimp only;refine wD true (λQ' q=>mS 8 hx H _ _ _ _ _ rfl q) ?_;rw[h9 rfl];have oo:t.place.size+1<=t.mask:=by have:=K.len;simp at this;rcases mk with⟨a,k⟩|⟨a,k⟩|⟨a,k⟩<;>lia
  have u:=ST.ZX K (x:=.ref x) hf oo;have el:=ST.dZ es (t.put (ST.l8 t.mask (m7<|.tup Y) n0).j).2 (m7 (.tup Y),aCU x);have lp:(t.put (ST.l8 t.mask (m7<|.tup Y) n0).j).1.led=L/\(t.put (ST.l8 t.mask (m7<|.tup Y) n0).j).1.plain=true:=lp0;have em:(t.put (ST.l8 t.mask (m7<|.tup Y) n0).j).1.mask=t.mask:=rfl;rw[<-el]at u;have T:Paired (EV h0) (aGx es (t.put (ST.l8 t.mask (m7<|.tup Y) n0).j).2 (m7 (.tup Y),aCU x)).toList (ds.take (t.put (ST.l8 t.mask (m7<|.tup Y) n0).j).2++.tup Y::ds.drop (t.put (ST.l8 t.mask (m7<|.tup Y) n0).j).2):=by rw[el];exact nA ⟨C,rfl⟩ _ P0
  have U:=NN (D.tup Y) ds (t.put (ST.l8 t.mask (m7<|.tup Y) n0).j).2;generalize hds2:ds.take (t.put (ST.l8 t.mask (m7<|.tup Y) n0).j).2++.tup Y::ds.drop (t.put (ST.l8 t.mask (m7<|.tup Y) n0).j).2=sr at T U;generalize hes2:aGx es (t.put (ST.l8 t.mask (m7<|.tup Y) n0).j).2 (m7 (.tup Y),aCU x)=h at u T⊢;generalize ht2:(t.put (ST.l8 t.mask (m7<|.tup Y) n0).j).1=g at u em lp⊢;have xt:sr.Nodup:=U.nodup_iff.mpr (aAS.mpr ⟨p,nd⟩);have i:h.size=es.size+1:=by
   have h1:=gA T;have h2:=U.length_eq;simp at h1 h2
   lia
  have dg:h.size<=sizeLine:=by rw[i,aFo];lia
  refine aAa (wpAny_storeSet_of (s:={s with toks:=tk}) I O ?_ dg);have ki:=qS (es':=h) (t':=g) I O;have sb2:=kF s.heap S (aEz h g);have l:g.fill=h.size:=by have h1:=u.len;have h2:=u.tab.nod;unfold SetTable.fill;rw[h2];simp at h1⊢;lia
  refine jQ (λxh=>?_) (λxh=>?_)
  .
   have qo:g.fill*5>=g.mask*3:=by
    have:g.tooFull=true:=by simpa using xh
    simpa[aGD]using this
   rw[l,em,i]at qo;obtain⟨M,hM,hM1,v⟩:∃M,SetTable.sizeAbove (SetTable.grown<|es.size+1)=M+1/\ST.kX (M+1)/\sQ M (es.size+1):=by
    rcases mk with⟨a,k⟩|⟨a,k⟩|⟨a,k⟩
    .have:es.size=4:=by lia
     rw[this];exact⟨31,by decide,ST.WE,.inr (.inl ⟨rfl,by lia⟩)⟩
    .have:es.size=18:=by lia
     rw[this];exact⟨127,by decide,ST.RJ,.inr (.inr ⟨rfl,by lia⟩)⟩
    .lia
   unfold setRelay;refine aAa (aAa<|aCj (s:={s with heap:=s.heap.update S (aEz h g),toks:=tk}) ki rfl (iI u) ?_);dsimp only;rw[hM];refine jQ (λz=>?_) (λ_=>?_)
   .exfalso;rcases v with⟨a,_⟩|⟨a,_⟩|⟨a,_⟩<;>(subst a;exact absurd z (by rw[aFo];decide))
   obtain⟨B,f,r1,r2,r3,r4,r5,r6,r7,r8,r9⟩:=ST.LF (finger:=g.finger) (moves:=g.movedTo M) (led:=g.led) (plain:=g.plain) hM1 h (by rw[i];rcases v with⟨a,k⟩|⟨a,k⟩|⟨a,k⟩<;>lia);have er:g.relaid (h.map (·.1)) (SetTable.grown<|es.size+1)=some (B,f):=by unfold SetTable.relaid;rw[hM];exact r1
   rw[er];have hre:∀{Q':Array (Int×av)×fm->bb->Prop} {s':bb},Q' (f.filterMap (h[·]?),B) s'->bc (bt prog w) A (do
     let es':=f.filterMap (h[·]?)
     if es'.size !=h.size then unsupported "internal:set-table-lost-an-element"
     pure (es',B)) Q' E s':=λ{Q' s'} qq=>by
    dsimp only;rw[ic (by simp[r2])];exact aAb qq
   refine aAa (hre ?_);dsimp only;generalize hes3:f.filterMap (h[·]?)=y at r2 r3 r4⊢;refine wpAny_storeSet_of (s:={s with heap:=s.heap.update S (aEz h g),toks:=tk}) ki rfl ?_ (by rw[r2];exact dg);refine aAb ?_;have ho3:=qS (es':=y) (t':=B) ki rfl;have sb3:=kF (s.heap.update S<|aEz h g) S (aEz y B);obtain⟨ds3,p3,P5⟩:=cH r3 T;exact q2 p _ tk ds3 xg (sb2.trans sb3) ⟨⟨_,y,_,B,ho3,hc,n,J,rfl,r4,by rw[r5,r2,i];exact v,P5,by rw[r7];exact lp.1,by rw[r8];exact lp.2⟩,p3.nodup_iff.mpr xt⟩ (p3.trans U)
  .refine aAb ?_;refine q2 p _ tk sr xg sb2 ⟨⟨_,h,_,g,ki,hc,n,J,rfl,u,?_,T,lp⟩,xt⟩ U;have qo:¬g.fill*5>=g.mask*3:=λz=>xh (by simp[aGD,z]);rw[l,em,i]at qo;rw[em,i];rcases mk with⟨a,k⟩|⟨a,k⟩|⟨a,k⟩
   .exact .inl ⟨a,by lia⟩
   .exact .inr (.inl ⟨a,by lia⟩)
   .exact .inr (.inr ⟨a,by lia⟩)
 .have:=hf.1;have p:t.mask<=127:=by rcases mk with⟨a,_⟩|⟨a,_⟩|⟨a,_⟩<;>lia
  lia
end
section
variable{prog:cp} {w:cu} {A:cq} {R:Result->bb->Prop} {I:bp} {fp wr:List bp} {G:Array GenState->Array GenState->Prop} {n:Nat} {P:Nat->av->Prop} {St:Nat->bb->Prop} {h0:cy}
def YK (h0:cy)(v:av)(d:D):Prop:=∃a Y,v=.ref a/\d=.tup Y/\E8 d<8/\HV h0 v d
def LC {L:Bool}(W:WalksS prog w A.in1 I fp wr G n P St)(S:bp)(qf:S∉fp)(hS0:h0.get? S=none)(hw0:∀b∈wr,h0.get? b=none)
  (val:Nat->D) (y:∀i v,P i v->YK h0 v (val i)) (hvd:∀i<n,E8 (val i)<8/\∃N,val i=.tup N) {U:List D} (hU:∀i<n,val i∈U) (f:U.length<=75) (hu:A.units+200<dy):
  ∀(k i:Nat) (s:bb),n-i=k->i<=n->St i s->Keeps h0 s.heap->(∃ds,SetAt L h0 s.heap S ds/\∀d,d∈ds↔∃j<i,val j=d)->
   (∀s',Moved (S::wr) G s s'->(∃ds,SetAt L h0 s'.heap S ds/\∀d,d∈ds↔∃j<n,val j=d)->R (.ok (.ret .none)) s')->
   f6 (bt prog w) A (.builtin "set.update.loop" ⟨[.ref S,.ref I],[]⟩) R s:=by
 have B:S∉wr:=λh=>qf (W.sub _ h);have ju:∀b∈wr,b∈S::wr:=λb f=>aAe _ f;intro k;induction k with
 |zero=>
  intro i s hk hi ji C hS Q;have T:i=n:=by omega
  subst T;refine aBE F.entry_set_update_loop ?_;rw[aBk F.plain_set_update_loop _];show bc _ A.in1 (gk (.ref I)>>=_) _ _ s;refine aAa (W.done s _ _ ji λs' l=>?_);show bc _ A.in1 (ret Value.none) _ _ s';refine aAb (Q s' (l.mono ju) ?_);obtain⟨ds,⟨⟨o,es,ep,t,ho,r⟩,nd⟩,p⟩:=hS;exact⟨ds,⟨⟨o,es,ep,t,l.heap S _ B ho,r⟩,nd⟩,p⟩
 |succ k ih=>
  intro i s hk hi ji C hS Q;have ar:i<n:=by omega
  refine aBE F.entry_set_update_loop ?_;rw[aBk F.plain_set_update_loop _];show bc _ A.in1 (gk (.ref I)>>=_) _ _ s;refine aAa (W.item i s _ _ ar ji λv s' hP kn l=>?_);obtain⟨ds,⟨⟨o,es,ep,t,ho,r⟩,nd⟩,p⟩:=hS;have jf:SetAt L h0 s'.heap S ds:=⟨⟨o,es,ep,t,l.heap S _ B ho,r⟩,nd⟩;have q:Keeps h0 s'.heap:=λb ob e=>l.heap b ob (λz=>by rw[hw0 b z]at e;cases e) (C b ob e);obtain⟨a,Y,rfl,ve,E,hv⟩:=y i v hP;rw[ve]at E hv;show bc _ A.in1 (fh [aCU a] (setAdd S<|.ref a)>>=_) _ _ s';have g:∀e∈ds,E8 e<8/\∃N,e=.tup N:=λe H=>by obtain⟨j,J,ej⟩:=(p e).mp H;rw[<-ej];exact hvd j (by omega)
  refine aAa (aAR (XV jf q hv E (λe H=>(g e H).1) (λe H=>(g e H).2) (by rw[u6];omega) (by letI:DecidableEq D:=λa b=>aDZ _;have:=ST.P8 (m:=U) nd (λd hd=>by obtain⟨j,J,e⟩:=(p d).mp hd;rw[<-e];exact hU j (by omega));omega) (λT tk O=>?_)<|λhni h' tk br O hsb hS2 pm=>?_))
  .
   refine aAb ⟨aBY F.plain_set_update_loop _,ih (i+1) _ (by omega) ar (W.frame _ s' _ _ kn O λb f o e=>e) q ⟨ds,jf,λd=>?_⟩ λu ni xi=>?_⟩
   .rw[p];constructor
    .rintro⟨j,J,e⟩;exact⟨j,by omega,e⟩
    .rintro⟨j,J,e⟩;by_cases z:j=i
     .subst z;rw[ve]at e;rw[e]at T;exact(p d).mp T
     .exact⟨j,by omega,e⟩
   .exact Q u (aFt W.gtrans ((l.mono ju).then_heap O λb o f e=>e) ni) xi
  .have x:∀b,b≠S->h'.get? b=s'.heap.get? b:=λb f=>hsb.2 b f;refine aAb ⟨aBY F.plain_set_update_loop _,ih (i+1) _ (by omega) ar (W.frame _ s' _ _ kn O λb f o e=>?_) (λb o e=>?_) ⟨br,hS2,λd=>?_⟩ λu ni xi=>?_⟩
   .rw[x b (λz:b=S=>qf (by rw[<-z];exact f))];exact e
   .show h'.get? b=some o;rw[x b (λz=>by subst z;rw[hS0]at e;cases e)];exact q b o e
   .rw[pm.mem_iff,aAd,p];constructor
    .rintro(rfl|⟨j,J,e⟩)
     .exact⟨i,by omega,ve⟩
     .exact⟨j,by omega,e⟩
    .rintro⟨j,J,e⟩;by_cases z:j=i
     .subst z;rw[ve]at e;exact .inl e.symm
     .exact .inr ⟨j,by omega,e⟩
   .refine Q u (aFt W.gtrans ((l.mono ju).then_heap O λb o f e=>?_) ni) xi;rw[x b (λz:b=S=>f (by rw[z];exact aBn))];exact e
end
section
variable{prog:cp} {w:cu} {A:cq} {E:D3} {s:bb}
abbrev lG (led:Bool):Obj:={cls:=.type "set",dict:=none,data:=.set #[] 0 (.fresh 0 0 led)}
def FY (h0 h:cy)(S:bp)(led:Bool)(e:h.get? S=some (lG led)):SetAt led h0 h S []:=by
 refine⟨⟨_,#[],0,.fresh 0 0 led,e,rfl,rfl,rfl,rfl,⟨⟨λi k a=>?_,λj b=>?_,rfl⟩,ST.vq,rfl,?_,λe d=>?_⟩,.inl ⟨rfl,aAG _⟩,.nil,rfl,rfl⟩,aDi⟩
 .exact absurd a (by show¬i<0;omega)
 .exact absurd b (by show¬j∈[];simp)
 .show 0<=7;omega
 .exact absurd d (by show¬e∈[];simp)
def wU (a:av){Q₁:D3}(h:Q₁ (.ref s.heap.objs.size) {s with heap:=s.heap.push (lG (!w.params.followText "set-order"))}):
  f6 (bt prog w) A (.call (.builtin "set.__new__") ⟨[.type "set",a],[]⟩) (wants Q₁ E) s:=by
 refine codeAny_of_tree ?_;show bc _ A.in1 (do checkBuiltinCall "set.__new__" ⟨[.type "set",a],[]⟩;again (.builtin "set.__new__" ⟨[.type "set",a],[]⟩)) _ _ s;refine aAa (wpAny_of_eq (F.newCall_set_1 a)<|aAb ⟨aBY F.plain_set_new _,aBE F.entry_set_new ?_⟩);rw[aBk F.plain_set_new _];unfold Builtin.«set.__new__» Builtin.Frozenset.newClass;have b:=sub_set_self;obtain⟨e,g,d,f,os⟩:=s;dsimp only
 wp_walk
 refine aFz (aAb ?_);dsimp only;simp only[newObj];exact aAa (wpAny_alloc<|aAb<|aAb h)
def yI {h0:cy}(n:Keeps h0 s.heap){l:bp}{a:Array av}{val:Nat->D}{Q:D3}(hh:A.handled=none)(hl:s.heap.IsList l a)
  (p:∀(i:Nat) (v:av),a[i]?=some v->YK h0 v (val i)) (H:∀i<a.size,E8 (val i)<8/\∃N,val i=.tup N) {U:List D} (hU:∀i<a.size,val i∈U) (k:U.length<=75) (hu:A.units+300<dy)
  (h:∀(h':cy) (tk:Nat) (ds:List D),SetAt (!w.params.followText "set-order") h0 h' s.heap.objs.size ds->(∀d,d∈ds↔∃j<a.size,val j=d)->Keeps s.heap h'->Q (.ref s.heap.objs.size) {s with heap:=h',toks:=tk}):
  bc (bt prog w) A (call (.type "set") [.ref l]) Q E s:=by
 obtain⟨c,tl,hmro⟩:=PySem.F.called_set.mro;have I:=PySem.F.called_set.made;have ju:=PySem.F.called_set.sub;refine aFR (codeAny_of_tree ?_);show bc _ _ (callAny (.type "set") _) _ _ _;refine aAb ⟨Code.quiet_builtin _ (by decide+kernel),aBE PySem.F.entry_type_call ?_⟩;rw[Around.under_plain (weight_type_call_type "set" [.ref l] []) rfl];have h1:=PySem.F.called_set.notType;have h2:=PySem.F.called_set.canCreate;have hct:=PySem.F.typeCall_set_1 (.ref l);repeat(any_goals(first|assumption|wp_step))
 refine aDu (wU (.ref l) (E:=E) (Q₁:=λob ag=>∃led:Bool,led=!w.params.followText "set-order"/\ob=.ref s.heap.objs.size/\ag={s with heap:=s.heap.push (lG led)}) ⟨_,rfl,rfl,rfl⟩) λr ag q=>?_;cases r with
 |error e=>exact q
 |ok fl=>
  cases fl with
  |next=>exact q.elim
  |brk=>exact q.elim
  |cont=>exact q.elim
  |ret ob=>
   obtain⟨led,eL,rfl,rfl⟩:=q;have hS:(s.heap.push<|lG led).get? s.heap.objs.size=some (lG led):=aAm _ rfl;have hT:Shared.TypeIs {s with heap:=s.heap.push (lG led)} (.ref s.heap.objs.size) "set":=⟨_,hS,rfl⟩;have hli:=PySem.F.called_set.init.lookup;have hbi:=PySem.F.called_set.init.bind (.ref s.heap.objs.size);repeat(any_goals(first|assumption|wp_step))
   refine aDu (aEx (R:=wants (λr gr=>r=.none/\∃h' tk ds,gr={s with heap:=h',toks:=tk}/\SetAt (!w.params.followText "set-order") h0 h' s.heap.objs.size ds/\(∀d,d∈ds↔∃j<a.size,val j=d)/\Keeps s.heap h') E) PySem.F.called_set.init.plain PySem.F.entry_set_init<|check_set_init_1 hT ?_) λrf gr f=>?_
   .obtain⟨ol,t,qd,nl,u⟩:=hl;obtain⟨ocls,m,J,g⟩:=ol;simp only at qd u;subst qd;subst u;have x:(s.heap.push<|lG led).get? l=some {cls:=.type "list",dict:=m,data:=.seq a nl,slots:=g}:=aAc _ t;have hsls:=PySem.F.sub_list_set;have hslf:=PySem.F.sub_list_frozenset;have au:(aCr "list"==aCr "dict")=false:=by decide
    have qp:(s.heap.push<|lG led).IsList l a:=⟨_,x,rfl,nl,rfl⟩;unfold Builtin.«set.__init__» noKeywords Builtin.Frozenset.updateFrom;generalize L:pyIter=PI
    wp_walk
    subst L;refine aDz qp (aAa<|wpAny_runValue ?_);have y:l<s.heap.objs.size:=aAf t;have O:A.in1.in1.in1.handled=none:=by simp[hh]
    have B:l≠(s.heap.push<|lG led).objs.size:=by rw[aBz];exact aAk (aBA y)
    have qf:s.heap.objs.size∉[(s.heap.push<|lG led).objs.size,l]:=by rw[aBz];simp only[aAd,aAN,or_false,not_or];exact⟨aAk (aDK _),aDt y⟩
    have ph:∀b,s.heap.objs.size<=b->h0.get? b=none:=λb k=>by
     cases e:h0.get? b with
     |none=>rfl
     |some o=>have:=n b o e;rw[aEw k]at this;cases this
    refine LC (h0:=h0) ((Walks.list O _ l B a).toS) s.heap.objs.size qf (ph _<|aAi _) (λb k=>?hw) val p H hU k (by show A.units+1+1+200<dy;omega) (a.size-0) 0 _ (by omega) (aAG _) ⟨⟨_,aAm _ rfl,rfl,rfl⟩,(qp.push _)⟩ (λb o e=>aAc _ (aAc _<|n b o e)) ⟨[],FY _ _ _ led (aAc _ hS),λd=>?he⟩ ?hR
    case he=>exact⟨λz=>(by cases z),by rintro⟨j,hj,_⟩;exact(by omega)⟩
    case hw=>
     have kr:b=(s.heap.push<|lG led).objs.size:=by simpa using k
     subst kr;rw[aBz];exact ph _ (Nat.le_succ _)
    case hR=>
     rintro⟨h',g',d',yh,T⟩ C ⟨ds,Y,qm⟩;have eg:g'=s.gens:=C.gens;have ed:d'=s.drawn:=C.drawn;have eo:T=s.os:=C.os;subst eg;subst ed;subst eo;refine aAb ?_;show bc _ _ (ret Value.none) _ _ _;refine aAb ⟨rfl,h',yh,ds,rfl,(eL▸Y),qm,λb o e=>?_⟩;have k:=aAf e;have hb2:b≠(s.heap.push<|lG led).objs.size:=by rw[aBz];exact aAk (aBA k)
     exact C.heap b o (by simp only[aAd,aAN,or_false,not_or];exact⟨aAk k,hb2⟩) (aAc _<|aAc _ e)
   .cases rf with
    |error e=>exact f
    |ok fl1=>
     cases fl1 with
     |next=>exact f.elim
     |brk=>exact f.elim
     |cont=>exact f.elim
     |ret r=>
      obtain⟨rfl,h',tk,ds,rfl,Y,qm,ku⟩:=f;repeat(any_goals(first|assumption|wp_step))
      exact h _ _ _ Y qm ku
end
end
section
def bH {α:Type}(Y:List α)(l h k:Option Int):List α:=(sliceRange (fg l h k Y.length).1 (fg l h k Y.length).2.1 (fg l h k Y.length).2.2).filterMap λx=>Y[x]?
def HF {α:Type}{Y:List α}{l h k:Option Int}{d:α}(q:d∈bH Y l h k):d∈Y:=by obtain⟨i,_,e⟩:=aBB.mp q;exact aAt e
theorem wA:∀{vs:List V} {a:List av},l4 vs a->∀i:Nat,(vs[i]?=none/\a[i]?=none)\/∃v u,vs[i]?=some v/\a[i]?=some u/\RelV v u
 |[],_,.nil,i=>.inl ⟨rfl,rfl⟩
 |_::_,_,.cons r t,0=>.inr ⟨_,_,rfl,rfl,r⟩
 |_::_,_,.cons r t,i+1=>by simpa using wA t i
theorem wN {K:jb}{H:Hp}{O:bp->Prop}:∀{vs:List V} {ds:List D},Reps K H O vs ds->∀i:Nat,(vs[i]?=none/\ds[i]?=none)\/∃v d,vs[i]?=some v/\ds[i]?=some d/\Rep K H O v d
 |[],_,.nil,i=>.inl ⟨rfl,rfl⟩
 |_::_,_,.cons r t,0=>.inr ⟨_,_,rfl,rfl,r⟩
 |_::_,_,.cons r t,i+1=>by simpa using wN t i
theorem jK {vs:List V}{e:List av}(r:l4 vs e):∀d:List Nat,l4 (d.filterMap λx=>vs[x]?) (d.filterMap λx=>e[x]?)
 |[]=>.nil
 |j::d=>by
  rcases wA r j with⟨a,b⟩|⟨v,u,a,b,q⟩
  .rw[aCZ a,aCZ b];exact jK r d
  .rw[aCu a,aCu b];exact .cons q (jK r d)
theorem jO {K:jb}{H:Hp}{O:bp->Prop}{vs:List V}{ds:List D}(r:Reps K H O vs ds):∀d:List Nat,Reps K H O (d.filterMap λx=>vs[x]?) (d.filterMap λx=>ds[x]?)
 |[]=>.nil
 |j::d=>by
  rcases wN r j with⟨a,b⟩|⟨v,u,a,b,q⟩
  .rw[aCZ a,aCZ b];exact jO r d
  .rw[aCu a,aCu b];exact .cons q (jO r d)
variable [Tabs]
def ZC (l h k:Option Int):D->R D
 |.lst Y=>if k≠some 0/\(bH Y l h k).length<=1000 then .ok (.lst (bH Y l h k))else .bad
 |_=>.bad
def XE {lo y st:Option cv}{p2:Pos}{f:Ev->R D}{B:Ev->R (Option Int)}{h k:Option Int}(he:PB X a f)(hl:ZP X lo B)(hu:ZP X y λ_=>.ok h)(hs:ZP X st λ_=>.ok k){ops:av->av->List av}(ho:∀v u,subscripted (.Slice lo y st p2) false v u=operate (ops v u) (getItem v u):=by intro _ _;with_unfolding_all rfl):PD X (.Subscript a (.Slice lo y st p2) pos) (λρ=>(f ρ).bind λx=>(B ρ).bind λl=>ZC l h k x):=by
 refine rL λe s σ H Q I C J O ρ E q=>?_;dsimp only at q;refine Subscript_ (B1 (he e s σ H (λx j=>∃d,f ρ=.ok d/\Same H j/\A8 X.K j O x d) I ⟨C,J,O,ρ,E,?_⟩) λv s1 z9=>?_)
 .cases e1:f ρ with
  |ex z=>rw[e1]at q;exact q
  |bad=>rw[e1]at q;exact q.elim
  |ok d=>exactλv j s1 r1=>⟨d,rfl,s1,r1⟩
 .obtain⟨x,j,I1,r1,d,ef,m,rb⟩:=z9;rw[ef,R.aa0]at q;refine wpAny_Slice (B1 (hl e s1 σ j (λo L=>B ρ=.ok o/\Same j L) I1 ⟨C,J,O,ρ,E.grow m,?_⟩) λvl s2 z8=>?_)
  .cases N:B ρ with
   |ok l=>exactλT s=>⟨rfl,s⟩
   |ex z=>rw[N]at q;exactλT s=>q T (m.trans s)
   |bad=>rw[N]at q;exact q.elim
  obtain⟨l,L,I2,pl,N,qu⟩:=z8;rw[N,R.aa0]at q;refine B1 (hu e s2 σ L (λo U=>o=h/\Same L U) I2 ⟨C,J,O,ρ,(E.grow m).grow qu,λT s=>⟨rfl,s⟩⟩) λvu s3 ⟨u,U,I3,pu,e3,n⟩=>?_;subst e3;refine B1 (hs e s3 σ U (λo Y=>o=k/\Same U Y) I3 ⟨C,J,O,ρ,((E.grow m).grow qu).grow n,λT s=>⟨rfl,s⟩⟩) λvk g ⟨k,Y,I4,pk,e4,sm4⟩=>?_;subst e4;have i:=qu.trans (n.trans sm4);cases d with
  |lst ds=>
   simp only[ZC]at q;by_cases hc:k≠some 0/\(bH ds l u k).length<=1000
   .rw[h9 hc]at q;obtain⟨b,vs,rfl,hx,rr⟩:=(rb.same i).aa6;cases r1;have I5:Inv X e σ Y {g with heap:=g.heap.push {cls:=.type "slice",data:=.fields #[vl,vu,vk]}}:=I4.kept (t':=g.toks) λb ob q=>aAc _ q;obtain⟨p,r,ht,hz⟩:=I5.list hx;have t:=r.length;have kg:=rr.length;show bc (bt X.prog X.w) X.A (subscriptTail a (.Slice lo y st p2) (.ref b)<|.ref g.heap.objs.size) (EP X e σ Q) X.xe {g with heap:=g.heap.push {cls:=.type "slice",data:=.fields #[vl,vu,vk]}};refine tail_any ht.isList.typeIs aFk.lookup ?_ (ho _ _);refine wpAny_getItem_list_slice ht.isList (Heap.IsSliceOf.new ..) pl pu pk hc.1 ?_ (by rw[aAl];lia);have hf:=I5.hok.fresh (aAi _);have ev:slicePick p.toArray l u k=(bH p l u k).toArray:=by unfold slicePick bH;simp
    rw[ev];have pr:Reps X.K Y O (bH vs l u k) (bH ds l u k):=by unfold bH;rw[kg];exact jO rr _
    refine⟨.ref _,_,I5.laid (t':=g.toks) (o:=.lst (bH vs l u k)) (λb ob q=>aAc _ q) (aAi _) ?_,rfl,?_⟩
    .exact⟨by rw[pr.length];exact aAq hc.2 (by decide),_,0,by unfold bH;rw[t];exact jK r _,aAm _ rfl⟩
    .have E4:=(E.grow m).grow i;exact q _ _ ((m.trans i).trans (j5 hf _)) (.lst (N0.of i9) (E4.fresh hf) (pr.same<|j5 hf _))
   .rw[ic hc]at q;exact q.elim
  |_=>exact aAg q
end
end DL
namespace SI
open PySem
theorem DK {α:Type}(next:Nat->Nat):∀(a k:Nat) (left:List α) (b:Array α),left.length=a->(aGC next a k left b).toList.Perm (b.toList++left)
 |0,k,left,b,h=>by have:left=[]:=aDh h;subst this;simp[aGC]
 |a+1,k,left,b,h=>by
  unfold aGC;have e:0<left.length:=by lia
  have d:next k%left.length<left.length:=aFe _ e
  rw[aAj d];dsimp only;refine(DK next a (k+1) _ _ (by rw[List.length_eraseIdx_of_lt d];lia)).trans ?_;rw[Array.toList_push,aFl];refine List.Perm.append_left _ ?_;have:∀(l:List α) (i:Nat) (h:i<l.length),(l[i]::l.eraseIdx i).Perm l:=by
   intro l;induction l with
   |nil=>intro i h;simp at h
   |cons x l f=>
    intro i h;cases i with
    |zero=>simp
    |succ i=>
     have g:i<l.length:=by simpa using h
     rw[aFq,List.getElem_cons_succ];exact(List.Perm.swap _ _ _).trans ((f i g).cons _)
  exact this left _ d
def rS {α:Type}(next:Nat->Nat)(Y:Array α):(hF next Y).toList.Perm Y.toList:=by unfold hF;simpa using DK next Y.size 0 Y.toList #[] (by simp)
def walkL (w:cu)(S:bp)(es:Array (Int×av))(ep:Nat):List (Int×av):=if w.params.followText "set-order"=true then(hF (w.params.setOrder S ep) es).toList else es.toList
def walkL_perm (w:cu)(S:bp)(es:Array (Int×av))(ep:Nat):(walkL w S es ep).Perm es.toList:=by
 unfold walkL;split
 .exact rS _ _
 .exact List.Perm.refl _
def slotAt (w:cu)(t:fm):Nat->Nat
 |0=>0
 |i+1=>if w.params.followText "set-order"=true then 0 else t.place.getD i 0+1
def O5 (h:cy)(w:cu)(it S:bp)(t:fm)(i n ep:Nat):Prop:=
 h.get? it=some {cls:=.type "set_iterator",dict:=none,data:=.fields #[e9 (slotAt w t i),e9 i,.ref S,e9 n,e9 ep],slots:=#[]}
def IsSet (h:cy)(S:bp)(es:Array (Int×av))(ep:Nat)(t:fm):Prop:=∃o,h.get? S=some o/\o.cls=.type "set"/\o.data=.set es ep t
namespace F
def entry_set_iter:entryFor table "set.__iter__"=some Builtin.«frozenset.__iter__»:=entryFor_alias (id':= "frozenset.__iter__") (by kernel_rfl) rfl (by decide+kernel) (by kernel_rfl)
def slot_seti_next:Slot "set_iterator" "__next__" "set_iterator.__next__":=
 .of (owner:= "set_iterator") (n:= "__next__") (by rw[aDx,aCp];kernel_rfl) (by decide+kernel) (by decide+kernel) (by decide+kernel)
  (by first|exact .inl (by decide+kernel)|exact .inr (by decide+kernel)) (by rw[aEZ];kernel_rfl)
def entry_seti_next:entryFor table "set_iterator.__next__"=some Builtin.«set_iterator.__next__»:=entryFor_of_tree (by kernel_rfl)
def args_seti_next (a:av):argsOk "set_iterator.__next__" ⟨[a],[]⟩:=by unfold argsOk;kernel_rfl
def slot_seti_iter:Slot "set_iterator" "__iter__" "set_iterator.__iter__":=
 .of (owner:= "set_iterator") (n:= "__iter__") (by rw[aDx,aCp];kernel_rfl) (by decide+kernel) (by decide+kernel) (by decide+kernel)
  (by first|exact .inl (by decide+kernel)|exact .inr (by decide+kernel)) (by rw[aEZ];kernel_rfl)
def entry_seti_iter:entryFor table "set_iterator.__iter__"=some Builtin.«dict_keyiterator.__iter__»:=entryFor_alias (id':= "dict_keyiterator.__iter__") (by kernel_rfl) rfl (by decide+kernel) (by kernel_rfl)
def args_seti_iter (a:av):argsOk "set_iterator.__iter__" ⟨[a],[]⟩:=by unfold argsOk;kernel_rfl
end F
section
variable{s:bb} {t:fm}
def HR {α:Type}{M:hV}{Q:α->bb->Prop}{c:Prop}[Decidable c]{a b:Sem α}(h:c)(k:bc M A a Q E s):bc M A (if c then a else b) Q E s:=by rw[h9 h];exact k
def yU (es:Array (Int×av))(a:t.plain=true):(!t.plain&&decide (es.size>1))=false:=by rw[a];rfl
def AY {Q:vT}(h:Q (w.params.followText "set-order") s):bc (bt prog w) A setsByText Q E s:=by unfold setsByText;exact aAa (aFz<|aAb h)
def KY {Q:D3}(f:IsSet s.heap S es ep t)(b:t.fits es.size=true)(g:t.plain=true)
  (h:Q (.ref s.heap.objs.size) {s with heap:=s.heap.push {cls:=.type "set_iterator",dict:=none,data:=.fields #[e9 (slotAt w t 0),e9 (0:Nat),.ref S,e9 es.size,e9 ep],slots:=#[]}}):
  bc (bt prog w) A (pyIter (.ref S)) Q E s:=by
 obtain⟨o,a,i,d⟩:=f;have e:s.TypeIs (.ref S) "set":=⟨o,a,i⟩;refine aFm e PySem.F.slot_set_iter (aBs PySem.F.slot_set_iter e F.entry_set_iter ?_ (PySem.F.args_set_iter_1 _));unfold Builtin.«frozenset.__iter__»;show bc _ _ (aFu "__iter__" ⟨[.ref S],[]⟩>>=_) _ _ s;have j:aFu "__iter__" ⟨[.ref S],[]⟩=pure S:=rfl;rw[j];refine aAa (aAb ?_);unfold Builtin.Frozenset.sizeOf;refine aAa (aAa<|aEG a d b<|aAb ?_);refine aAa ?_;unfold setDrawn;refine aAa (aCj a d b<|aAa<|AY<|aAb ?_);show bc _ _ (if(!w.params.followText "set-order"&&(!t.plain&&decide (es.size>1)))=true then _ else _) _ _ s;rw[yU es g,aGe];simp only[aAu,if_false];refine aAa (aAb<|aAa<|wpAny_setEpoch_of a d b ?_);refine aAa (aBH<|aAb ⟨_,rfl, "set_iterator",_,⟨_,aAm _ rfl,rfl⟩,F.slot_seti_next.lookup,?_⟩);simpa[slotAt]using h
def AC (a:ST.HU Y):aDH Y 0=0:=by
 obtain⟨d,b,e⟩:=ST.aN a 0;by_cases h:aDH Y 0=0
 .exact h
 .exact absurd (b 0 (by lia) (by lia)) (by lia)
def AV (b:ST.HU Y)(a:i<Y.size):aDH Y (Y.getD i 0+1)=i+1:=by
 have e:Y.getD i 0=Y[i]:=by simp[aFd,a]
 rw[e];obtain⟨h,f,g⟩:=ST.aN b (Y[i]+1);rcases Nat.lt_trichotomy (aDH Y<|Y[i]+1) (i+1)with q|q|q
 .have:=g i a (by lia);lia
 .exact q
 .have d:i+1<Y.size:=by lia
  have:=f (i+1) d q;have:=b i (i+1) a d (by lia)
  lia
def CV (t:fm)(a:ST.HU t.place)(b:¬w.params.followText "set-order"=true)(d:i<=t.place.size):aDH t.place (slotAt w t i)=i:=by
 cases i with
 |zero=>exact AC a
 |succ i=>show aDH t.place (if w.params.followText "set-order"=true then 0 else t.place.getD i 0+1)=i+1;rw[ic b];exact AV a (by lia)
def wO {Q:Option (av×Nat)->bb->Prop}(p:IsSet s.heap S es ep t)(d:t.fits es.size=true)(q:t.plain=true)(r:¬w.params.followText "set-order"=true->t.led=true)(u:ST.HU t.place)(C:i<=es.size)(f:∀e,(walkL w S es ep)[i]?=some e->Q (some (e.2,slotAt w t (i+1))) s)(k:i=es.size->Q none s):bc (bt prog w) A (setNext S (slotAt w t i) i ep) Q E s:=by
 obtain⟨o,l,H,m⟩:=p;have I:t.place.size=es.size:=by simp only[aGo,aAF,beq_iff_eq,decide_eq_true_eq]at d;exact d.1
 unfold setNext;refine aAa (aCj l m d ?_);refine aAa (AY ?_);by_cases a:w.params.followText "set-order"=true
 .rw[h9 a,ic (by simp)];unfold setWalk;refine aAa (aAa<|aCj l m d<|aAa<|AY ?_);rw[h9 a];refine aAa (aFz<|aAb ?_);refine aAb ?_;have h:(walkL w S es ep)=(hF (w.params.setOrder S ep) es).toList:=by unfold walkL;rw[h9 a]
  have j:slotAt w t i=slotAt w t (i+1):=by
   cases i with
   |zero=>show 0=if w.params.followText "set-order"=true then 0 else _;rw[h9 a]
   |succ i=>show(if w.params.followText "set-order"=true then 0 else _)=if w.params.followText "set-order"=true then 0 else _;rw[h9 a,h9 a]
  rw[h,aAD]at f;show Q (((hF (w.params.setOrder S ep) es)[i]?).map λe=>(e.2,slotAt w t i)) s;cases e:(hF (w.params.setOrder S ep) es)[i]? with
  |some x=>rw[j];exact f x e
  |none=>
   have n:(hF (w.params.setOrder S ep) es).size=es.size:=by have:=(rS (w.params.setOrder S ep) es).length_eq;simpa using this
   have:=Array.getElem?_eq_none_iff.mp e;exact k (by lia)
 .rw[ic a];have v:¬(!t.plain&&decide (es.size>1))=true:=by rw[q];simp
  show bc _ _ (if(!t.plain&&decide (es.size>1))=true then _ else _) _ _ s;rw[ic v];show bc _ _ ((if(!t.led&&!es.isEmpty)=true then _ else _)>>=_) _ _ s;rw[ic (by rw[r a];simp)];refine aAa (aAb<|aAb ?_);rw[CV t u a (by lia)];have h:(walkL w S es ep)=es.toList:=by unfold walkL;rw[ic a]
  rw[h,aAD]at f;by_cases y:i<es.size
  .have g:es[i]?=some es[i]:=aAJ y;have b:i<t.place.size:=by lia
   have z:t.place[i]?=some t.place[i]:=aAJ b;have:=f _ g;rw[g,z];have B:slotAt w t (i+1)=t.place[i]+1:=by show(if w.params.followText "set-order"=true then 0 else t.place.getD i 0+1)=_;rw[ic a];simp[aFd,b]
   rw[B]at this;exact this
  .have g:es[i]?=none:=aCI (by lia);rw[g];exact k (by lia)
def Q4 (h:O5 s.heap w it S t i n ep):s.TypeIs (.ref it) "set_iterator":=⟨_,h,rfl⟩
def PJ {Q:Option av->bb->Prop}(a:O5 s.heap w it S t i es.size ep)(b:IsSet s.heap S es ep t)(d:t.fits es.size=true)(j:t.plain=true)(k:¬w.params.followText "set-order"=true->t.led=true)(l:ST.HU t.place)(m:i<es.size)(h:∀e h',(walkL w S es ep)[i]?=some e->O5 h' w it S t (i+1) es.size ep->Heap.SameBut it s.heap h'->Q (some e.2) {s with heap:=h'}):bc (bt prog w) A (gk (.ref it)) Q E s:=by
 have f:=Q4 a;obtain⟨o,n,z,p⟩:=id b;unfold gk;refine aAa (aEy (aCy (name:=aDv "__next__") f F.slot_seti_next
  (aBs F.slot_seti_next f F.entry_seti_next ?_ (F.args_seti_next _))))
 refine aAa (aAb ?_);refine aAa (wpAny_fieldsOf a rfl ?_);show bc _ _ (setEntries S>>=_) _ _ s;refine aAa (aEG n p d ?_);rw[ic (by simp)];show bc _ _ (setNext S (aEH (slotAt w t i:Int)) (aEH (i:Int)) (aEH (ep:Int))>>=_) _ _ s;rw[aBT,aBT,aBT];refine aAa (wO b d j k l (aDb m) (λe q=>?_) λe=>by lia);show bc _ _ (setField (.ref it) 0 (e9<|slotAt w t<|i+1)>>=_) _ _ s;refine aAa (aBZ a (by simp) λr u v=>?_);show bc _ _ (setField (.ref it) 1 (e9<|(i:Int)+1)>>=_) _ _ _;refine aAa (aBZ (s:={s with heap:=r}) u (by simp) λg x y=>?_);refine aAb ⟨_,rfl,aAb (h e g q ?_ (v.trans y))⟩;have:g.get? it=some _:=x;unfold O5;rw[this];simp
def SD {Q:Option av->bb->Prop}(k:A.handled=none)(d:O5 s.heap w it S t es.size es.size ep)(f:IsSet s.heap S es ep t)(g:t.fits es.size=true)(l:t.plain=true)(n:¬w.params.followText "set-order"=true->t.led=true)(p:ST.HU t.place)(h:∀h',Heap.ExtBut it s.heap h'->Q none {s with heap:=h'}):bc (bt prog w) A (gk (.ref it)) Q E s:=by
 have i:=Q4 d;obtain⟨o,q,x,r⟩:=id f;unfold gk;refine aAa (aEy (aCy (name:=aDv "__next__") i F.slot_seti_next
  (aBs F.slot_seti_next i F.entry_seti_next ?_ (F.args_seti_next _))))
 refine aAa (aAb ?_);refine aAa (wpAny_fieldsOf d rfl ?_);show bc _ _ (setEntries S>>=_) _ _ s;refine aAa (aEG q r g ?_);rw[ic (by simp)];show bc _ _ (setNext S (aEH (slotAt w t es.size:Int)) (aEH (es.size:Int)) (aEH (ep:Int))>>=_) _ _ s;rw[aBT,aBT,aBT];refine aAa (wO f g l n p (aAi _) (λe u=>?_) λ_=>?_)
 .have v:=(walkL_perm w S es ep).length_eq;have j:=(aAy.mp u).1;rw[v]at j;simp at j
 .show bc _ _ (setField (.ref it) 2 .none>>=_) _ _ s;refine aAa (wpAny_setField d rfl (by simp) ?_);show bc _ _ (newExc (.type "StopIteration") []>>=_) _ _ _;refine aAa ?_;simp only[newExc,newTuple];refine aAa (aBH ?_ (by size_fits));refine aAa (m:=firstArgMember _ _) (wpAny_of_eq (a:=Value.none) (by first|rfl|(simp only[firstArgMember];rfl)) ?_);refine aBH ?_ (by size_fits);simp only[raiseNew];refine aAa (wpAny_handled ?_);rw[show A.in1.handled=none from k];refine aAa (aAb<|wpAny_throw ?_);refine aAa (aDL (T:= "StopIteration") (b:=true) ⟨_,aAm _ rfl,rfl⟩ isSubtype_stop ?_);exact aAb (h _<|((Heap.SameBut.update ..).extBut.push _).push _)
def bR (x:IsSet h S es ep t)(e:∀o,h.get? S=some o->h'.get? S=some o):IsSet h' S es ep t:=let⟨o,a,r⟩:=x;⟨o,e o a,r⟩
end
section
def IJ (p:A.handled=none)(I S:bp)(r:S≠I)(g:t.fits es.size=true)(j:t.plain=true)(k:¬w.params.followText "set-order"=true->t.led=true)(l:ST.HU t.place):
  Walks prog w A I [I,S] [I] es.size (λi v=>∃e,(walkL w S es ep)[i]?=some e/\v=e.2) (λi h=>O5 h w I S t i es.size ep/\IsSet h S es ep t)where
 sub:=λb a=>by simp at a;simp[a]
 frame:=λ_ _ _ st m=>⟨m I (by simp) _ st.1,bR st.2 λo e=>m S (by simp) o e⟩
 item:=λi s Q E u st d=>PJ st.1 st.2 g j k l u λe f x y n=>d e.2 f s.toks ⟨e,x,rfl⟩ ⟨y,bR st.2 λo q=>(n.2 S r).trans q⟩ λb o a q=>(n.2 b (λz=>a (by simp[z]))).trans q
 done:=λs Q E st d=>SD p st.1 st.2 g j k l λf B=>d f s.toks λb o a q=>B b o (λz=>a (by simp[z])) q
 self:=λi s Q E st d=>by refine aFm (Q4 st.1) F.slot_seti_iter (aBs F.slot_seti_iter (Q4 st.1) F.entry_seti_iter ?_ (F.args_seti_iter _));refine aAa (aAb<|aAb ⟨_,rfl, "set_iterator",_,Q4 st.1,F.slot_seti_next.lookup,d⟩)
def collect_set {Q:List av->bb->Prop}(hh:A.handled=none)(hS:IsSet s.heap S es ep t)(hf:t.fits es.size=true)(hp:t.plain=true)(hl:¬w.params.followText "set-order"=true->t.led=true)(ha:ST.HU t.place)(hn:es.size<=sizeLine)
  (hQ:∀h' tk,(∀b o,s.heap.get? b=some o->h'.get? b=some o)->Q ((walkL w S es ep).map (·.2)) {s with heap:=h',toks:=tk}):bc (bt prog w) A (collect (.ref S)) Q E s:=by
 obtain⟨I,f,j,hdS⟩:=id hS;have hT:s.TypeIs (.ref S) "set":=⟨I,f,j⟩;have C:S<s.heap.objs.size:=aAf f;unfold collect;refine aAa (wpAny_runValue<|aBE PySem.F.entry_proto_collect ?_);rw[aBk PySem.F.plain_proto_collect _];show bc _ A.in1 (newList []>>=λl=>again (.builtin "list.__iadd__" ⟨[l,.ref S],[]⟩)) _ _ s;refine aAa (aBH ?_);refine aAb ⟨aBY PySem.F.plain_list_iadd _,aBE PySem.F.entry_list_iadd ?_⟩;rw[aBk PySem.F.plain_list_iadd _];generalize k:s.heap.push {cls:=.type "list",data:=.seq ([]:List av).toArray}=a;have g:∀b o,s.heap.get? b=some o->a.get? b=some o:=λb o e=>by rw[<-k];exact aAc _ e
 have d:a.objs.size=s.heap.objs.size+1:=by rw[<-k,aBz]
 have J:a.get? s.heap.objs.size=some {cls:=.type "list",data:=.seq ([]:List av).toArray}:=by rw[<-k];exact aAm _ rfl
 have p:IsSet a S es ep t:=bR hS λo e=>g S o e;have L:Shared.TypeIs {s with heap:=a} (.ref S) "set":=⟨I,g _ _ f,j⟩;have q:aDa (.ref s.heap.objs.size) (.ref S)=false:=by simp[aDa,aDt C]
 show bc _ A.in1 (aCa (.ref s.heap.objs.size) (.ref S)<|.ref s.heap.objs.size) _ _ _;unfold aCa;refine aAa (aDP L ?_);rw[ic (by rw[q];decide)];refine aAa (KY (s:={s with heap:=a}) p hf hp ?_);refine aAa (aAR ?_);generalize r:a.push {cls:=.type "set_iterator",dict:=none,data:=.fields #[e9 (slotAt w t 0),e9 (0:Nat),.ref S,e9 es.size,e9 ep],slots:=#[]}=n;have h:∀b o,a.get? b=some o->n.get? b=some o:=λb o e=>by rw[<-r];exact aAc _ e
 have N:O5 n w a.objs.size S t 0 es.size ep:=by rw[<-r];exact aAm _ rfl
 have O:IsSet n S es ep t:=bR p λo e=>h S o e;have m:Shared.TypeIs {s with heap:=n} (.ref S) "set":=⟨I,h _ _ (g _ _ f),j⟩;have u:=h _ _ J;unfold aCD;refine aAa (aBt m PySem.F.slot_set_len.lookup ?_)
 (generalize hid:("set.__len__":String)=v;(fail_if_success (clear hid v));wp_delta;rw[show splitId v=some ("set", "__len__")from by subst hid;decide+kernel];subst hid)
 refine aAa (aDL (b:=true) m (by rw[aEZ];kernel_rfl) ?_);rw[ic (by decide)];refine HR (by decide+kernel) ?_
 .refine aAa (aDP m<|aAb ?_);rw[h9 (by decide)];show bc _ A.in1 (rule "list.extend.makes-room">>=λ_=>aFE (.ref s.heap.objs.size)>>=λ_=>again (.builtin "list.extend.loop" ⟨[.ref s.heap.objs.size,.ref a.objs.size,.ref s.heap.objs.size],[]⟩)) _ _ _
  refine aAa (aDO ?_);refine aAa ?_;show bc _ A.in1 (hE s.heap.objs.size (·.push .none)>>=λ_=>hE s.heap.objs.size (·.pop)) _ _ _;refine aAa (aCb u rfl ?_);have x:=aBf (aBx (·.push Value.none)) u rfl;refine aCb x rfl ?_;have T:=aBf (aBx (·.pop)) x rfl;have U:∀b o,b≠s.heap.objs.size->n.get? b=some o->((n.update s.heap.objs.size (aBx (·.push Value.none))).update s.heap.objs.size (aBx (·.pop))).get? b=some o:=
   λb o y e=>(aAC _ _<|aBU y).trans ((aAC _ _<|aBU y).trans e)
  have z:a.objs.size≠s.heap.objs.size:=by rw[d];lia
  have W:=(IJ (prog:=prog) (w:=w) (A:=A.in1) (by simp[hh]) a.objs.size S (by rw[d];exact aAk (aBA C)) (es:=es) (ep:=ep) (t:=t) hf hp hl ha).toS;refine aAb ⟨aBY PySem.F.plain_extend_loop _,codeAny_extend_loopS W hn _ (by simp only[aAd,aAN,or_false,not_or];exact⟨aBU z,aDt C⟩) _ es.size 0 _ _ _ rfl (aAG _) ⟨U _ _ z N,bR O λo e=>U S o (aAk C) e⟩ T (ItemsOf.nil _) λB jl c' H jf Y=>?_⟩;show bc _ A (load s.heap.objs.size>>=_) _ _ B;refine aAa (wpAny_load jf ?_);refine aAb ?_;have g0:B.gens=s.gens:=H.gens;have d0:B.drawn=s.drawn:=H.drawn;have o0:B.os=s.os:=H.os;have ea:jl.toList=(walkL w S es ep).map (·.2):=by
   have kg:=(walkL_perm w S es ep).length_eq;apply aFf;intro i;rw[aAI,aAD];by_cases hi:i<es.size
   .have zi:i<jl.size:=by rw[Y.1];exact hi
    obtain⟨e,he,hv⟩:=Y.2 i _ (aAJ zi);rw[he,aAJ zi,hv];rfl
   .rw[aCI (by rw[Y.1];lia),aFO (by rw[kg];simp;lia)];rfl
  obtain⟨h',g',d',yh,os'⟩:=B;subst g0 d0 o0;rw[ea];refine hQ h' yh λb o e=>?_;have y:b≠s.heap.objs.size:=aAk (aAf e);have hb2:b≠a.objs.size:=by rw[d];exact aAk (aBA<|aAf e)
  exact H.heap b o (by simp only[aAd,aAN,or_false,not_or];exact⟨y,hb2⟩) (U b o y<|h _ _<|g _ _ e)
end
end SI
namespace DL
open PySem PySem.Spec L2
open PyProof.Rows hiding St
def OP:D->Bool
 |.int _=>true
 |_=>false
def bK:D->Bool
 |.tup Y=>!Y.isEmpty&&Y.all OP
 |_=>false
def intD:D->Int
 |.int i=>i
 |_=>0
def C6:D->List Int
 |.tup Y=>Y.map intD
 |_=>[]
theorem OG:∀{Y:List D},Y.all OP=true->Y=(Y.map intD).map D.int
 |[],_=>rfl
 |x::Y,h=>by
  simp only[aFr,aAF]at h;cases x with
  |int i=>show D.int i::Y=D.int i::(Y.map intD).map D.int;rw[<-OG h.2]
  |_=>cases h.1
def fN (h:bK d=true):C6 d≠[]/\d=.tup ((C6 d).map .int):=by
 cases d with
 |tup Y=>simp only[bK,aAF,Bool.not_eq_true',List.isEmpty_eq_false_iff]at h;refine⟨by simpa[C6]using h.1,?_⟩;show D.tup Y=D.tup ((Y.map intD).map D.int);rw[<-OG h.2]
 |_=>cases h
def xT (h:bK d=true)(h':bK e=true)(q:C6 d=C6 e):d=e:=by rw[(fN h).2,(fN h').2,q]
theorem rV:∀l:List Int,bN (l.map D.int)=true
 |[]=>rfl
 |i::l=>by show(true&&bN (l.map D.int))=true;rw[rV l];rfl
def S9 (h:bK d=true):lY d=true:=by rw[(fN h).2];exact rV _
def EF (h:bK d=true):E8 d<8:=by
 rw[(fN h).2];have:∀l:List Int,J5 (l.map D.int)=0:=λl=>by
  induction l with
  |nil=>rfl
  |cons i l a=>show max 0 (J5<|l.map D.int)=0;rw[a];rfl
 show J5 _+1<8;rw[this];lia
def pT (d:D):List D->List D
 |[]=>[d]
 |x::Y=>if C6 d=C6 x then x::Y else if HT.lexLt (C6 d) (C6 x)=true then d::x::Y else x::pT d Y
def bJ (ds:List D):List D:=ds.foldr pT []
def QB (ds:List D):Prop:=ds.Pairwise λx y=>HT.lexLt (C6 x) (C6 y)=true
theorem gD:∀{Y:List D},e∈pT d Y->e=d\/e∈Y
 |[],h=>by rcases aAd.mp h with h|h;exact .inl h;cases h
 |x::Y,h=>by
  unfold pT at h;split at h
  .exact .inr h
  .split at h
   .rcases aAd.mp h with h|h
    .exact .inl h
    .exact .inr h
   .rcases aAd.mp h with h|h
    .exact .inr (by rw[h];exact .head _)
    .rcases gD h with h|h
     .exact .inl h
     .exact .inr (.tail _ h)
theorem vU:∀{Y:List D},e∈Y->e∈pT d Y
 |x::Y,h=>by
  unfold pT;split
  .exact h
  .split
   .exact .tail _ h
   .rcases aAd.mp h with h|h
    .rw[h];exact .head _
    .exact .tail _ (vU h)
theorem vV (a:bK d=true):∀{Y:List D},(∀x∈Y,bK x=true)->d∈pT d Y
 |[],_=>.head _
 |x::Y,h=>by
  unfold pT;split
  .rename_i q;rw[xT a (h x (.head _)) q];exact .head _
  .split
   .exact .head _
   .exact .tail _ (vV a λy b=>h y (.tail _ b))
theorem xH:∀{Y:List D},QB Y->QB (pT d Y)
 |[],_=>aDS _ _
 |x::Y,h=>by
  have b:=aAz.mp h;unfold pT;split
  .exact h
  .rename_i ne;split
   .rename_i lt;refine aAz.mpr ⟨λy a=>?_,h⟩;rcases aAd.mp a with rfl|a
    .exact lt
    .exact TS.lex_trans _ _ _ lt (b.1 y a)
   .rename_i e;refine aAz.mpr ⟨λy a=>?_,xH b.2⟩;rcases gD a with rfl|a
    .cases q:HT.lexLt (C6 x) (C6 y)with
     |true=>rfl
     |false=>exact absurd (TS.lex_total _ _ (by simpa using e) q) ne
    .exact b.1 y a
theorem cU:∀ds:List D,QB (bJ ds)
 |[]=>.nil
 |_::ds=>xH (cU ds)
theorem wS:∀{ds:List D},(∀d∈ds,bK d=true)->∀d∈bJ ds,bK d=true
 |[],_,d,h=>by cases h
 |e::ds,h,d,hd=>by
  rcases gD hd with rfl|hd
  .exact h _ (.head _)
  .exact wS (λd hd=>h d (.tail _ hd)) d hd
theorem N5:∀{ds:List D},(∀d∈ds,bK d=true)->∀d,d∈bJ ds↔d∈ds
 |[],_,d=>Iff.rfl
 |e::ds,h,d=>by
  have a:∀d∈ds,bK d=true:=λd b=>h d (.tail _ b);constructor
  .intro q;rcases gD q with rfl|q
   .exact .head _
   .exact .tail _ ((N5 a d).mp q)
  .intro q;rcases aAd.mp q with rfl|q
   .exact vV (h _<|.head _) (wS a)
   .exact vU ((N5 a d).mpr q)
theorem xF:∀{Y N:List D},QB Y->QB N->(∀d,d∈Y↔d∈N)->Y=N
 |[],[],_,_,_=>rfl
 |[],y::N,_,_,h=>by have:=(h y).mpr (.head _);cases this
 |x::Y,[],_,_,h=>by have:=(h x).mp (.head _);cases this
 |x::Y,y::N,i,j,h=>by
  have b:=aAz.mp i;have e:=aAz.mp j;have a:∀d:D,HT.lexLt (C6 d) (C6 d)≠true:=λd q=>by rw[TS.lex_irrefl]at q;cases q
  have f:x=y:=by
   rcases aAd.mp ((h x).mp (.head _))with q|q
   .exact q
   .rcases aAd.mp ((h y).mpr (.head _))with g|g
    .exact g.symm
    .exact absurd (TS.lex_trans _ _ _ (e.1 x q)<|b.1 y g) (a y)
  subst f;congr 1;refine xF b.2 e.2 λd=>?_;constructor
  .intro q;rcases aAd.mp ((h d).mp (.tail _ q))with z|z
   .subst z;exact absurd (b.1 d q) (a d)
   .exact z
  .intro q;rcases aAd.mp ((h d).mpr (.tail _ q))with z|z
   .subst z;exact absurd (e.1 d q) (a d)
   .exact z
def IU (h:QB Y):Y.Nodup:=h.imp λ{x y} q z=>by subst z;rw[TS.lex_irrefl]at q;cases q
def tw:D->R (List D)
 |.lst a=>if a.all bK=true/\(bJ a).length<=63 then .ok (bJ a)else .bad
 |_=>.bad
section
mutual
theorem bU (I:Inv X a σ H s):∀{v:V} {d:D} {u:av},Rep X.K H O v d->lY d=true->RelV v u->HV s.heap u d
 |_,_,_,.non,e,_=>by cases e
 |_,_,_,.bl,e,_=>by cases e
 |_,_,_,.str,e,_=>by cases e
 |_,_,_,.lst _ _ _,e,_=>by cases e
 |_,_,_,.dct _ _ _,e,_=>by cases e
 |_,_,_,.int,_,r=>by obtain⟨t,rfl⟩:=r;exact .int _ t
 |_,_,_,.tup h r,e,b=>by cases b;obtain⟨f,g,p,_⟩:=I.tuple h;exact .tup p (DG I r e g)
theorem DG (I:Inv X b σ H s):∀{v:List V} {d:List D} {u:List av},Reps X.K H O v d->bN d=true->l4 v u->HVs s.heap u d
 |_,_,_,.nil,_,.nil=>.nil
 |_,_,_,.cons r t,e,.cons f g=>by have a:(lY _&&bN _)=true:=e;rw[aAF]at a;exact .cons (bU I r a.1 f) (DG I t a.2 g)
end
end
variable [Tabs]
def kj (w:cu)(o:Obj)(es:List av):Prop:=o.ExactSet/\∃a b t,o.data=.set a b t/\t.fits a.size=true/\t.plain=true/\t.led=!w.params.followText "set-order"/\ST.HU t.place/\a.toList.map (·.2)=es
abbrev y9 (K:jb)(H:Hp)(O:bp->Prop):List av->List D->Prop:=Paired λu d=>∃v,RelV v u/\Rep K H O v d
theorem y9.of {K:jb}{H:Hp}{O:bp->Prop}:∀{vs:List V} {a:List av} {ds:List D},l4 vs a->Reps K H O vs ds->y9 K H O a ds
 |_,_,_,.nil,.nil=>.nil
 |_,_,_,.cons r t,.cons q u=>.cons ⟨_,r,q⟩ (y9.of t u)
theorem y9.ac8 {K:jb}{H:Hp}{O:bp->Prop}:∀{a:List av} {ds:List D},y9 K H O a ds->∃vs,l4 vs a/\Reps K H O vs ds
 |_,_,.nil=>⟨[],.nil,.nil⟩
 |_,_,.cons ⟨v,r,q⟩ t=>let⟨vs,b,d⟩:=y9.ac8 t;⟨v::vs,.cons r b,.cons q d⟩
def y9.same {K:jb}{H H':Hp}{O:bp->Prop}(s:Same H H'){a:List av}{ds:List D}(h:y9 K H O a ds):y9 K H' O a ds:=cI (by rintro _ _ ⟨v,r,q⟩;exact⟨v,r,q.same s⟩) h
theorem y9.get {K:jb}{H:Hp}{O:bp->Prop}:∀{a:List av} {ds:List D} {u:av},y9 K H O a ds->u∈a->∃d∈ds,∃v,RelV v u/\Rep K H O v d
 |_,_,_,.cons r t,h=>by
  rcases aAd.mp h with rfl|h
  .exact⟨_,.head _,r⟩
  .obtain⟨d,b,q⟩:=y9.get t h;exact⟨d,.tail _ b,q⟩
open Classical in
def P4 (K:jb) (H:Hp) (h:cy):cy:=PySem.W.hideAll h ((aAU h.objs.size).filter λa=>decide (¬∃Y,W0 K H a Y))
def X1 (K:jb)(H:Hp)(h:cy):Keeps (P4 K H h) h:=λb o e=>PySem.W.of_hideAll _ e
open Classical in
def yR {K:jb}{H:Hp}{h:cy}{b:bp}{o:Obj}{Y:List V}(e:h.get? b=some o)(q:W0 K H b Y):(P4 K H h).get? b=some o:=PySem.W.hideAll_get _ e λa=>by have:=(aAx.mp a).2;exact(of_decide_eq_true this) ⟨Y,q⟩
open Classical in
def AZ {K:jb}{H:Hp}{h:cy}{b:bp}{o:Obj}(e:(P4 K H h).get? b=some o):∃Y,W0 K H b Y:=by refine aCR λn=>?_;have a:=X1 K H h b o e;have:(P4 K H h).get? b=none:=PySem.W.hideAll_none _ (aAx.mpr ⟨aBm.mpr (aAf a),decide_eq_true n⟩);rw[this]at e;cases e
section
mutual
theorem NI (I:Inv X a σ H s):∀{v:V} {d:D} {u:av},Rep X.K H O v d->lY d=true->RelV v u->HV (P4 X.K H s.heap) u d
 |_,_,_,.non,e,_=>by cases e
 |_,_,_,.bl,e,_=>by cases e
 |_,_,_,.str,e,_=>by cases e
 |_,_,_,.lst _ _ _,e,_=>by cases e
 |_,_,_,.dct _ _ _,e,_=>by cases e
 |_,_,_,.int,_,r=>by obtain⟨t,rfl⟩:=r;exact .int _ t
 |_,_,_,.tup h r,e,b=>by cases b;obtain⟨f,i,⟨o,g,c,n,d⟩,_⟩:=I.tuple h;exact .tup ⟨o,yR g h,c,n,d⟩ (DH I r e i)
theorem DH (I:Inv X b σ H s):∀{v:List V} {d:List D} {u:List av},Reps X.K H O v d->bN d=true->l4 v u->HVs (P4 X.K H s.heap) u d
 |_,_,_,.nil,_,.nil=>.nil
 |_,_,_,.cons r t,e,.cons f g=>by have a:(lY _&&bN _)=true:=e;rw[aAF]at a;exact .cons (NI I r a.1 f) (DH I t a.2 g)
end
mutual
theorem OE (I:Inv X b σ H s):∀{u:av} {d:D},HV (P4 X.K H s.heap) u d->∃v,RelV v u/\Rep X.K H O v d
 |_,_,.int i t=>⟨.int i,⟨t,rfl⟩,.int⟩
 |_,_,.tup (a:=a) ⟨o,g,c,n,h⟩ r=>by obtain⟨Y,q⟩:=AZ g;obtain⟨j,k,l⟩:=y9.ac8 (FH I r);obtain⟨m,p,⟨x,e,_,y,f⟩,_⟩:=I.tuple q;rw[X1 _ _ _ _ _ g]at e;cases e;rw[h]at f;injection f with w _;subst w;have:j=Y:=k.inj (by simpa using p);subst this;exact⟨.ref a,rfl,.tup q l⟩
theorem FH (I:Inv X a σ H s):∀{u:List av} {d:List D},HVs (P4 X.K H s.heap) u d->y9 X.K H O u d
 |_,_,.nil=>.nil
 |_,_,.cons r t=>.cons (OE I r) (FH I t)
end
end
section
def iy (X:Cx)(B:D->Bool)(U:List D->List D)(f:Ev->R D):TE:=λσ H Q=>∃i j O ρ,EnvOk X.K i j H O σ ρ/\match f ρ with
 |.ok (.lst b)=>(b.all B=true/\(U b).length<=63)/\∀S o g e a,Same H a->a S=none->kj X.w o g->y9 X.K a O g e->e.Nodup->(∀d,d∈e↔d∈b)->Q (.ref S) (upd a S<|.frz o (.own S))
 |.ex x=>∀h,Same H h->XW X x h
 |_=>False
def SH {B:D->Bool}{U:List D->List D}(hB:∀{d},B d=true->lY d=true/\E8 d<8/\∃N,d=.tup N)(hU:∀{ds:List D},(∀d∈ds,B d=true)->∀d,d∈U ds↔d∈ds)(ha:PB X e f)(hh:X.calm=true)(hu:X.A.units+300<dy)(hg:Gl X "set":=by rfl)(hm:X.mg "set"=none:=by assumption)(hv:dt "set"=some (.type "set"):=by decide+kernel)(he:a9 [e] X.env=(false,dq e X.env)::a9 [] X.env:=by rfl)(bg:(cz pos (a9 [] X.env)).any (·.1)=false:=by rfl):
  PE X (.Call (.Name "set" p) [e] [] pos) (iy X B U f):=by
 refine rL λC s σ H Q I Ha O0 O ρ E q=>?_;refine aAQ (N2 I hg hm hv ?_ (by decide) (by decide));have qr:PA X [e] _:=J3 ha aY he;refine aBl (B1 (qr pos C s σ H (λvs g=>∃v ds,vs=[v]/\f ρ=.ok (.lst ds)/\Same H g/\A8 X.K g O v (.lst ds)) I ⟨Ha,O0,O,ρ,E,?_⟩) λus h z9=>?_) he bg
 .cases b:f ρ with
  |ex z=>rw[b]at q;exact q
  |bad=>rw[b]at q;exact q.elim
  |ok d=>
   rw[b]at q;cases d with
   |lst ds=>exactλv g h r1=>⟨v,ds,rfl,rfl,h,r1⟩
   |_=>exact q.elim
 .obtain⟨vs,g,m,r1,v,ds,ev,ef,sm,rb⟩:=z9;subst ev;rw[ef]at q;obtain⟨⟨hp,zl⟩,q⟩:=q;obtain⟨a,ws,rfl,hS,rr⟩:=rb.aa6;obtain⟨u,rfl,ru⟩:=vals1 r1;cases ru;obtain⟨k,rv,⟨oL,nL,gL,cL,dL,sL⟩,zL⟩:=m.list hS;have pt:∀d∈ds,B d=true:=aCf.mp hp;have hlen:k.toArray.size=ds.length:=by rw[aAl,<-rv.length,rr.length]
  have st:y9 X.K g O k ds:=y9.of rv rr;have J:∀(i:Nat) (v:av),k.toArray[i]?=some v->YK (P4 X.K g h.heap) v (ds.getD i .non):=λi v n=>by
   rw[aCN]at n;obtain⟨d,x,w,rh,rp⟩:=F7 st n;have oa:ds.getD i .non=d:=by rw[aAw,x];rfl
   rw[oa];have hpt:=pt d (aAt x);obtain⟨Y,hd8,N,rfl⟩:=hB hpt;have hv:=NI m rp Y rh;cases hv with
   |tup p r=>exact⟨_,_,rfl,rfl,hd8,.tup p r⟩
  have vd:∀i<k.toArray.size,E8 (ds.getD i .non)<8/\∃N,ds.getD i .non=.tup N:=λi n=>by
   have L:i<ds.length:=by rw[<-hlen];exact n
   have b:ds.getD i .non=ds[i]:=by rw[aAw,aAj L];rfl
   rw[b];exact(hB<|pt _<|aCL L).2
  refine yI (X1 X.K g h.heap) (val:=λi=>ds.getD i .non) (U:=U ds) (m.ok.hd hh) ⟨oL,gL,cL,nL,sL⟩ J vd (λi n=>?_) (by lia) hu λh' tk br jf qm kp=>?_
  .have L:i<ds.length:=by rw[<-hlen];exact n
   rw[hU pt];have b:ds.getD i .non=ds[i]:=by rw[aAw,aAj L];rfl
   show ds.getD i .non∈ds;rw[b];exact aCL L
  .obtain⟨⟨o,y,ep,t,Y,hc,T,hsl,x,l,msk,pr,led,pl⟩,nd⟩:=jf;have mem:∀d,d∈br↔d∈ds:=λd=>by
    rw[qm];constructor
    .rintro⟨j,hj,b⟩;have ui:j<ds.length:=by rw[<-hlen];exact hj
     have e2:ds.getD j .non=ds[j]:=by rw[aAw,aAj ui];rfl
     rw[<-b,e2];exact aCL ui
    .intro x;obtain⟨j,hj,b⟩:=aBo x;refine⟨j,by rw[hlen];exact hj,?_⟩;show ds.getD j .non=d;rw[aAw,aAj hj,<-b];rfl
   have I2:=m.laid (a:=h.heap.objs.size) (o:=.frz o (.own h.heap.objs.size)) (h':=h') (t':=tk) kp (aAi _) ⟨Y,o,Y⟩;refine⟨.ref h.heap.objs.size,_,I2,rfl,q h.heap.objs.size o (y.toList.map (·.2)) br g sm (m.hok.fresh<|aAi _) ⟨⟨hc,T,hsl⟩,y,ep,t,x,?_,pl,led,l.tab.asc,rfl⟩ ?_ nd mem⟩
   .have h1:=l.len;have h2:=l.room;simp only[aGo,aAF,beq_iff_eq,decide_eq_true_eq];exact⟨by simpa using h1,by show t.place.size+t.dummies.size<=t.mask;rw[l.tab.nod];simpa using h2⟩
   .have:∀{y:List (Int×av)} {ds:List D},Paired (EV<|P4 X.K g h.heap) y ds->y9 X.K g O (y.map (·.2)) ds:=λ{y ds} p=>by
     induction p with
     |nil=>exact .nil
     |cons r _ ih=>exact .cons (OE m r.1) ih
    exact this pr
def SR (h:cy) (v:av):List Int:=open Classical in if p:∃d,bK d=true/\HV h v d then C6 p.choose else[]
def tT (b:bK d=true)(a:HV h v d):SR h v=C6 d:=by unfold SR;have q:∃d,bK d=true/\HV h v d:=⟨d,b,a⟩;rw[dif_pos q,HV.inj q.choose_spec.2 a]
def aD (f:bK d=true)(e:HV h v d):∃b B,v=.ref b/\IsTup h b B/\IntsAre B.toList (C6 d):=by
 rw[(fN f).2]at e;cases e with
 |tup p r=>
  refine⟨_,_,rfl,p,?_⟩;have:∀{a:List av} {l:List Int},HVs h a (l.map D.int)->IntsAre a l:=λ{a l} r=>by
   induction l generalizing a with
   |nil=>cases r;exact .nil
   |cons i l g=>
    cases r with
    |cons r t=>cases r;exact .cons _ _ (g t)
  exact this r
def YG {prog:cp}{w:cu}{A:cq}{E:D3}{s:bb}{x y:av}{d e:D}{f:Bool}{Q:vT}(g:bK d=true)(h:bK e=true)(i:HV s.heap x d)(j:HV s.heap y e)(q:Q (HT.lexLt (C6 d) (C6 e)) s):bc (bt prog w) A (keyLt' (TS.tupK f) x y) Q E s:=by obtain⟨b,k,rfl,l,m⟩:=aD g i;obtain⟨p,a,rfl,n,o⟩:=aD h j;exact TS.lt_ints f l n m o q
def LN {prog:cp}{w:cu}{A:cq}{E:D3}{s:bb}{vs:List av}{Q:SortKind->bb->Prop}(h:∀x∈vs,∃d,bK d=true/\HV s.heap x d)(u:2<=vs.length)(q:Q (TS.tupK true) s):bc (bt prog w) A (keyKind' vs.toArray) Q E s:=by
 obtain⟨f,i⟩:∃f:av->av,∀x∈vs,∃b B k t,x=.ref b/\IsTup s.heap b B/\B[0]?=some (f x)/\f x=.int k t:=by
  refine⟨λx=>open Classical in if z:∃p,∃b B k t,x=.ref b/\IsTup s.heap b B/\B[0]?=some p/\p=aGF k t then z.choose else .none,λx j=>?_⟩;obtain⟨d,v,C⟩:=h x j;obtain⟨b,B,rfl,H,a⟩:=aD v C;have y:=(fN v).1;have z:∃p,∃g B k t,aCU b=.ref g/\IsTup s.heap g B/\B[0]?=some p/\p=aGF k t:=by
   cases e:B.toList with
   |nil=>rw[e]at a;generalize C6 d=l at a y;cases a;exact absurd rfl y
   |cons p J=>
    rw[e]at a;generalize C6 d=l at a;cases a with
    |cons k t L=>exact⟨_,b,B,k,t,rfl,H,by rw[<-aAD,e];rfl,rfl⟩
  dsimp only;rw[dif_pos z];obtain⟨g,I,k,t,m,n,o,r⟩:=z.choose_spec;exact⟨g,I,k,t,m,n,o,r⟩
 refine TS.kind_tuples (T:= "int") f (λx j=>?_) (λz=>by rw[z]at u;simp at u) (by decide) q;obtain⟨b,B,k,t,m,n,o,r⟩:=i x j;exact⟨b,B,m,n,o,by rw[r];exact typeIs_int s k t⟩
def tN {K:jb}{H:Hp}{O:bp->Prop}{n b:List av}{ds:List D}{key:av->List Int}(st:y9 K H O n ds)(C:b.Perm n)(E:b.Pairwise λx y=>HT.lexLt (key y) (key x)=false)(I:∀u d,(∃v,RelV v u/\Rep K H O v d)->d∈ds->key u=C6 d)(pt:∀d∈ds,bK d=true)(J:ds.Nodup):
  ∃a,y9 K H O b a/\a.Perm ds/\QB a:=by
 obtain⟨a,j,k⟩:=cH C st;refine⟨a,k,j,?_⟩;have m:a.Nodup:=j.nodup_iff.mpr J;have o:∀d∈a,bK d=true:=λd f=>pt d (j.mem_iff.mp f);have p:∀u d,(∃v,RelV v u/\Rep K H O v d)->d∈a->key u=C6 d:=λu d h f=>I u d h (j.mem_iff.mp f);clear C j st J pt I;induction k with
 |nil=>exact .nil
 |@cons u d n ds r t s=>
  have w:=aAz.mp E;have A:=aAS.mp m;refine aAz.mpr ⟨λe g=>?_,s w.2 A.2 (λd f=>o d (.tail _ f)) λu d h f=>p u d h (.tail _ f)⟩;have:∃i∈n,∃v,RelV v i/\Rep K H O v e:=by
   clear s E w A m o p r;induction t with
   |nil=>cases g
   |cons r t s=>
    rcases aAd.mp g with rfl|g
    .exact⟨_,.head _,r⟩
    .obtain⟨i,B,q⟩:=s g;exact⟨i,.tail _ B,q⟩
  obtain⟨i,B,q⟩:=this;have l:=w.1 i B;rw[p i e q (.tail _ g),p u d r (.head _)]at l;cases z:HT.lexLt (C6 d) (C6 e)with
  |true=>rfl
  |false=>have:=xT (o _<|.head _) (o _<|.tail _ g) (TS.lex_total _ _ z l);subst this;exact absurd g A.1
def iA {p p2 gh:Pos}{f:Ev->R D}(ha:PB X e f)(hh:X.calm=true)(hu:X.A.units+300<dy)(hg:Gl X "set":=by rfl)(hm:X.mg "set"=none:=by assumption)(hg2:Gl X "sorted":=by rfl)(kl:X.mg "sorted"=none:=by assumption)
  (hv:dt "set"=some (.type "set"):=by decide+kernel) (hv2:dt "sorted"=some (.builtin "sorted"):=by decide+kernel)
  (he:a9 [e] X.env=(false,dq e X.env)::a9 [] X.env:=by rfl) (bg:(cz gh (a9 [] X.env)).any (·.1)=false:=by rfl)
  (jm:a9 [.Call (.Name "set" p2) [e] [] gh] X.env=(false,dq (.Call (.Name "set" p2) [e] [] gh) X.env)::a9 [] X.env:=by rfl) (xm:(cz pos (a9 [] X.env)).any (·.1)=false:=by rfl):
  PF X (.Call (.Name "sorted" p) [.Call (.Name "set" p2) [e] [] gh] [] pos) (λρ=>(f ρ).bind tw):=by
 refine rL λpins s σ H Q I Ha O0 O ρ E q=>?_;dsimp only at q;refine aAQ (N2 I hg2 kl hv2 ?_ (by decide) (by decide));have qr:PA X [.Call (.Name "set" p2) [e] [] gh] _:=J3 (SH (p:=p2) (B:=bK) (U:=bJ) (λh=>⟨S9 h,EF h,_,(fN h).2⟩) N5 ha hh hu hg hm hv he bg) aY jm;refine aBK (B1 (qr pos pins s σ H (λvs H2=>∃S o es i g L,vs=[.ref S]/\H2=upd L S (.frz o (.own S))/\f ρ=.ok (.lst g)/\(g.all bK=true/\(bJ g).length<=63)/\Same H L/\L S=none/\kj X.w o es/\y9 X.K L O es i/\i.Nodup/\(∀d,d∈i↔d∈g)) I ⟨Ha,O0,O,ρ,E,?_⟩)
  λus s1 z=>?_) jm xm
 .cases e1:f ρ with
  |ex z=>rw[e1]at q;exact q
  |bad=>rw[e1]at q;exact q.elim
  |ok d=>
   rw[e1,R.aa0]at q;cases d with
   |lst g=>
    simp only[tw]at q;by_cases hc:g.all bK=true/\(bJ g).length<=63
    .exact⟨hc,λS o es i L sm hS so st nd j=>⟨S,o,es,i,g,L,rfl,rfl,rfl,hc,sm,hS,so,st,nd,j⟩⟩
    .rw[ic hc]at q;exact q.elim
   |_=>exact q.elim
 .obtain⟨vs,H2,I2,r1,S,o,es,i,g,L,ev,eH,ef,⟨hp,zl⟩,sm,hS1,so,st,nd,j⟩:=z;subst ev eH;obtain⟨u,rfl,ru⟩:=vals1 r1;cases ru;rw[ef,R.aa0]at q;simp only[tw]at q;rw[h9 ⟨hp,zl⟩]at q;have pt:∀d∈g,bK d=true:=aCf.mp hp;have yi:∀d∈i,bK d=true:=λd J=>pt d ((j d).mp J);have s12:Same L (upd L S<|.frz o (.own S)):=j5 hS1 _;have kh:=st.same s12;obtain⟨hc,ea,ep,t,J,hf,hpln,led,asc,ees⟩:=so;have goS:=(I2.hok S _ i9).1;have hS2:SI.IsSet s1.heap S ea ep t:=⟨o,goS,hc.1,J⟩;have hsl:(bJ g).Perm i:=by
   letI:DecidableEq D:=λa b=>aDZ _
   exact(aDC (IU<|cU g) nd).mpr λd=>by rw[N5 pt,j]
  have ig:ea.size=i.length:=by have:=st.length;rw[<-ees]at this;simpa using this
  have h63':i.length<=63:=by rw[<-hsl.length_eq];exact zl
  have wp:=SI.walkL_perm X.w S ea ep;have wpv:((SI.walkL X.w S ea ep).map (·.2)).Perm es:=by rw[<-ees];exact wp.map _
  have m:∀u∈(SI.walkL X.w S ea ep).map (·.2),∃d,d∈i/\bK d=true/\HV s1.heap u d:=λu hu=>by obtain⟨d,J,v,rv,rp⟩:=kh.get (wpv.mem_iff.mp hu);exact⟨d,J,yi d J,bU I2 rp (S9<|yi d J) rv⟩
  refine TS.sorted_keys (vs:=(SI.walkL X.w S ea ep).map (·.2)) (f:=true) (key:=SR s1.heap) (C:=λs'=>∃h' T,s'={s1 with heap:=h',toks:=T}/\∀b o,s1.heap.get? b=some o->h'.get? b=some o)
   (λ{Q'} hq=>SI.collect_set (by simp[I2.ok.hd hh]) hS2 hf hpln (λnb=>by rw[led];simpa using nb) asc (by rw[ig];exact aAq h63' (by decide)) λh' T k=>hq _ ⟨h',T,rfl,k⟩)
   (λs' ⟨h',T,r,k⟩ s6 k6 x hx y hy prog w A E hA {Q} qq=>?_) (λh2 s' ⟨h',T,r,k⟩ s6 k6 A {Q} qq=>?_) (by rw[aAh,wp.length_eq,aBb,ig];lia) λs' il h' l ⟨h1,T,r,k⟩ pm srt k2 hl ⟨n,gl⟩=>?_
  .subst r;obtain⟨d,_,pd,N⟩:=m x hx;obtain⟨d',_,pd',Y⟩:=m y hy;rw[tT pd N,tT pd' Y]at qq;exact YG pd pd' (N.keeps λb o e _=>k6 b o (k b o e)) (Y.keeps λb o e _=>k6 b o (k b o e)) qq
  .subst r;refine LN (λx hx=>?_) h2 qq;obtain⟨d,_,pd,N⟩:=m x hx;exact⟨d,pd,N.keeps λb o e _=>k6 b o (k b o e)⟩
  .subst r;obtain⟨sr,st3,p2,srt2⟩:=tN (key:=SR s1.heap) kh (pm.trans wpv) srt (by rintro u d ⟨v,rv,rp⟩ J;exact tT (yi d J) (bU I2 rp (S9<|yi d J) rv)) yi nd;have e2:sr=bJ g:=xF srt2 (cU g) λd=>by rw[p2.mem_iff,j,N5 pt]
   subst e2;obtain⟨wv,rh,rr⟩:=st3.ac8;have I2':=I2.kept (h':=h1) (t':=T) k;have I3:=I2'.laid (a:=l) (o:=.lst wv) (h':=h') (t':=T) k2 hl ⟨by rw[rr.length];exact aAq zl (by decide),il,n,rh,gl⟩;exact⟨.ref l,_,I3,rfl,q wv _ l (sm.trans s12) (I2'.hok.fresh hl) rr⟩
end
end DL
namespace SZ
open PySem
abbrev Zs (h:cy)(z TI TO:bp)(a b:av):Prop:=h.get? z=some {cls:=.type "zip",dict:=none,data:=.fields #[a,b,.bool false,.ref TI,.ref TO],slots:=#[]}
def zC (b:av):Prop:=b=.none\/∃a:Nat,b=e9 a
section
def alive {Q:Option Obj->bb->Prop}(h:Q (s.heap.get? c) s):bc (bt prog w) A (loadIfAlive c) Q E s:=λΓ p _=>by unfold loadIfAlive;rw[Sem.wp_loadIfAlive];simpa using h
def lN {Q:vT}(hz:Zs s.heap z TI TO b d)(j:zC b)(f:Q true s)(g:∀h' e,Zs h' z TI TO b e->Heap.SameBut z s.heap h'->Q false {s with heap:=h'}):bc (bt prog w) A (aBQ (.ref z)) Q E s:=by
 unfold aBQ;refine aAa (aCQ hz rfl (x:=b) rfl ?_);rcases j with rfl|⟨a,rfl⟩
 .exact aAb f
 .show bc _ _ (loadIfAlive (aEH (a:Int))>>=_) _ _ _;refine aAa (alive ?_);by_cases h:(s.heap.get?<|aEH (a:Int)).isNone=true
  .rw[h9 h];exact aAb f
  .rw[ic h];refine aAa (aCQ hz rfl (x:=d) rfl ?_);by_cases i:(d !=aCJ true)=true
   .rw[h9 i];refine aAa (aBZ hz (by simp) λh' k l=>aAb (g h' (.bool true) k l))
   .rw[ic i];exact aAb (g s.heap d hz ⟨rfl,λ_ _=>rfl⟩)
def OT {Q:D3}(D:ZipApart z TI TO l m L l2)(hz:Zs s.heap z TI TO f0 f1)(ho:zC f0)(vg:gs s.heap TI (.ref l) (.ref m))(ug:gs s.heap TO a b)(h1:s.heap.IsListIter l L k)(h2:s.heap.IsListIter m l2 k)(qp:s.heap.IsList L Y)(kg:s.heap.IsList l2 N)(hx:Y[k]?=some x)(hy:N[k]?=some y)(hQ:∀h' T O t a' b',Zs h' z TI TO O t->zC O->gs h' TO a' b'->h'.IsListIter l L (k+1)->h'.IsListIter m l2 (k+1)->s.heap.objs.size<=T->gs h' T x y->
   (∀c o,c≠z->c≠TO->c≠l->c≠m->s.heap.get? c=some o->h'.get? c=some o)->Q (.ref T) {s with heap:=h'}):
  bc (bt prog w) A (Builtin.«zip.__next__» ⟨[.ref z],[]⟩) (λfin s'=>∃v,fin=.done (.ret v)/\Q v s') E s:=by
 show bc _ _ (field (.ref z) 2>>=_) _ _ _;refine aAa (aCQ hz rfl (x:=.bool false) rfl ?_);show bc _ _ (field (.ref z) 3>>=_) _ _ _;refine aAa (aCQ hz rfl (x:=.ref TI) rfl ?_);refine aAa (aBM vg rfl ?_);show bc _ _ (aBQ (.ref z)>>=_) _ _ _;refine aAa (lN hz ho ?_ λp t U d=>?_)
 .simp only[if_true];refine aAa (aDO ?_);refine aAa (aCQ hz rfl (x:=.ref TO) rfl ?_);refine aAa (aBZ hz (by simp) λp U d=>?_);replace U:Zs p z TI TO .ellipsis f1:=U;refine aAa ?_;simp only[aEs,aEF,aCY,aEh];refine aAa (aAa<|wpAny_onRaise ?_);show bc _ _ (aBN (.ref l)>>=_) _ _ _;refine aAa (aDk (h1.extBut d.extBut D.i1z) (qp.extBut d.extBut D.l1z) hx λja u g=>aAb ?_);have q:gs ja TO a b:=g.extBut _ _ D.TOi1 (d.extBut _ _ D.TOz ug);refine aAa (aBM q rfl ?_);refine aAa (wpAny_updateSeq_pair q λaA h J=>?_);replace h:gs aA TO x b:=h;refine aAa (aEg<|aAb ?_);refine aAa (aAa<|wpAny_onRaise ?_);show bc _ _ (aBN (.ref m)>>=_) _ _ _;refine aAa (aDk (((h2.extBut d.extBut D.i2z).extBut g.extBut D.i12.symm).extBut J.extBut D.TOi2.symm)
   (((kg.extBut d.extBut D.l2z).extBut g.extBut D.l2i1).extBut J.extBut D.l2TO) hy λB C i=>aAb ?_)
  have zr:gs B TO x b:=i.extBut _ _ D.TOi2 h;refine aAa (aBM zr rfl ?_);refine aAa (wpAny_updateSeq_pair zr λf zu j=>?_);replace zu:gs f TO x y:=zu;refine aAa (aEg<|aAb<|aAb ?_);refine aAa (aBM zu rfl ?_);refine aAa (aGc ?_);have ig:f.objs.size=s.heap.objs.size:=by rw[j.1,i.1,J.1,g.1,d.1]
  have hz3:Zs f z TI TO .ellipsis f1:=j.extBut _ _ D.TOz.symm (i.extBut _ _ D.i2z.symm<|J.extBut _ _ D.TOz.symm<|g.extBut _ _ D.i1z.symm U);have hk3:∀c o,c≠z->c≠TO->c≠l->c≠m->s.heap.get? c=some o->f.get? c=some o:=λc o n c2 c3 c4 e=>j.extBut _ _ c2 (i.extBut _ _ c4<|J.extBut _ _ c2<|g.extBut _ _ c3<|d.extBut _ _ n e)
  have h12:f.IsListIter l L (k+1):=((u.extBut J.extBut D.TOi1.symm).extBut i.extBut D.i12).extBut j.extBut D.TOi1.symm;have h21:f.IsListIter m l2 (k+1):=C.extBut j.extBut D.TOi2.symm;have r:z<f.objs.size:=aAf hz3;show bc _ _ (aDI (.ref z) (.ref f.objs.size)>>=_) _ _ _;refine aAa ?_;unfold aDI;have hz5:Zs (f.push {cls:=.type "tuple",data:=.seq #[x,y]}) z TI TO .ellipsis f1:=aAc _ hz3;refine aAa (aBZ hz5 (by simp) λaC H hs8=>?_);replace H:Zs aC z TI TO (e9 f.objs.size) f1:=H;refine aBZ H (by simp) λaB I hs9=>?_;replace I:Zs aB z TI TO (e9 f.objs.size) (.bool false):=I;have up:∀c o,c≠z->f.get? c=some o->aB.get? c=some o:=λc o n e=>hs9.extBut _ _ n (hs8.extBut _ _ n<|aAc _ e);have hT0:gs aB f.objs.size x y:=hs9.extBut _ _ (aDt r) (hs8.extBut _ _ (aDt r)<|aAm _ rfl);refine aAb ⟨_,rfl,?_⟩;exact hQ aB f.objs.size _ _ x y I (.inr ⟨_,rfl⟩) (up _ _ D.TOz zu) (h12.at λo e=>up _ o D.i1z e) (h21.at λo e=>up _ o D.i2z e) (aEn ig.symm) hT0 λc o n c2 c3 c4 e=>up c o n (hk3 c o n c2 c3 c4 e)
 .simp only[aAu,if_false];refine aAa ?_;show bc _ _ (forIn (#[.ref l,.ref m]:Array av) _ _) _ _ _;rw[<-aCt];simp only[aCY,aEh];refine aAa (aAa<|aAR ?_);show bc _ _ (aBN (.ref l)>>=_) _ _ _;refine aAa (aDk (h1.extBut d.extBut D.i1z) (qp.extBut d.extBut D.l1z) hx λja u g=>aAb ?_);refine aAb ?_;refine aAa (aAa<|aAR ?_);show bc _ _ (aBN (.ref m)>>=_) _ _ _;refine aAa (aDk ((h2.extBut d.extBut D.i2z).extBut g.extBut D.i12.symm) ((kg.extBut d.extBut D.l2z).extBut g.extBut D.l2i1) hy λB C i=>aAb ?_);refine aAb (aAb ?_);have ig:B.objs.size=s.heap.objs.size:=by rw[i.1,g.1,d.1]
  have hz6:Zs B z TI TO f0 t:=i.extBut _ _ D.i2z.symm (g.extBut _ _ D.i1z.symm U);have zr:gs B TO a b:=i.extBut _ _ D.TOi2 (g.extBut _ _ D.TOi1<|d.extBut _ _ D.TOz ug);have h13:B.IsListIter l L (k+1):=u.extBut i.extBut D.i12;show bc _ _ (newTuple [x,y]>>=_) _ _ _;refine aAa (aGc ?_);refine aAb ⟨_,rfl,?_⟩;exact hQ _ B.objs.size _ _ a b (aAc _ hz6) ho (aAc _ zr) (h13.at λo e=>aAc _ e) (C.at λo e=>aAc _ e) (aEn ig.symm) (aAm _ rfl)
   λc o n c2 c3 c4 e=>aAc _ (i.extBut _ _ c4<|g.extBut _ _ c3<|d.extBut _ _ n e)
def SA {Q:Fin->bb->Prop}(u:A.handled=none)(D:ZipApart z TI TO h l v y)(hz:Zs s.heap z TI TO O B)(T:zC O)(U:gs s.heap TI (.ref h) (.ref l))(ug:gs s.heap TO a b)
  (C:s.heap.IsListIter h v k) (h2:s.heap.IsListIter l y k) (H:s.heap.IsList v Y) (kg:s.heap.IsList y N) (I:Y[k]?=none)
  (J:∀h' e,(∀c o,c≠z->c≠TO->c≠h->c≠l->s.heap.get? c=some o->h'.get? c=some o)->(∃o,h'.get? e=some o/\o.cls=.type "StopIteration")->E (.ref e) {s with heap:=h'}):
  bc (bt prog w) A (Builtin.«zip.__next__» ⟨[.ref z],[]⟩) Q E s:=by
 show bc _ _ (field (.ref z) 2>>=_) _ _ _;refine aAa (aCQ hz rfl (x:=.bool false) rfl ?_);show bc _ _ (field (.ref z) 3>>=_) _ _ _;refine aAa (aCQ hz rfl (x:=.ref TI) rfl ?_);refine aAa (aBM U rfl ?_);show bc _ _ (aBQ (.ref z)>>=_) _ _ _;refine aAa (lN hz T ?_ λd f1' m f=>?_)
 .simp only[if_true];refine aAa (aDO ?_);refine aAa (aCQ hz rfl (x:=.ref TO) rfl ?_);refine aAa (aBZ hz (by simp) λd m f=>?_);replace m:Zs d z TI TO .ellipsis B:=m;refine aAa ?_;simp only[aEs,aEF,aCY,aEh];refine aAa (aAa<|wpAny_onRaise ?_);show bc _ _ (aBN (.ref h)>>=_) _ _ _;refine aAa (wpAny_nextOf_list_end u (C.extBut f.extBut D.i1z) (H.extBut f.extBut D.l1z) I λq e n r=>?_);obtain⟨oe,g,i⟩:=r;have j:Zs q z TI TO .ellipsis B:=n _ _ D.i1z.symm m;have t:e≠z:=λx=>by subst x;rw[j]at g;cases g;simp at i
  exact aBZ j (by simp) λaA _ L=>J aA e (λc o p _ c3 _ x=>L.extBut _ _ p (n _ _ c3<|f.extBut _ _ p x)) ⟨oe,L.extBut _ _ t g,i⟩
 .simp only[aAu,if_false];refine aAa ?_;show bc _ _ (forIn (#[.ref h,.ref l]:Array av) _ _) _ _ _;rw[<-aCt];simp only[aCY,aEh];refine aAa (aAa<|aAR ?_);show bc _ _ (aBN (.ref h)>>=_) _ _ _;exact aAa (wpAny_nextOf_list_end u (C.extBut f.extBut D.i1z) (H.extBut f.extBut D.l1z) I λq e n r=>J q e (λc o p _ c3 _ x=>n _ _ c3 (f.extBut _ _ p x)) r)
end
def JZ (z TI TO d e f g:bp)(Y N:Array av)(i:Nat)(h:cy):Prop:=
 (∃j k,Zs h z TI TO j k/\zC j)/\gs h TI (.ref d) (.ref e)/\(∃a b,gs h TO a b)/\h.IsListIter d f i/\h.IsListIter e g i/\h.IsList f Y/\h.IsList g N
section
variable{s:bb}
def JZ.type (h:JZ z TI TO b d e f Y N i s.heap):s.TypeIs (.ref z) "zip":=by obtain⟨⟨g,j,a,_⟩,_⟩:=h;exact⟨_,a,rfl⟩
def JZ.keeps (x:JZ z TI TO d f g j Y N i h)(k:∀b o,b∈[z,TI,TO,d,f,g,j]->h.get? b=some o->h'.get? b=some o):JZ z TI TO d f g j Y N i h':=by obtain⟨⟨l,m,n,p⟩,q,⟨a,b,r⟩,t,u,v,w⟩:=x;exact⟨⟨l,m,k z _ (by simp) n,p⟩,k TI _ (by simp) q,⟨a,b,k TO _ (by simp) r⟩,t.at λo e=>k d o (by simp) e,u.at λo e=>k f o (by simp) e,v.at λo e=>k g o (by simp) e,w.at λo e=>k j o (by simp) e⟩
def NS {Q:Option av->bb->Prop}(D:ZipApart z TI TO g h l m)(hl:Y.size=N.size)(st:JZ z TI TO g h l m Y N i s.heap)(v:i<Y.size)(B:∀h' T x y,Y[i]?=some x->N[i]?=some y->JZ z TI TO g h l m Y N (i+1) h'->s.heap.objs.size<=T->gs h' T x y->(∀c o,c∉[z,TO,g,h]->s.heap.get? c=some o->h'.get? c=some o)->Q (some (.ref T)) {s with heap:=h'}):
  bc (bt prog w) A (gk (.ref z)) Q E s:=by
 have n:=st.type;obtain⟨⟨f0,f1,C,H⟩,p,⟨a,b,I⟩,J,L,q,r⟩:=st;have t:Y[i]?=some Y[i]:=aAJ v;have u:N[i]?=some (N[i]'(by lia)):=aAJ (by lia);unfold gk;refine aAa (aEy (aCy (name:=aDv "__next__") n aEa
  (aBs aEa n F.entry_zip_next (OT D C H p I J L q r t u λh' T j k O U e1 e2 e3 e4 e5 e6 e7 f=>aAb ?_)<|F.args_zip_next_1 _)))
 refine B h' T _ _ t u ⟨⟨j,k,e1,e2⟩,f _ _ D.TIz D.TITO D.TIi1 D.TIi2 p,⟨O,U,e3⟩,e4,e5,q.at λo e=>f _ o D.l1z D.l1TO D.l1i1 D.l1i2 e,r.at λo e=>f _ o D.l2z D.l2TO D.l2i1 D.l2i2 e⟩ e6 e7 λc o d e=>?_;simp only[aAd,aAN,or_false,not_or]at d;exact f c o d.1 d.2.1 d.2.2.1 d.2.2.2 e
def JQ {Q:Option av->bb->Prop}(i:A.handled=none)(D:ZipApart z TI TO f g j k)(st:JZ z TI TO f g j k Y N Y.size s.heap)
  (l:∀h',(∀c o,c∉[z,TO,f,g]->s.heap.get? c=some o->h'.get? c=some o)->Q none {s with heap:=h'}):bc (bt prog w) A (gk (.ref z)) Q E s:=by
 have h:=st.type;obtain⟨⟨C,H,m,n⟩,p,⟨a,b,q⟩,r,t,u,v⟩:=st;unfold gk;refine aAa (aEy (aCy (name:=aDv "__next__") h aEa
  (aBs aEa h F.entry_zip_next (SA (by simpa using i) D m n p q r t u v (aCI<|aAi _) λh' e x y=>?_)<|F.args_zip_next_1 _)))
 obtain⟨o,B,d⟩:=y;refine aAa (aDL (T:= "StopIteration") (b:=true) ⟨o,B,d⟩ isSubtype_stop ?_);refine aAb (l _ λc o d e=>?_);simp only[aAd,aAN,or_false,not_or]at d;exact x c o d.1 d.2.1 d.2.2.1 d.2.2.2 e
def Pairs (h0:cy)(Y N B:Array av)(i:Nat)(h:cy)(off:List bp):Prop:=B.size=i/\∀(j:Nat) (v:av),B[j]?=some v->∃T x y,v=.ref T/\Y[j]?=some x/\N[j]?=some y/\gs h T x y/\T∉off/\h0.get? T=none
def PN (hh:A.handled=none)(D:ZipApart z TI TO g l Q U)(hl:Y.size=N.size)(hn:Y.size<=sizeLine)(S:bp)(qf:S∉[z,TI,TO,g,l,Q,U])(res:av)(h0:cy):
  ∀(k i:Nat) (s:bb) (B:Array av) (c:Nat),Y.size-i=k->i<=Y.size->(∀b o,b∉[z,TO,g,l,S]->h0.get? b=some o->s.heap.get? b=some o)->JZ z TI TO g l Q U Y N i s.heap->s.heap.get? S=some {cls:=.type "list",dict:=none,data:=.seq B c,slots:=#[]}->Pairs h0 Y N B i s.heap [z,TO,g,l,S]->
  (∀h' L c',(∀b o,b∉[z,TO,g,l,S]->s.heap.get? b=some o->h'.get? b=some o)->h'.get? S=some {cls:=.type "list",dict:=none,data:=.seq L c',slots:=#[]}->Pairs h0 Y N L Y.size h' [z,TO,g,l,S]->R (.ok (.ret res)) {s with heap:=h'})->
  f6 (bt prog w) A (.builtin "list.extend.loop" ⟨[.ref S,.ref z,res],[]⟩) R s:=by
 have C:S∉[z,TO,g,l]:=λh=>qf (by simp only[aAd,aAN,or_false]at h⊢;rcases h with h|h|h|h<;>simp[h]);have m:∀b,b∉[z,TO,g,l,S]->b∉[z,TO,g,l]:=λb h q=>h (by simp only[aAd,aAN,or_false]at q⊢;rcases q with q|q|q|q<;>simp[q]);intro k;induction k with
 |zero=>
  intro i s B c hk hi p O E n hR;have og:i=Y.size:=by lia
  subst og;refine aBE F.entry_extend_loop ?_;rw[aBk aDg _];show bc _ A.in1 (gk (.ref z)>>=_) _ _ s;refine aAa (JQ (by simpa using hh) D O λh' kp=>?_);refine aAb (hR h' B c (λb o d e=>kp b o (m b d) e) (kp S _ C E) ⟨n.1,λj v t=>?_⟩);obtain⟨T,x,y,e1,e2,e3,e4,u,e6⟩:=n.2 j v t;exact⟨T,x,y,e1,e2,e3,kp T _ (m T u) e4,u,e6⟩
 |succ k ih=>
  intro i s B c hk hi p O E n hR;have ar:i<Y.size:=by lia
  refine aBE F.entry_extend_loop ?_;rw[aBk aDg _];show bc _ A.in1 (gk (.ref z)>>=_) _ _ s;refine aAa (NS D hl O ar λh' T x y hx hy kn hT hP kp=>?_);have jf:=kp S _ C E;have f:∀b o,s.heap.get? b=some o->T≠b:=λb o e q=>absurd (aAr (aAf e) hT) (by rw[q];exact aBj _);obtain⟨⟨f0,f1,hz,_⟩,_,⟨a,b,ug⟩,⟨o1,g1,_⟩,⟨o2,g2,_⟩,_⟩:=id O;have H:T∉[z,TO,g,l,S]:=by simp only[aAd,aAN,or_false,not_or];exact⟨f _ _ hz,f _ _ ug,f _ _ g1,f _ _ g2,f _ _ E⟩
  show bc _ A.in1 (hE S (·.push (.ref T))>>=_) _ _ _;refine aAa ?_;have I:∀b o,b≠S->h'.get? b=some o->(h'.update S (aBx (·.push (.ref T)))).get? b=some o:=λb o d e=>(aAC _ _<|aBU d).trans e;have neS:∀b,b∈[z,TI,TO,g,l,Q,U]->b≠S:=λb d q=>qf (q▸d);refine aCb jf rfl (aAb ⟨aBY aDg _,ih (i+1) _ (B.push<|.ref T) _ (by lia) ar (λb o d e=>I b o (λq=>d (by simp[q])) (kp b o (m b d)<|p b o d e)) (kn.keeps λb o d e=>I b o (neS b d) e) (aBf _ jf rfl) ⟨by rw[Array.size_push,n.1],λj v t=>?_⟩ λh'' L c' kp' xi r=>?_⟩)
   (by rw[n.1];lia) (by show(B.push<|.ref T).size<=sizeLine+1;rw[Array.size_push,n.1];lia)
  .rw[Array.getElem?_push]at t;split at t
   .rename_i q;cases t;rw[n.1]at q;subst q;refine⟨T,x,y,rfl,hx,hy,I T _ (f _ _ E) hP,H,?_⟩;cases q0:h0.get? T with
    |none=>rfl
    |some o=>exact absurd rfl (f T o<|p T o H q0)
   .obtain⟨J,x',y',e1,e2,e3,e4,u,e6⟩:=n.2 j v t;have n5:J≠S:=λq=>u (by simp[q]);exact⟨J,x',y',e1,e2,e3,I J _ n5 (kp J _ (m J u) e4),u,e6⟩
  .refine hR h'' L c' (λb o d e=>kp' b o d (I b o (λq=>d (by simp[q]))<|kp b o (m b d) e)) xi r
end
section
def bQ {Q:D3}(St:cy->Prop)(O:∀d:bb,St d.heap->d.TypeIs (.ref I) T)(C:∀h h',St h->(∀b o,b≠s.heap.objs.size->h.get? b=some o->h'.get? b=some o)->St h')(t:I≠s.heap.objs.size)
  (n1:(aCr T==aCr "list")=false) (n2:(aCr T==aCr "tuple")=false) (U:∀{M:hV} {A:cq} {E:D3} {s:bb} {Q:Fin->bb->Prop} {a b:Sem Fin},(room=true->bc M A a Q E s)->(room=false->bc M A b Q E s)->bc M A (if(room||["set", "frozenset", "dict", "dict_keys", "dict_values", "dict_items"].any (aCr T==aCr ·))=true then a else b) Q E s)
  (j:∀(d:bb) (Q:D3) (E:D3),St d.heap->Q (.ref I) d->bc (bt prog w) A.in1.in1 (pyIter (.ref I)) Q E d)
  (hint:∀(d:bb) (Q:vT) (E:D3),St d.heap->Q room d->bc (bt prog w) A.in1.in1 (aCD (.ref I)) Q E d) (Y:St s.heap)
  (f:∀(p:cy) (c:Nat) (R:Result->bb->Prop),(∀b o,s.heap.get? b=some o->p.get? b=some o)->St p->p.get? s.heap.objs.size=some {cls:=.type "list",dict:=none,data:=.seq #[] c,slots:=#[]}->(∀s',Q (.ref s.heap.objs.size) s'->R (.ok (.ret .none)) s')->
   f6 (bt prog w) A.in1 (.builtin "list.extend.loop" ⟨[.ref s.heap.objs.size,.ref I,.none],[]⟩) R {s with heap:=p}):
  bc (bt prog w) A (call (.type "list") [.ref I]) Q E s:=by
 refine callType_codes (Q₁:=λk H=>k=.ref s.heap.objs.size/\H={s with heap:=s.heap.push {cls:=.type "list",data:=.seq #[]}}) F.called_list (F.typeCall_list_1 _) F.entry_list_init
  (code_list_new _ ⟨rfl,rfl⟩) λk H l=>?_
 obtain⟨rfl,rfl⟩:=l;have r:(s.heap.push {cls:=.type "list",data:=.seq #[]}).get? s.heap.objs.size=some {cls:=.type "list",data:=.seq #[]}:=aAm _ rfl;have J:∀b o,s.heap.get? b=some o->b≠s.heap.objs.size:=λb o e=>aAk (aAf e);refine⟨⟨_,r,rfl⟩,F.args_list_init_2 _ _,?_⟩;show bc _ A.in1.in1 (do let u<-aCH (.ref s.heap.objs.size);Builtin.List.listUpdate (.ref s.heap.objs.size) (λ_=>#[]);letGo u.toList.reverse;aCa (.ref s.heap.objs.size) (.ref I) .none) _ _ _;refine aAa ?_;unfold aCH;refine aAa (aBM r rfl<|aAb ?_);show bc _ A.in1.in1 (hE s.heap.objs.size (λ_=>#[])>>=λ_=>letGo (#[]:Array av).toList.reverse>>=λ_=>aCa (.ref s.heap.objs.size) (.ref I) .none) _ _ _;refine aAa (aCb r rfl ?_);have i:=aBf (aBx<|λ_=>(#[]:Array av)) r rfl;refine aAa (aEg ?_);generalize v:(s.heap.push {cls:=.type "list",data:=.seq #[]}).update s.heap.objs.size (aBx<|λ_=>(#[]:Array av))=g at*
 have x:∀b o,s.heap.get? b=some o->g.get? b=some o:=λb o e=>by rw[<-v];exact(aAC _ _<|aBU<|J b o e).trans (aAc _ e)
 have m:St g:=C s.heap g Y λb o _ e=>x b o e;have y:aDa (.ref s.heap.objs.size) (.ref I)=false:=by simp[aDa,aBU t]
 have z:Shared.TypeIs {s with heap:=g} (.ref I) T:=O {s with heap:=g} m;unfold aCa;refine aAa (aDP z ?_);simp only[y,n1,n2,Bool.or_false,aAu,if_false];refine aAa (j _ _ _ m ?_);refine aAa (aAR<|hint _ _ _ m ?_);refine U (λ_=>?_) (λ_=>?_)
 .show bc _ A.in1.in1 (rule "list.extend.makes-room">>=λ_=>aFE (.ref s.heap.objs.size)>>=λ_=>again (.builtin "list.extend.loop" ⟨[.ref s.heap.objs.size,.ref I,.none],[]⟩)) _ _ _;refine aAa (aDO ?_);refine aAa ?_;show bc _ A.in1.in1 (hE s.heap.objs.size (·.push .none)>>=λ_=>hE s.heap.objs.size (·.pop)) _ _ _;refine aAa (aCb i rfl ?_);have n:=aBf (aBx (·.push Value.none)) i rfl;refine aCb (hz:=by seq_fits) n rfl ?_;have B:=aBf (aBx (·.pop)) n rfl;have L:∀b o,b≠s.heap.objs.size->g.get? b=some o->((g.update s.heap.objs.size (aBx (·.push Value.none))).update s.heap.objs.size (aBx (·.pop))).get? b=some o:=
   λb o N e=>(aAC _ _<|aBU N).trans ((aAC _ _<|aBU N).trans e)
  exact aAb ⟨aBY aDg _,f _ _ _ (λb o e=>L b o (J b o e) (x b o e)) (C g _ m L) B λs' q=>⟨rfl,q⟩⟩
 .exact aAb ⟨aBY aDg _,f _ _ _ x m i λs' q=>⟨rfl,q⟩⟩
def GS:typeLookup (.type "zip") "__len__"=pure none:=by rw[aDx,aCp];kernel_rfl
def BO:typeLookup (.type "zip") "__length_hint__"=pure none:=by rw[aDx,aCp];kernel_rfl
def NT {Q:D3}(u:A.handled=none)(D:ZipApart z TI TO f g i l)(y:Y.size=N.size)(C:Y.size<=sizeLine)(st:JZ z TI TO f g i l Y N 0 s.heap)(H:∀h' B c,(∀b o,b∉[z,TO,f,g]->s.heap.get? b=some o->h'.get? b=some o)->h'.get? s.heap.objs.size=some {cls:=.type "list",dict:=none,data:=.seq B c,slots:=#[]}->Pairs s.heap Y N B Y.size h' [z,TO,f,g,s.heap.objs.size]->Q (.ref s.heap.objs.size) {s with heap:=h'}):
  bc (bt prog w) A (call (.type "list") [.ref z]) Q E s:=by
 have lt:∀b∈[z,TI,TO,f,g,i,l],b≠s.heap.objs.size:=λb d=>by
  obtain⟨⟨I,J,p,_⟩,L,⟨a,b',O⟩,⟨o1,U,_⟩,⟨o2,g2,_⟩,⟨o3,g3,_⟩,⟨o4,g4,_⟩⟩:=st;simp only[aAd,aAN,or_false]at d;rcases d with rfl|rfl|rfl|rfl|rfl|rfl|rfl
  .exact aAk (aAf p)
  .exact aAk (aAf L)
  .exact aAk (aAf O)
  .exact aAk (aAf U)
  .exact aAk (aAf g2)
  .exact aAk (aAf g3)
  .exact aAk (aAf g4)
 refine bQ (T:= "zip") (room:=true) (JZ z TI TO f g i l Y N 0) (λm h=>h.type) (λh h' x k=>x.keeps λb o d e=>k b o (lt b d) e) (lt z (by simp)) (by decide) (by decide) (λr h2=>by rw[h9 (by decide)];exact r rfl)
  (λm Q E x q=>?_) (λm Q E x q=>?_) st λr c R t n hS hR=>?_
 .obtain⟨⟨I,J,p,_⟩,_⟩:=id x;refine aFm x.type F.slot_zip_iter (aBs F.slot_zip_iter x.type F.entry_zip_iter ?_ (F.args_zip_iter_1 _));show bc _ _ (ret<|.ref z) _ _ m;exact aAb ⟨_,rfl, "zip",_,x.type,aEa.lookup,q⟩
 .unfold aCD;refine aAa (aBt x.type GS ?_);show bc _ _ (specialOf (aCU z) (aDv "__length_hint__")>>=_) _ _ _;exact aAa (aBt x.type BO<|aAb q)
 .refine PN (by simpa using u) D y C s.heap.objs.size (λh=>lt _ h rfl) .none s.heap Y.size 0 _ #[] c (by lia) (aAG _) (λb o _ e=>t b o e) n hS ⟨rfl,λj v h=>by simp at h⟩ λh' jl c' kp jf hP=>hR _ (H h' jl c' (λb o d e=>kp b o ?_ (t b o e)) jf hP);have:=aAk (aAf e);simp only[aAd,aAN,or_false,not_or]at d⊢;exact⟨d.1,d.2.1,d.2.2.1,d.2.2.2,this⟩
def IG:typeLookup (.type "list_reverseiterator") "__len__"=pure none:=by rw[aDx,aCp];kernel_rfl
def OX:typeLookup (.type "list_reverseiterator") "__length_hint__"=pure (some (.builtin "list_reverseiterator.__length_hint__")):=by rw[aDx,aCp];kernel_rfl
def KM {Q:D3}(H:A.handled=none)(I:l≠r)(J:Y.size<=sizeLine)(t:s.heap.IsRevIter r l ((Y.size:Int)-1))(u:s.heap.IsList l Y)(L:∀h' tk c,(∀b o,b≠r->s.heap.get? b=some o->h'.get? b=some o)->h'.get? s.heap.objs.size=some {cls:=.type "list",dict:=none,data:=.seq Y.reverse c,slots:=#[]}->Q (.ref s.heap.objs.size) {s with heap:=h',toks:=tk}):
  bc (bt prog w) A (call (.type "list") [.ref r]) Q E s:=by
 have m:r≠s.heap.objs.size:=by obtain⟨o,g,_⟩:=t;exact aAk (aAf g)
 have v:l≠s.heap.objs.size:=by obtain⟨o,g,_⟩:=u;exact aAk (aAf g)
 refine bQ (T:= "list_reverseiterator") (room:=false) (λh=>h.IsRevIter r l ((Y.size:Int)-1)/\h.IsList l Y) (λy h=>h.1.typeIs) (λh h' x k=>⟨x.1.at λo e=>k r o m e,x.2.at λo e=>k l o v e⟩) m (by decide) (by decide)
  (λN O=>by rw[ic (by decide)];exact O rfl) (λy Q E x q=>wpAny_pyIter_revIter x.1 q) (λy Q E x q=>?_) ⟨t,u⟩ λN c R U a hS hR=>?_
 .have n:=x.1.typeIs;unfold aCD;refine aAa (aBt n IG ?_);show bc _ _ (specialOf (aCU r) (aDv "__length_hint__")>>=_) _ _ _;refine aAa (aBt n OX ?_)
  (generalize hid:("list_reverseiterator.__length_hint__":String)=d;(fail_if_success (clear hid d));wp_delta;rw[show splitId d=some ("list_reverseiterator", "__length_hint__")from by subst hid;decide+kernel];subst hid)
  refine aAa (aDL (b:=true) n (by rw[aEZ];kernel_rfl) ?_);exact aAb q
 .have W:=(Walks.listRev (prog:=prog) (w:=w) (A:=A.in1.in1) (by simp[H]) r l I Y).toS;refine codeAny_extend_loopS W J s.heap.objs.size (by simp only[aAd,aAN,or_false,not_or];exact⟨aBU m,aBU v⟩) .none Y.size 0 _ #[] c (by lia) (aAG _) ⟨aAG _,by simpa using a.1,a.2⟩ hS (ItemsOf.nil _) λf z c' j jf p=>hR _ ?_;have ea:z=Y.reverse:=by
   apply Array.ext';apply aFf;intro i;rw[aAD,aAD];by_cases B:i<Y.size
   .have C:i<z.size:=by rw[p.1];exact B
    have:=p.2 i _ (aAJ C);rw[aAJ C,Array.getElem?_reverse B,this]
   .rw[aCI (by rw[p.1];lia),aCI (by simp;lia)]
  subst ea;have g0:f.gens=s.gens:=j.gens;have d0:f.drawn=s.drawn:=j.drawn;have o0:f.os=s.os:=j.os;obtain⟨h',g',d',yh,os'⟩:=f;subst g0 d0 o0;refine L h' yh c' (λb o hb e=>?_) jf;exact j.heap b o (by simp only[aAd,aAN,or_false,not_or];exact⟨aAk (aAf e),hb⟩) (U b o e)
end
end SZ
namespace DL
open PySem PySem.Spec L2
open PyProof.Rows hiding St
variable [Tabs]
section
def pj:D->R (List D)
 |.lst Y=>.ok Y.reverse
 |_=>.bad
def BG (ha:PB X e f)(hh:X.calm=true)(hg:Gl X "reversed":=by rfl)(hm:X.mg "reversed"=none:=by assumption)(A:Gl X "list":=by rfl)(kl:X.mg "list"=none:=by assumption)(hv:dt "reversed"=some (.type "reversed"):=by decide+kernel)(B:dt "list"=some (.type "list"):=by decide+kernel)(U:a9 [e] X.env=(false,dq e X.env)::a9 [] X.env:=by rfl)(bg:(cz j (a9 [] X.env)).any (·.1)=false:=by rfl)(Y:a9 [.Call (.Name "reversed" C) [e] [] j] X.env=(false,dq (.Call (.Name "reversed" C) [e] [] j) X.env)::a9 [] X.env:=by rfl)(xm:(cz pos (a9 [] X.env)).any (·.1)=false:=by rfl)(J:cz pos (a9 [] X.env)=[]:=by rfl):
  PF X (.Call (.Name "list" p) [.Call (.Name "reversed" C) [e] [] j] [] pos) (λρ=>(f ρ).bind pj):=by
 refine rL λk s σ H Q I Ha O0 O ρ E q=>?_;dsimp only at q;refine aAQ (N2 I A kl B ?_ (by decide) (by decide));refine aBl ?_ Y xm;rw[Y];show bc _ _ (spliced ((false,dq (.Call (.Name "reversed" C) [e] [] j) X.env)::cz pos (a9 [] X.env))) _ _ s;refine aDW (aAQ (N2 I hg hm hv ?_ (by decide) (by decide)));have qr:PA X [e] _:=J3 ha aY U;refine aBl (B1 (qr j k s σ H (λi l=>∃v m,i=[v]/\f ρ=.ok (.lst m)/\Same H l/\A8 X.K l O v (.lst m)) I ⟨Ha,O0,O,ρ,E,?_⟩) λy h z9=>?_) U bg
 .cases L:f ρ with
  |ex z=>rw[L]at q;exact q
  |bad=>rw[L]at q;exact q.elim
  |ok d=>
   rw[L,R.aa0]at q;cases d with
   |lst m=>exactλv l h N=>⟨v,m,rfl,rfl,h,N⟩
   |_=>exact aAg q
 .obtain⟨i,l,n,N,v,m,ev,ef,sm,rb⟩:=z9;subst ev;rw[ef,R.aa0]at q;obtain⟨a,T,rfl,hS,rr⟩:=rb.aa6;obtain⟨u,rfl,ru⟩:=vals1 N;cases ru;obtain⟨g,rv,⟨oL,nL,gL,cL,dL,sL⟩,zL⟩:=n.list hS;have hl:h.heap.IsList a g.toArray:=⟨oL,gL,cL,nL,sL⟩;refine call_reversed_list hl ?_;rw[J];refine aFi ?_;have ge:a≠h.heap.objs.size:=aAk (aAf gL);have I2:=n.kept (h':=h.heap.push (revObj a<|(g.toArray.size:Int)-1)) (t':=h.toks) λb u e=>aAc _ e;refine SZ.KM (s:={h with heap:=h.heap.push (revObj a<|(g.toArray.size:Int)-1)}) (n.ok.hd hh) ge (by rw[aAl,<-rv.length];exact zL) ⟨_,aAm _ rfl,rfl,rfl⟩ (hl.push _) λh' tk c kp gl=>?_;have kk:∀b u,h.heap.get? b=some u->h'.get? b=some u:=λb u e=>kp b u (aAk<|aAf e) (aAc _ e);have w:h.heap.objs.size<=(h.heap.push<|revObj a<|(g.toArray.size:Int)-1).objs.size:=by rw[aBz];lia
  have x:l4 T.reverse g.reverse:=by
   have:∀{i:List V} {y:List av},l4 i y->l4 i.reverse y.reverse:=λ{i y} r=>by
    induction r with
    |nil=>exact .nil
    |cons r t ih=>rw[aAM,aAM];exact ih.append (.cons r .nil)
   exact this rv
  have I3:=n.laid (a:=(h.heap.push<|revObj a<|(g.toArray.size:Int)-1).objs.size) (o:=.lst T.reverse) (h':=h') (t':=tk) kk w ⟨by rw[aCE];exact zL,g.reverse,c,x,by rw[gl];simp⟩;exact⟨.ref _,_,I3,rfl,q T.reverse l _ sm (n.hok.fresh w) rr.reverse⟩
def _root_.L2.Inv.ae0 (I:Inv X d σ H s)(k:∀b u,s.heap.get? b=some u->h'.get? b=some u)(a:Same H Hn)(f:∀b u,H b=none->Hn b=some u->s.heap.get? b=none/\ObjOk X.prog X.w Hn h' b u):
  Inv X d σ Hn {s with heap:=h',toks:=t'}:=by
 refine I.un ⟨λb o e _ _ _=>k b o e,λb o e _ _ _=>⟨o.slots,k b o e⟩,λb o e n _=>?_,λb o e _=>⟨o,k b o e⟩,λb Y e=>a _ _ e,λb o u e=>a _ _ e,λb h e=>a _ _ e⟩ λb u e=>?_
 .cases q:Hn b with
  |none=>rfl
  |some u=>rw[(f b u n q).1]at e;cases e
 .cases q:H b with
  |none=>exact(f b u q e).2
  |some g=>have:=a b g q;rw[e]at this;cases this;exact(I.hok b u q).ab5 (λc v _ z=>k c v z) (λc z=>a _ _ z) λc u _ z=>a _ _ z
def jJ (Y N:List D):List D:=List.zipWith (λa b=>D.tup [a,b]) Y N
def SF:List D->R (List D)
 |[.lst Y,.lst N]=>if Y.length=N.length then .ok (jJ Y N)else .bad
 |_=>.bad
def IT {K:jb}{i:Hp}{O:bp->Prop}{h0 h':cy}{l:bp}(hf:∀b,h0.get? b=none->i b=none):∀{Y N:List D} {m p B:List av},y9 K i O m Y->y9 K i O p N->Y.length=N.length->
  (∀(j:Nat) (v:av),B[j]?=some v->∃T x y,v=.ref T/\m[j]?=some x/\p[j]?=some y/\gs h' T x y/\T≠l/\h0.get? T=none)->B.length=Y.length->
  ∃(vs:List V) (Hn:Hp),l4 vs B/\Same i Hn/\(∀b u,i b=none->Hn b=some u->h0.get? b=none/\b≠l/\∃ws e,u=.tup ws/\ws.length<=2/\l4 ws e/\IsTup h' b e.toArray)/\Reps K Hn O vs (jJ Y N):=by
 intro Y N m p B;induction B generalizing Y N m p with
 |nil=>
  intro s t z _ A;cases Y with
  |nil=>cases N with
   |nil=>exact⟨[],i,.nil,Same.refl _,λb u n q=>(by rw[n]at q;cases q),.nil⟩
   |cons _ _=>cases z
  |cons _ _=>cases A
 |cons v B ih=>
  intro s t z hP A;cases s with
  |nil=>cases A
  |@cons u d m Y rx s=>
   cases t with
   |nil=>cases z
   |@cons J d' p N ry t=>
    obtain⟨T,x,y,rfl,ex,ey,hp,nl,r⟩:=hP 0 v rfl;cases ex;cases ey;obtain⟨vs,Hn,r1,k,L,rr⟩:=ih s t (by simpa using z) (λj v hj=>by obtain⟨T,x,y,e1,Q,e3,e4⟩:=hP (j+1) v (by simpa using hj);exact⟨T,x,y,e1,by simpa using Q,by simpa using e3,e4⟩) (by simpa using A)
    obtain⟨C,U,f⟩:=rx;obtain⟨E,rvy,h⟩:=ry;have v2:l4 [C,E] [u,J]:=.cons U (.cons rvy .nil);cases q:Hn T with
    |none=>
     have H:Same Hn (upd Hn T<|.tup [C,E]):=j5 q _;refine⟨.ref T::vs,upd Hn T (.tup [C,E]),.cons rfl r1,k.trans H,λb w n I=>?_,.cons (.tup (W0.of i9) (.cons ((f.same k).same H) (.cons ((h.same k).same H) .nil))) (rr.same H)⟩;by_cases hb:b=T
     .subst hb;rw[i9]at I;cases I;exact⟨r,nl,_,_,rfl,by simp,v2,⟨_,hp,rfl,0,rfl⟩⟩
     .rw[k9 hb]at I;exact L b w n I
    |some w=>
     obtain⟨_,_,ws,e,rfl,_,vw,⟨o,g,_,n,dd⟩⟩:=L T w (hf T r) q;have hp':h'.get? T=some {cls:=.type "tuple",data:=.seq #[u,J]}:=hp;rw[hp']at g;cases g;have Q:e=[u,J]:=by have:=iu (λd=>match d with|Data.seq a _=>a.toList|_=>[]) dd;simpa using this.symm
     subst Q;have:ws=[C,E]:=vw.inj v2;subst this;exact⟨.ref T::vs,Hn,.cons rfl r1,k,L,.cons (.tup (W0.of q) (.cons (f.same k) (.cons (h.same k) .nil))) rr⟩
def CN {e1 e2:cv}{p p2 A:Pos}{C J:Ev->R D}(ha1:PB X e1 C)(ha2:PB X e2 J)(hh:X.calm=true)(hg:Gl X "zip":=by rfl)(hm:X.mg "zip"=none:=by assumption)(hg2:Gl X "list":=by rfl)(kl:X.mg "list"=none:=by assumption)
  (hv:dt "zip"=some (.type "zip"):=by decide+kernel) (hv2:dt "list"=some (.type "list"):=by decide+kernel)
  (he1:a9 [e2] X.env=(false,dq e2 X.env)::a9 [] X.env:=by rfl) (he:a9 [e1,e2] X.env=(false,dq e1 X.env)::a9 [e2] X.env:=by rfl) (bg:(cz A (a9 [e2] X.env)).any (·.1)=false:=by rfl)
  (jm:a9 [.Call (.Name "zip" p2) [e1,e2] [] A] X.env=(false,dq (.Call (.Name "zip" p2) [e1,e2] [] A) X.env)::a9 [] X.env:=by rfl) (xm:(cz pos (a9 [] X.env)).any (·.1)=false:=by rfl) (hnl:cz pos (a9 [] X.env)=[]:=by rfl):
  PF X (.Call (.Name "list" p) [.Call (.Name "zip" p2) [e1,e2] [] A] [] pos) (λρ=>(l9 C (l9 J R3) ρ).bind SF):=by
 refine rL λL s σ H Q I Ha O0 O ρ E q=>?_;dsimp only at q;refine aAQ (N2 I hg2 kl hv2 ?_ (by decide) (by decide));refine aBl ?_ jm xm;rw[jm];show bc _ _ (spliced ((false,dq (.Call (.Name "zip" p2) [e1,e2] [] A) X.env)::cz pos (a9 [] X.env))) _ _ s;refine aDW (aAQ (N2 I hg hm hv ?_ (by decide) (by decide)));have qr:YE X [e1,e2] (l9 C<|l9 J R3):=t7 ha1 (t7 ha2 A9 he1) he;refine aBl (B1 (qr A L s σ H (λi k=>∃v1 v2 Y N,i=[v1,v2]/\l9 C (l9 J R3) ρ=.ok [.lst Y,.lst N]/\Y.length=N.length/\Same H k/\A8 X.K k O v1 (.lst Y)/\A8 X.K k O v2 (.lst N)) I ⟨Ha,O0,O,ρ,E,?_⟩) λus d z9=>?_) he bg
 .cases e1:l9 C (l9 J R3) ρ with
  |ex z=>rw[e1]at q;exact q
  |bad=>rw[e1]at q;exact q.elim
  |ok ds=>
   rw[e1,R.aa0]at q;match ds,q with
   |[.lst Y,.lst N],q=>
    simp only[SF]at q;by_cases hc:Y.length=N.length
    .intro i k d m;cases m with
     |cons ra m=>cases m with
      |cons rb m=>cases m with
       |nil=>exact⟨_,_,Y,N,rfl,rfl,hc,d,ra,rb⟩
    .rw[ic hc]at q;exact aAg q
 .obtain⟨i,k,U,m,v1,v2,Y,N,ev,ef,r,sm,rb1,rb2⟩:=z9;subst ev;rw[ef,R.aa0]at q;simp only[SF]at q;rw[h9 r]at q;obtain⟨a,wx,rfl,hSx,rx⟩:=rb1.aa6;obtain⟨b,wy,rfl,hSy,ry⟩:=rb2.aa6;obtain⟨u1,u2,rfl,ru1,ru2⟩:=vals2 m;cases ru1;cases ru2;obtain⟨t,f,⟨oX,nX,gX,cX,dX,sX⟩,zX⟩:=U.list hSx;obtain⟨w,rvy,⟨oY,nY,gY,cY,dY,sY⟩,zY⟩:=U.list hSy;have hlx:d.heap.IsList a t.toArray:=⟨oX,gX,cX,nX,sX⟩;have hly:d.heap.IsList b w.toArray:=⟨oY,gY,cY,nY,sY⟩;refine call_zip_2 hlx hly λg z1 z2 z3 z4 z5 zsz k1=>?_;rw[hnl];refine aFi ?_;have lx:t.length=Y.length:=by rw[<-f.length,rx.length]
  have ly:w.length=N.length:=by rw[<-rvy.length,ry.length]
  have I2:=U.kept (h':=g) (t':=d.toks) k1;have D:=zipApart_new (n:=d.heap.objs.size) (aAf gX) (aAf gY);refine SZ.NT (s:={d with heap:=g}) (U.ok.hd hh) D (by rw[aAl,aAl,lx,ly,r]) (by rw[aAl,<-f.length];exact zX) ⟨⟨_,_,z1,.inl rfl⟩,z2,⟨_,_,z3⟩,z4,z5,hlx.at λo e=>k1 _ o e,hly.at λo e=>k1 _ o e⟩ λh' B c kp gl hP=>?_;have k12:∀b u,d.heap.get? b=some u->h'.get? b=some u:=λb u e=>kp b u (by have h:=aAf e;simp only[aAd,aAN,or_false,not_or];exact⟨aAk (aAr h<|aEu _ _),aAk (aAr h<|aEu _ _),aAk h,aAk (aAr h<|aEu _ _)⟩) (k1 b u e)
  have sx:y9 X.K k O t Y:=y9.of f rx;have sy:y9 X.K k O w N:=y9.of rvy ry;obtain⟨i,Hn,rva,smn,nu,rr⟩:=IT (h0:=g) (h':=h') (l:=g.objs.size) (λb h=>by
   cases q:k b with
   |none=>rfl
   |some u=>exact absurd h ((I2.hok b u q).live)) (B:=B.toList) sx sy r (λj v hj=>by
   obtain⟨T,x,y,e1,e2,e3,e4,e5,e6⟩:=hP.2 j v (by rw[<-aAD];exact hj);exact⟨T,x,y,e1,by simpa using e2,by simpa using e3,e4,λz=>e5 (by simp[z]),e6⟩) (by rw[aBb,hP.1,aAl,lx])
  have hls:Hn g.objs.size=none:=by
   cases q:Hn g.objs.size with
   |none=>rfl
   |some u=>have:=(nu _ u (I2.hok.fresh<|aAi _) q).2.1;exact absurd rfl this
  have hlen:i.length<=sizeLine:=by rw[rva.length,aBb,hP.1,aAl,<-f.length];exact zX
  have s3:Same Hn (upd Hn g.objs.size<|.lst i):=j5 hls _;have I3:=U.ae0 (Hn:=upd Hn g.objs.size (.lst i)) (h':=h') (t':=d.toks) k12 (smn.trans s3) (λb u n qb=>by
   by_cases h:b=g.objs.size
   .subst h;rw[i9]at qb;cases qb;refine⟨aEw (by rw[zsz];lia),hlen,B.toList,c,rva,by rw[gl]⟩
   .rw[k9 h]at qb;obtain⟨h0b,_,ws,its,rfl,l2,vw,tt⟩:=nu b u n qb;refine⟨?_,aAq l2 (by decide),its,vw,tt⟩;cases z:d.heap.get? b with
    |none=>rfl
    |some o=>rw[k1 b o z]at h0b;cases h0b)
  exact⟨.ref _,_,I3,rfl,q i Hn _ (sm.trans smn) hls rr⟩
end
mutual
def kC:D->Nat
 |.tup Y=>K0 Y+1
 |_=>1
def K0:List D->Nat
 |[]=>0
 |x::Y=>kC x+K0 Y
end
theorem cG:∀Y N:List D,K0 (Y++N)=K0 Y+K0 N
 |[],N=>by simp[K0]
 |x::Y,N=>by rw[aAY,K0,K0,cG Y N];lia
section
variable{prog:cp} {w:cu}
def PHe (prog:cp)(w:cu)(h:cy)(v:av)(d:D):Prop:=∀(A:cq) (E:D3) (s:bb) (Q:Int->bb->Prop),s.heap=h->A.units+8*E8 d<dy->Q (m7 d) {s with toks:=s.toks+kC d}->bc (bt prog w) A (pyHash v) Q E s
mutual
theorem ML:∀{v:av} {d:D},HV h v d->PHe prog w h v d
 |_,_,.int i t=>λA E s Q H I q=>(intKind prog w).pyHash (k:=i) (intKind_is _ _ _ _) q
 |_,_,.tup (a:=a) (B:=B) (ds:=ds) p r=>λA E s Q H I q=>by
  have fs:=ED r;subst H;obtain⟨o,J,O,n,T⟩:=p;have l:s.TypeIs (.ref a) "tuple":=⟨o,J,O⟩;have y:A.units<dy:=by lia
  rw[E8]at I;unfold pyHash;first|unfold pyHashByItsType|skip
  first|refine aAa (wpAny_cRoomFor_or (.inr y) ?_)|skip
  refine aAa (aBt l PySem.F.slot_tuple_hash.lookup ?_);show bc _ _ (if(some (aDA "tuple.__hash__")==some Value.none)=true then _ else _) Q E s;rw[ic (by rw[aFy];exact aAV)];refine aAa (aBt l PySem.F.slot_tuple_hash.lookup ?_);show bc _ _ (callSpecialIfBoundUnlessNone? (.ref a) "__hash__" _>>=_) Q E s;refine aAa (aDp l PySem.F.slot_tuple_hash<|aBs PySem.F.slot_tuple_hash l PySem.F.entry_tuple_hash ?_ (PySem.F.args_tuple_hash_1 _));show bc _ _ (aDD (.ref a)>>=_) _ _ s;refine aAa (wpAny_tupleItemsOf J T ?_);refine aAa ?_;rw[<-aCt];refine aCw _
   (λrest (b:Array Int) z=>∃done left,ds=done++left/\Paired (PHe prog w s.heap) rest left/\b.toList=done.map m7/\z={s with toks:=s.toks+K0 done})
   _ ?_ ?_ _ _ ⟨[],ds,rfl,fs,rfl,rfl⟩
  .rintro x rest b z ⟨done,left,f,C,m,rfl⟩;cases C with
   |@cons _ d _ e U L=>
    refine aAa (U _ _ _ _ rfl ?_ ?_)
    .have:E8 d<=J5 ds:=by rw[f];exact uI (j:=done.length) (by simp)
     rw[u6];lia
    have N:s.toks+K0 done+kC d=s.toks+K0 (done++[d]):=by rw[cG];simp[K0];lia
    first
     |exact aAb ⟨done++[d],e,by simp[f],L,by simp[m],by rw[<-N]⟩
     |exact aAa (aAb (aAb ⟨done++[d],e,by simp[f],L,by simp[m],by rw[<-N]⟩))
  .rintro b z ⟨done,left,f,C,m,rfl⟩;cases C;rw[aBL]at f;subst f;show bc _ _ (retInt<|aAP b.toList) _ _ _;rw[m];refine wpAny_ret_mkInt ?_;show bc _ _ (if(decide (-(2:Int)^63<=aAP (ds.map m7))&&decide (aAP (ds.map m7)<2^63))=true then _ else _) Q E _;have g:=q;rw[m7,fG,kC]at g;unfold reduceHash at g;by_cases u:(decide (-(2:Int)^63<=aAP (ds.map m7))&&decide (aAP (ds.map m7)<2^63))=true
   .rw[h9 u];rw[h9 u]at g;exact aAb g
   .rw[ic u];rw[ic u]at g;exact aAa (aDO<|aAb g)
theorem ED:∀{v:List av} {d:List D},HVs h v d->Paired (PHe prog w h) v d
 |_,_,.nil=>.nil
 |_,_,.cons r t=>.cons (ML r) (ED t)
end
end
theorem mE:∀{n:Nat} {d:D},R6 n d=true->lY d=true/\E8 d<=n
 |n,.int i,_=>⟨rfl,by simp[E8]⟩
 |0,.tup Y,h=>by simp[R6]at h
 |n+1,.tup Y,h=>by
  have f:Y.all (R6 n)=true:=by simpa[R6]using h
  have a:∀N:List D,N.all (R6 n)=true->bN N=true/\J5 N<=n:=λN=>by
   induction N with
   |nil=>intro _;exact⟨rfl,aAG _⟩
   |cons y N g=>intro e;simp only[aFr,aAF]at e;obtain⟨j,m⟩:=mE e.1;obtain⟨k,o⟩:=g e.2;exact⟨by show(lY y&&bN N)=true;rw[j,k];rfl,by show max (E8 y) (J5 N)<=n;lia⟩
  obtain⟨l,p⟩:=a Y f;exact⟨l,by show J5 Y+1<=n+1;lia⟩
 |n,.non,h=>by cases n<;>simp[R6]at h
 |n,.dct,h=>by cases n<;>simp[R6]at h
 |n,.bl b,h=>by cases n<;>simp[R6]at h
 |n,.str x,h=>by cases n<;>simp[R6]at h
 |n,.lst Y,h=>by cases n<;>simp[R6]at h
mutual
theorem HV.ac0 (k:∀b o,h.get? b=some o->(∃a n,o.data=.seq a n)->h'.get? b=some o):∀{v:av} {d:D},HV h v d->HV h' v d
 |_,_,.int i t=>.int i t
 |_,_,.tup p r=>.tup (by obtain⟨o,e,c,n,d⟩:=p;exact⟨o,k _ _ e ⟨_,n,d⟩,c,n,d⟩) (HVs.ac0 k r)
theorem HVs.ac0 (k:∀b o,h.get? b=some o->(∃a n,o.data=.seq a n)->h'.get? b=some o):∀{v:List av} {d:List D},HVs h v d->HVs h' v d
 |_,_,.nil=>.nil
 |_,_,.cons r t=>.cons (HV.ac0 k r) (HVs.ac0 k t)
end
instance decD:DecidableEq D:=λa b=>aDZ _
def rA (prog:cp) (w:cu):HeapKind prog w D where
 is:=λh d a=>HV h (.ref a) d/\E8 d<8
 hash:=m7
 draws:=kC
 room:=λA=>A.units+128<dy
 inj:=λx y=>HV.inj x.1 y.1
 keeps:=λ{h u k a d o v B} x j l m=>⟨x.1.ac0<|by rintro b C e ⟨p,n,q⟩;exact(m.2 b (λz=>by subst z;rw[j]at e;cases e;rw[l]at q;cases q)).trans e,x.2⟩
 pyHash:=λ{A E s k a Q} r f q=>ML f.1 A E s Q rfl (by have:=f.2;lia) q
 eqBool:=λ{A E s x y a b Q} r g i q=>by
  have t:=DI (A:=A) g.1 i.1 (by have:=g.2;lia);refine t prog w E Q ?_;have e:u0 x y=decide (x=y):=by
   by_cases h:x=y
   .subst h;rw[R1,decide_eq_true rfl]
   .rw[decide_eq_false h];cases z:u0 x y with
    |false=>rfl
    |true=>exact absurd (dF g.1.ok i.1.ok z) h
  rw[e];exact q
 quiet:=λ{A E s k a Q} f q=>iK 8 f.1 f.2 _ A E s Q rfl q
open Classical in
def dW (J:List (D×D)) (k v:D):List (D×D):=if k∈J.map (·.1)then J.map (λp=>if p.1=k then(p.1,v)else p)else J++[(k,v)]
def IW (J:List (D×D))(k v:D)(h:(J.map (·.1)).Nodup):((dW J k v).map (·.1)).Nodup:=by
 unfold dW;split
 .rw[aBJ];have:((λx=>x.1)∘λp:D×D=>if p.1=k then(p.1,v)else p)=λp=>p.1:=by funext p;simp only[Function.comp];split<;>rfl
  rw[this];exact h
 .rename_i n;rw[aBO,aCT];refine⟨h,by simp,λa f b d=>?_⟩;simp at d;subst d;exactλe=>n (e▸f)
section
theorem EN (I:Inv X d σ H s):∀{es:List DictEntry} {J:List (D×D)},mK X.K H O es J->∃Y:List (D×bp×av),es=Y.map (entryOfKey (rA X.prog X.w))/\Y.map (·.1)=J.map (·.1)/\(∀x∈Y,(rA X.prog X.w).is s.heap x.1 x.2.1)/\
  Paired (λ(x:D×bp×av) (p:D×D)=>x.1=p.1/\Rep X.K H O (.ref x.2.1) p.1/\(∃v,RelV v x.2.2/\Rep X.K H O v p.2)/\R6 7 p.1=true) Y J
 |_,_,.nil=>⟨[],rfl,rfl,λx h=>(by cases h),.nil⟩
 |e::_,p::_,.cons ⟨⟨a,f,g⟩,j,i,k⟩ t=>by
  obtain⟨Y,l,m,n,o⟩:=EN I t;obtain⟨ok,r⟩:=mE k;refine⟨(p.1,a,e.val)::Y,?_,by rw[aAp,aAp,m],λx b=>?_,.cons ⟨rfl,g,j,k⟩ o⟩
  .rw[aAp,<-l];congr 1;obtain⟨q,u,y⟩:=e;simp only at f i;subst f i;rfl
  .rcases aAd.mp b with rfl|b
   .exact⟨bU I g ok rfl,by show E8 p.1<8;lia⟩
   .exact n x b
theorem ET {P:cp}{w:cu}{K:jb}{H:Hp}{O:bp->Prop}:∀{Y:List (D×bp×av)} {J:List (D×D)},Paired (λ(x:D×bp×av) (p:D×D)=>x.1=p.1/\Rep K H O (.ref x.2.1) p.1/\(∃v,RelV v x.2.2/\Rep K H O v p.2)/\R6 7 p.1=true) Y J->mK K H O (Y.map (entryOfKey (rA P w))) J
 |_,_,.nil=>.nil
 |_,_,.cons ⟨e,a,b,k⟩ t=>.cons ⟨⟨_,rfl,a⟩,b,by rw[<-e];rfl,k⟩ (ET t)
def aF {Y:List (D×bp×av)}{k:D}:(atKey Y k).isSome=true↔k∈Y.map (·.1):=by unfold atKey;rw[Option.isSome_map,List.find?_isSome];simp only[decide_eq_true_eq,aAo]
def EG (I:Inv X b σ H s)(h:H a=some (.ext λh=>h.get? a=some o))(d:ND a o es)(r:mK X.K H O es J)(f:(J.map (·.1)).Nodup):
  ∃Y,s.heap.DictOfH (rA X.prog X.w) a Y/\Y.map (·.1)=J.map (·.1)/\Paired (λ(x:D×bp×av) (p:D×D)=>x.1=p.1/\Rep X.K H O (.ref x.2.1) p.1/\(∃v,RelV v x.2.2/\Rep X.K H O v p.2)/\R6 7 p.1=true) Y J:=by
 obtain⟨Y,i,e,j,k⟩:=EN I r;obtain⟨_,l,m,n,q,t⟩:=d;have g:s.heap.get? a=some o:=(I.hok a _ h).1;exact⟨Y,⟨o,m,n,g,l,q,by rw[t,i],j,by rw[e];exact f⟩,e,k⟩
def HA {K:jb}{Y:List (D×bp×av)}{J:List (D×D)}{k d:D}{b:bp}{u:av}{v:V}(g:Paired (λ(x:D×bp×av) (p:D×D)=>x.1=p.1/\Rep K H O (.ref x.2.1) p.1/\(∃v,RelV v x.2.2/\Rep K H O v p.2)/\R6 7 p.1=true) Y J)(a:Y.map (·.1)=J.map (·.1))
  (l:Rep K H O (.ref b) k) (kk:R6 7 k=true) (i:RelV v u) (j:Rep K H O v d):
  Paired (λ(x:D×bp×av) (p:D×D)=>x.1=p.1/\Rep K H O (.ref x.2.1) p.1/\(∃v,RelV v x.2.2/\Rep K H O v p.2)/\R6 7 p.1=true) (storedH Y k b u) (dW J k d):=by
 unfold storedH dW;by_cases h:k∈J.map (·.1)
 .rw[h9 h,h9 (aF.mpr (by rw[a];exact h))];clear a h;induction g with
  |nil=>exact .nil
  |@cons x p Y J r t f=>
   rw[aAp,aAp];refine .cons ?_ f;unfold putAt;by_cases e:p.1=k
   .rw[h9 (r.1.trans e),h9 e];exact⟨r.1,r.2.1,⟨v,i,j⟩,r.2.2.2⟩
   .rw[ic (λz=>e (r.1.symm.trans z)),ic e];exact r
 .rw[ic h,ic (λz=>h (by rw[<-a];exact aF.mp z))];clear a h;induction g with
  |nil=>exact .cons ⟨rfl,l,⟨v,i,j⟩,kk⟩ .nil
  |cons r t f=>exact .cons r f
end
section
variable{K:Type} [DecidableEq K] {knd:HeapKind prog w K}
def pZ {Q:vT}(g:knd.room A.in1)(b:knd.is s.heap k a)(i:(d==sysModules)=false)(e:s.heap.DictOfH knd d Y)
  (h:Q (atKey Y k).isSome {s with toks:=s.toks+knd.draws k}):bc (bt prog w) A (contains (.ref d) (.ref a)) Q E s:=by
 unfold contains;try with_reducible refine aAR ?_
 refine aAa (aBt e.typeIs aEX.lookup ?_);show bc _ _ (if(some (aDA "dict.__contains__")==some Value.none)=true then _ else _) _ E s;rw[ic (by rw[aFy];exact aAV)];refine aAa (wpAny_callSpecialUnlessNone?_slot (name:=aDv "__contains__") e.typeIs aEX
  (aBs aEX e.typeIs entry_dict_contains ?_ (args_dict_contains _ _)))
 show bc _ _ (dictGet d (.ref a)>>=_) _ _ s;refine aAa (wpAny_dictGet_heap g b e ?_);cases f:atKey Y k with
 |some p=>rw[f]at h;show bc _ _ (ret<|.bool true) _ _ _;exact aAb ⟨_,rfl,aBy h⟩
 |none=>rw[f]at h;show bc _ _ (Builtin.Dict.pendingKey? d (.ref a)>>=_) _ _ _;exact aAa (wpAny_pendingKey_other i<|aAb ⟨_,rfl,aBy h⟩)
end
def GL:D->Bool
 |.tup _=>true
 |_=>false
open Classical in
def oQ (i:Nat) (ρ:Ev) (k:D):R Bool:=match ρ[i]? with
 |some (.d J)=>if R6 7 k=true/\GL k=true then .ok (!decide (k∈J.map (·.1)))else .bad
 |_=>.bad
section
def oP {K:jb}{H:Hp}{O:bp->Prop}{v:V}{k:D}(r:Rep K H O v k)(h:GL k=true):∃a,v=.ref a:=by
 cases r with
 |tup h r=>exact⟨_,rfl⟩
 |_=>cases h
def GB (i:Nat){x:Str}{p:Pos}{f:Ev->R D}(ha:PD X e f)(hu:X.A.units+130<dy)(hN:X.N[i]?=some x:=by rfl)(hv:tE X.env.scope x:=by first|exact aCs rfl|exact aBC (aCs rfl)|exact aBC (aBC rfl))
  (hd:(x==jd)=false:=by decide) (dn:(x==ka)=false:=by decide) (hm:gu .NotIn (.Name x p)=false:=by first|rfl|with_unfolding_all rfl):
  zJ X (.Compare e [.NotIn] [.Name x p] pos) (λρ=>(f ρ).bind (oQ i ρ)):=by
 refine rL λpins s σ H Q I Ha O0 O ρ E q=>?_;dsimp only at q;refine aEp (PY (ta:=tD X f) (tb:=oz i) ha (M3 hN hv hd dn) (R:=λy x g=>∃a b o l J k,x=.ref a/\y=.ref b/\g a=some (.ext λh=>h.get? a=some o)/\ND a o l/\mK X.K g O l J/\(J.map (·.1)).Nodup/\Rep X.K g O (.ref b) k/\R6 7 k=true/\Q (!(open Classical in decide (k∈J.map (·.1)))) g) I ⟨Ha,O0,O,ρ,E,?_⟩ λu w s2 y x g t ry rx h=>?_) hm
 .cases B:f ρ with
  |ex z=>rw[B]at q;exact q
  |bad=>rw[B]at q;exact q.elim
  |ok k=>
   rw[B,R.aa0]at q;intro v H1 sm r;unfold oQ at q;cases C:ρ[i]? with
   |none=>rw[C]at q;exact aAg q
   |some sl=>
    rw[C]at q;cases sl with
    |d J=>
     dsimp only at q;by_cases j:R6 7 k=true/\GL k=true
     .rw[h9 j]at q;obtain⟨a,o,l,h1,_,_,L,m,T,U⟩:=(E.grow sm).slot i _ C;obtain⟨b,rfl⟩:=oP r j.2;exact⟨_,h1,a,b,o,l,J,k,rfl,rfl,L,m,T,U,r,j.1,q H1 sm⟩
     .rw[ic j]at q;exact aAg q
    |_=>exact aAg q
 .obtain⟨a,b,o,l,J,k,rfl,rfl,L,m,T,U,rk,j,qq⟩:=h;cases ry;cases rx;obtain⟨Y,hD,td,hp⟩:=EG t L m T U;obtain⟨ok,dp⟩:=mE j;show bc _ _ (contains (.ref a) (.ref b)>>=λc=>pure (aCJ (!c))) _ _ s2;refine aAa (pZ (knd:=rA X.prog X.w) (by show X.A.in1.units+128<dy;rw[u6];lia) ⟨bU t rk ok rfl,by lia⟩ m.1 hD (aAb ?_));refine aBy ⟨g,t.tok _,?_⟩;have e3:(atKey Y k).isSome=(open Classical in decide (k∈J.map (·.1))):=by
   by_cases n:k∈J.map (·.1)
   .rw[decide_eq_true n];exact aF.mpr (by rw[td];exact n)
   .rw[decide_eq_false n];cases z:(atKey Y k).isSome with
    |false=>rfl
    |true=>exact absurd (by rw[<-td];exact aF.mp z) n
  rw[e3];exact qq
def MN (i:Nat)(w:X.N.Nodup)(y:X.N[i]?=some x:=by rfl)(A:Loc X.env.scope x:=by first|exact aCs rfl|exact aBC rfl)(B:et (.Dict [] [] f) (some (.Name x g)) pos.line X.env=pure false:=by rfl)(C:X.fn x=true\/X.env.scope.names.lookup x=some .local:=by first|exact .inl rfl|exact .inr rfl|assumption):oZ X (.Assign [.Name x g] (.Dict [] [] f) pos) (λρ=>.ok (.nx (ρ.set i (.d [])))):=by
 rintro T U r s σ H D I ⟨O,ρ,E,Y,q⟩;refine aFh (wpAny_Dict_empty ?_) B;have t:(s.heap.push {cls:=.type "dict",data:=.dict #[]}).get? s.heap.objs.size=some {cls:=.type "dict",data:=.dict #[]}:=aAm _ rfl;have j:=I.hok.fresh (aAi s.heap.objs.size);have l:=I.laid (a:=s.heap.objs.size) (o:=.ext λh=>h.get? s.heap.objs.size=some {cls:=.type "dict",data:=.dict #[]}) (h':=s.heap.push {cls:=.type "dict",data:=.dict #[]}) (t':=s.toks) (λ_ _ q=>aAc _ q) (aAi _)
  ⟨t,⟨_,t⟩,λh1 h2 e k=>k _ e⟩
 have J:=JL l (i9 (H:=H) (a:=s.heap.objs.size));have m:sysModules<s.heap.objs.size:=aGA (by decide) (I.mod.glob.keeps I.bk).lt;refine V9 l w y A (show RelV (.ref s.heap.objs.size) _ from rfl) (λs3 L=>⟨_,_,L,?_⟩) C;have v:=E.ad8 (u:=.ext λh=>h.get? s.heap.objs.size=some {cls:=.type "dict",data:=.dict #[]}) (sl:=.d []) i j J trivial λQ=>⟨s.heap.objs.size,_,[],rfl,.inr rfl,Q,i9,⟨by simp[aDt m],⟨rfl,rfl,rfl⟩,#[],0,rfl,rfl⟩,.nil,aDi⟩;exact q _ _ _ v (qK l _ v.trk) λb o p n=>⟨by rw[k9 (p9 p j)];exact p,λz=>z.elim n (p9 p j)⟩
def a0u (X:Cx):SW:=λx y v H Q=>∃O a b o f J k d,x=.ref a/\y=.ref b/\H a=some (.ext λh=>h.get? a=some o)/\ND a o f/\mK X.K H O f J/\(J.map (·.1)).Nodup/\f.length<=sizeLine/\Rep X.K H O (.ref b) k/\R6 7 k=true/\Rep X.K H O v d/\
 ∀g e,ND a g e->mK X.K H O e (dW J k d)->Q (upd H a<|.ext λh=>h.get? a=some g)
def TY (hu:X.A.units+130<dy):XH X (a0u X):=by
 intro C s σ H x y v ov iv u Q I rx ry ru z;obtain⟨O,a,b,o,es,J,k,d,E,ey,l,m,h6,h7,hz,L,N,rv,q⟩:=z;subst E ey;cases rx;cases ry;obtain⟨Y,T,td,hp⟩:=EG I l m h6 h7;obtain⟨ok,dp⟩:=mE N;have f:Y.length<=sizeLine:=by
  obtain⟨_,E,ea,ep,hd,he⟩:=m;obtain⟨o2,qe,ep2,U,_,i,jm,_⟩:=T;have g:s.heap.get? a=some o:=(I.hok a _ l).1;rw[g]at U;cases U;rw[hd]at i;cases i;have:=iu aGg (he.symm.trans jm);rw[aAh]at this
  lia
 refine wpAny_setItem_heap (knd:=rA X.prog X.w) (by show X.A.in1.units+128<dy;rw[u6];lia) ⟨bU I L ok rfl,by lia⟩ T (λh' n hs=>?_) f;obtain⟨j,p,r,t,B,oa,xr,is',nd'⟩:=n;have I1:=I.write (x:=a) (e:=a) (o:=.ext λh=>h.get? a=some j) (h':=h') (t':=s.toks+kC k) (by rw[l];trivial) (.inl rfl) (λb u hb e=>(hs.2 b hb).trans e) ⟨j,t⟩ ⟨t,⟨j,t⟩,λh1 h2 e k=>k _ e⟩;exact⟨_,I1,q j _ ⟨m.1,B,p,r,oa,rfl⟩ (by rw[xr];exact ET (HA hp td L N ru rv))⟩
def yW (i:Nat) (ρ:Ev) (k d:D):R Out:=match ρ[i]? with
 |some (.d J)=>if R6 7 k=true/\GL k=true/\J.length<=sizeLine then .ok (.nx (ρ.set i<|.d (dW J k d)))else .bad
 |_=>.bad
def zM (i:Nat){x:Str}{k:cv}{f g:Ev->R D}{p ps:Pos}(he:PD X e f)(j:PD X k g)(hu:X.A.units+130<dy)(hN:X.N[i]?=some x:=by rfl)(hv:tE X.env.scope x:=by first|exact aCs rfl|exact aBC (aCs rfl)|exact aBC (aBC rfl))(hd:(x==jd)=false:=by decide)
  (dn:(x==ka)=false:=by decide) (ha:∀v,f7 (.Subscript (.Name x p) k ps) X.env v=(do
   let t<-fh [v] (dq (.Name x p) X.env)
   let B<-fh [v,t] (dq k X.env)
   standAt ps
   fh [v,t,B] (setItem t B v)
   release [v,t,B] []):=by intro _;rfl)
  (hs:swapsWithSole [.Subscript (.Name x p) k ps] e pos.line X.env=pure false:=by rfl) (hw:swappedStores [.Subscript (.Name x p) k ps] e X.env=pure none:=by rfl) (u:(dC [.Subscript (.Name x p) k ps] X.env).map (·.2)=[f7 (.Subscript (.Name x p) k ps) X.env]:=by rfl):
  oZ X (.Assign [.Subscript (.Name x p) k ps] e pos) (λρ=>(f ρ).bind λd=>(g ρ).bind λl=>yW i ρ l d):=λU Y=>
 BZ (BN he (BF (M3 hN hv hd dn) j (TY hu) ha) hs hw u) λD σ H O ρ E fk q=>⟨U,Y,O,ρ,E,by
  cases C:f ρ with
  |ex z=>rw[C]at q;exactλH' s=>q H' (E.same.trans s)
  |bad=>rw[C]at q;exact q
  |ok d=>
   rw[C,R.aa0]at q;intro v H1 s1 r1;have I:=E.grow s1;cases w:g ρ with
   |ex z=>rw[w]at q;exact(q H<|E.same.trans<|Same.refl _).elim
   |bad=>rw[w]at q;exact aAg q
   |ok l=>
    rw[w,R.aa0]at q;unfold yW at q;cases y:ρ[i]? with
    |none=>rw[y]at q;exact aAg q
    |some sl=>
     rw[y]at q;cases sl with
     |d J=>
      dsimp only at q;by_cases j:R6 7 l=true/\GL l=true/\J.length<=sizeLine
      .rw[h9 j]at q;obtain⟨a,o,es,u,h2,h3,L,h5,h6,h7⟩:=I.slot i _ y;refine⟨_,u,U,Y,O,ρ,I,?_⟩;rw[w];intro kv H2 n r2;have E2:=I.grow n;obtain⟨b,rfl⟩:=oP r2 j.2.1;have Q:mK X.K H2 O es J:=h6.mono λr=>r.same n;refine⟨O,a,b,o,es,J,l,d,rfl,rfl,n _ _ L,h5,Q,h7,by rw[h6.length];exact j.2.2,r2,j.1,r1.same n,λo' T d' r'=>?_⟩;obtain⟨E3,k3⟩:=E2.ae2 (sl':=.d (dW J l d)) (u':=.ext λh=>h.get? a=some o') y trivial u (n _ _ L) trivial trivial λhO h0 m=>⟨a,o',T,rfl,h2,h3,i9,d',r'.mono λr=>r.upd (n _ _ L) trivial h2,IW J l d h7⟩;exact q _ _ _ E3 fk (((Kp.of s1).trans (Kp.of n)).trans k3)
      .rw[ic j]at q;exact aAg q
     |_=>exact aAg q⟩
end
end DL
namespace MM
open PySem
def LW (prog:cp)(w:cu)(A:cq)(op:CmpOp)(d:cy->Prop)(P:Nat->av->Prop)(e:Nat->Nat->Bool):Prop:=
 ∀i j a b (s:bb) (Q:D3) (E:D3),d s.heap->P i a->P j b->Q (.bool (e i j)) s->bc (bt prog w) A (richCompare op a b) Q E s
section
def HB (W:WalksS prog w A.in1 I fp q G n P St){L:cy->Prop}(hH:∀i s,St i s->L s.heap)(m:Nat->Nat->Bool)(xo:LW prog w A.in1 .Lt L P m)(S:bp)(N:S∉fp):
  ∀(k j:Nat) (s:bb) (d:av) (c:Nat),n-(j+1)=k->j+1<=n->St (j+1) s->P (gy m j) d->
  s.heap.get? S=some {cls:=.type "list",dict:=none,data:=.seq #[d,d] c,slots:=#[]}->
  (∀v s',P (gy m (n-1)) v->Moved (S::q) G s s'->R (.ok (.ret v)) s')->f6 (bt prog w) A (.builtin "min.loop" ⟨[.ref I,.none,.ref S],[]⟩) R s:=by
 have r:S∉q:=λh=>N (W.sub _ h);have y:∀b∈q,b∈S::q:=λb a=>aAe _ a;have O:(toString "min"++toString ".loop":String)= "min.loop":=by decide
 have Q:∀{b:bp},b∉S::q->S≠b:=λa h=>a (by rw[h];exact aBn);intro k;induction k with
 |zero=>
  intro j s d c hk hj z f t x;have T:j+1=n:=by omega
  refine aBE aFA ?_;rw[aBk aCM _];show bc _ A.in1 (seqItems? (.ref S)>>=_) _ _ s;refine aAa (aBM t rfl ?_);show bc _ A.in1 (tryCatch (gk<|.ref I) _>>=_) _ _ s;refine aAa (aFa<|W.done s _ _ (T▸z) λs' p=>?_);have u:=p.heap S _ r t;show bc _ A.in1 (hE S (λ_=>#[])>>=_) _ _ _;refine aAa ?_;refine aCb u rfl (aAa<|aEg<|aAb ?_);exact x d _ (by rw[<-T];exact f) ((p.mono y).then_heap (tk:=s'.toks) (aAi _) λb o a e=>(aAC _ _<|Q a).trans e)
 |succ k U=>
  intro j s d c hk hj z f t x;have B:j+1<n:=by omega
  refine aBE aFA ?_;rw[aBk aCM _];show bc _ A.in1 (seqItems? (.ref S)>>=_) _ _ s;refine aAa (aBM t rfl ?_);show bc _ A.in1 (tryCatch (gk<|.ref I) _>>=_) _ _ s;refine aAa (aFa<|W.item (j+1) s _ _ B z λv s' Y C p=>?_);have u:=p.heap S _ r t;show bc _ A.in1 (tryCatch (fh [v,v]<|richCompare .Lt v d>>=_) _>>=_) _ _ _;refine aAa (aFa<|aAR<|aAa<|xo (j+1) (gy m j) v d _ _ _ (hH _ _ C) Y f ?_);refine aAa (aAR<|aBy ?_);refine aAa (aEg<|aAb ?_);cases a:m (j+1) (gy m j)with
  |true=>
   simp only[if_true];refine aAa ?_;refine aCb u rfl (aAa<|aEg ?_);rw[O];refine aAb ⟨aBY aCM _,U (j+1) _ v _ (by omega) B (W.frame _ s' _ s'.toks C (aAi _) λb E o e=>?_) (by simp only[gy,a,if_true];exact Y) (aBf _ u rfl)
    λH g l J=>?_⟩
   .exact(aAC _ _ (λh:S=b=>N (by rw[h];exact E))).trans e
   .exact x H g l (aFt W.gtrans ((p.mono y).then_heap (aAi _) λb o a e=>(aAC _ _<|Q a).trans e) J)
  |false=>simp only[aAu,if_false];refine aAa (aEg ?_);rw[O];refine aAb ⟨aBY aCM _,U (j+1) _ d c (by omega) B C (by simp only[gy,a,aAu,if_false];exact f) u λH g l J=>?_⟩;exact x H g l (aFt W.gtrans (p.mono y) J)
def zS (W:WalksS prog w A.in1 I x a G n P St){p:cy->Prop}(y:∀i s,St i s->p s.heap)(f:Nat->Nat->Bool)(z:LW prog w A.in1 .Lt p P f)(S:bp)(g:S∉x)(q:0<n)(B:St 0 s)(r:s.heap.get? S=some {cls:=.type "list",dict:=none,data:=.seq #[] c,slots:=#[]})(C:∀v s',P (gy f (n-1)) v->Moved (S::a) G s s'->R (.ok (.ret v)) s'):f6 (bt prog w) A (.builtin "min.loop" ⟨[.ref I,.none,.ref S],[]⟩) R s:=by
 have j:S∉a:=λh=>g (W.sub _ h);have E:∀b∈a,b∈S::a:=λb d=>aAe _ d;have H:(toString "min"++toString ".loop":String)= "min.loop":=by decide
 have J:∀{b:bp},b∉S::a->S≠b:=λd h=>d (by rw[h];exact aBn);refine aBE aFA ?_;rw[aBk aCM _];show bc _ A.in1 (seqItems? (.ref S)>>=_) _ _ s;refine aAa (aBM r rfl ?_);show bc _ A.in1 (tryCatch (gk<|.ref I) _>>=_) _ _ s;refine aAa (aFa<|W.item 0 s _ _ q B λv s' L N t=>?_);have u:=t.heap S _ j r;show bc _ A.in1 (hE S (λ_=>#[v,v])>>=_) _ _ _;refine aAa ?_;refine aCb u rfl ?_;rw[H];refine aAb ⟨aBY aCM _,HB W y f z S g _ 0 _ v _ rfl q (W.frame _ s' _ s'.toks N (aAi _) λb k o e=>?_) L (aBf _ u rfl) λO l m Q=>?_⟩
 .exact(aAC _ _ (λh:S=b=>g (by rw[h];exact k))).trans e
 .exact C O l m (aFt W.gtrans ((t.mono E).then_heap (aAi _) λb o d e=>(aAC _ _<|J d).trans e) Q)
def call_minH {E:D3}{Q:D3}(h:bc (bt prog w) A.in1 (pyIter x) (λit a=>∃I d g G n P St j f,it=.ref I/\WalksS prog w A.in1 I d g G n P St/\St 0 a/\(∀b∈d,b<a.heap.objs.size)/\0<n/\(∀i s,St i s->j s.heap)/\LW prog w A.in1 .Lt j P f/\
   ∀v s',P (gy f (n-1)) v->Moved g G a s'->Q v s') E s):
  bc (bt prog w) A (call (.builtin "min") [x]) Q E s:=by
 have l:(toString "min"++toString ".loop":String)= "min.loop":=by decide
 refine call_function_tree F.kind_min F.plain_min F.entry_min (F.args_min1 _) ?_;show bc _ A.in1 (aEI "min" ["key", "default"] 0 ⟨[],[]⟩>>=_) _ _ s;refine aAa (wpAny_of_eq (show aEI "min" ["key", "default"] 0 ⟨[],[]⟩=pure [none,none]from rfl) ?_);refine aAa (aAb ?_);refine aAa (aBG h (λit a m=>?_) λ_ _ e=>e);obtain⟨I,d,g,G,n,P,St,j,f,rfl,W,p,q,r,t,u,y⟩:=m;refine aAa (aBH ?_);have z:a.heap.objs.size∉d:=λk=>aBj _ (q _ k);rw[l];refine aAb ⟨aBY aCM _,zS W t f u a.heap.objs.size z r (W.frame 0 a _ a.toks p (aAi _) λb _ o e=>aAc _ e) (aAm _ rfl) λv s' B k=>?_⟩;exact y v s' B (Moved.drop_new (tk:=a.toks) k<|aAi _)
end
def walks_more {P:Nat->av->Prop}{St:Nat->cy->Prop}(W:Walks prog w A I m j n P St)(more:K6)(q:∀p∈more,p.1∉j):
  Walks prog w A I (m++more.map (·.1)) j n P (λi h=>St i h/\∀p∈more,h.get? p.1=some p.2)where
 sub:=λb f=>aBI _ (W.sub b f)
 frame:=λi h g st k=>⟨W.frame i h g st.1 λb f o e=>k b (aBI _ f) o e,λp a=>k p.1 (aAH _<|aDe a) _ (st.2 p a)⟩
 item:=λi s Q E r st d=>W.item i s Q E r st.1 λv g t u x l=>d v g t u ⟨x,λp a=>l p.1 p.2 (q p a) (st.2 p a)⟩ l
 done:=λs Q E st d=>W.done s Q E st.1 d
 self:=λi s Q E st d=>W.self i s Q E st.1 d
end MM
namespace DL
open PySem PySem.Spec L2
open PyProof.Rows hiding St
variable [Tabs]
section
def IK {x:Str}{a:bp}{dd:Option bp}{b:Array av}{n:Nat}{sl:Array (Option av)}{ns:List Int}(d:X.mg x=some (.ref a))(e:X.K.lookup a=some ⟨.type "tuple",dd,.seq b n,sl⟩)(f:l4 (ns.map V.int) b.toList)(hz:b.size<=sizeLine)(g:Gl X x:=by rfl)(h:(x==jd)=false:=by decide):
 PD X (.Name x pos) (TV (.tup (ns.map D.int))):=oI (FT g d (show RelV (.ref a) _ from rfl) h) λH O=>.tup (.inr ⟨_,b,n,e,rfl,rfl,hz,f⟩) (Reps.ints ns)
def MV:D->D->R D
 |.non,.non=>.ok (.bl true)
 |_,.non=>.ok (.bl false)
 |_,_=>.bad
def MZ:kO X (d3 .Is) MV:=by
 intro H O x y e f Q j d g q;refine⟨_,ZO,?_⟩;cases f with
 |non=>
  refine⟨g.ac3,?_⟩;cases e with
  |non=>rw[d.ac3];exact q _ H (Same.refl _) .bl
  |bl b=>rw[d.blI];exact q _ H (Same.refl _) .bl
  |int i=>rw[d.aa7];exact q _ H (Same.refl _) .bl
  |str z=>rw[d.ac6];exact q _ H (Same.refl _) .bl
  |tup h=>obtain⟨a,_,rfl,_⟩:=d.tupI;exact q _ H (Same.refl _) .bl
  |lst h=>obtain⟨a,_,rfl,_⟩:=d.aa6;exact q _ H (Same.refl _) .bl
  |dct=>obtain⟨a,_,rfl,_⟩:=d.af7;exact q _ H (Same.refl _) .bl
 |_=>cases e<;>exact aAg q
def oU (g:PD X e f)(h:et e none pos.line X.env=pure false:=by rfl):oZ X (.Expr e pos) (λρ=>(f ρ).bind λ_=>.ok (.nx ρ)):=λi j=>
 BZ (lT g h) λD σ H O ρ E k q=>⟨i,j,O,ρ,E,by
  cases a:f ρ with
  |ok d=>rw[a]at q;exactλv b s r=>q _ b O (E.grow s) k (Kp.of s)
  |ex x=>rw[a]at q;exactλb s=>q b (E.same.trans s)
  |bad=>rw[a]at q;exact q⟩
def cP:List D->Option (List Bool)
 |[]=>some []
 |.bl b::a=>(cP a).map (b::·)
 |_::_=>none
theorem nG:∀{ds:List D} {bs:List Bool},cP ds=some bs->ds=bs.map D.bl
 |[],bs,h=>by cases h;rfl
 |.bl b::ds,bs,h=>by
  unfold cP at h;cases e:cP ds with
  |none=>rw[e]at h;cases h
  |some l=>rw[e]at h;have a:b::l=bs:=Option.some.inj h;subst a;rw[nG e];rfl
 |.non::_,_,h|.int _::_,_,h|.str _::_,_,h|.tup _::_,_,h|.lst _::_,_,h|.dct::_,_,h=>by cases h
def anyR:List D->R D
 |[.lst a]=>match cP a with
  |some bs=>.ok (.bl (bs.any id))
  |none=>.bad
 |_=>.bad
def AG {K:jb}{H:Hp}{O:bp->Prop}{ws:List V}{bs:List Bool}{a:List av}(r:Reps K H O ws (bs.map D.bl))(v:l4 ws a):a=bs.map aCJ:=by
 induction bs generalizing ws a with
 |nil=>cases r;cases v;rfl
 |cons b bs d=>
  cases r with
  |cons r t=>
   cases v with
   |cons e f=>cases r;have:_=aCJ b:=e;rw[this,d t f];rfl
def GY (bs:List Bool):(aAU bs.length).any (λi=>bs.getD i false)=bs.any id:=by
 rw[aDX,aEq,aEq];constructor
 .rintro⟨i,a,e⟩;have d:i<bs.length:=by simpa using a
  refine⟨bs[i],aCL d,?_⟩;simpa[aAw,aAj d]using e
 .rintro⟨b,f,e⟩;obtain⟨i,a,rfl⟩:=aBo f;exact⟨i,by simpa using a,by simpa[aAw,aAj a]using e⟩
def WF (y:X.calm=true):eG X (.builtin "any") anyR:=by
 intro H O j A Q fr r q;match A,q with
 |[.lst Y],q=>
  obtain⟨v,rfl,z⟩:=HE r;obtain⟨p,ws,rfl,B,k⟩:=z.aa6;simp only[anyR]at q;cases e:cP Y with
  |none=>rw[e]at q;exact q.elim
  |some bs=>
   rw[e]at q;rw[nG e]at k;refine⟨λj l m=>j=[.ref p]/\l=H/\m=Q,λn s σ l Y us m I C ⟨J,L,N⟩=>?_,rfl,rfl,rfl⟩;subst J L N;obtain⟨u,rfl,T⟩:=vals1 C;cases T;obtain⟨a,g,⟨U,nL,t,cL,dL,sL⟩,zL⟩:=I.list B;have w:=AG k g;have x:s.heap.IsList p a.toArray:=⟨U,t,cL,nL,sL⟩;refine call_any_walk (aDz x ⟨s.heap.objs.size,_,_,a.toArray.size,_,_,λi=>bs.getD i false,rfl,Walks.list (by simp[I.ok.hd y]) s.heap.objs.size p (aAk<|aAf t) a.toArray,⟨⟨_,aAm _ rfl,rfl,rfl⟩,x.push _⟩,λi v s' Q E d f=>?_,λh' tk kp=>?_⟩)
   .have d:a.toArray[i]?=some v:=d;have f:Q (bs.getD i false) s':=f;rw[aCN,w,aAI]at d;cases h:bs[i]? with
    |none=>rw[h]at d;cases d
    |some b=>rw[h]at d;have:aCJ b=v:=Option.some.inj d;subst this;rw[aAw,h]at f;exact aBy f
   .have I2:=I.kept (h':=h') (t':=tk) λb o e=>kp b o (by simp only[aAZ];exact aAk (aAf e)) (aAc _ e);refine⟨.bl (bs.any id),_,I2,?_,q _ _ (Same.refl _) .bl⟩;show aCJ _=aCJ _;rw[aAl,w,aAh,GY]
end
def WC (ds:List D)(i j:Nat):Bool:=HT.lexLt (C6<|ds.getD i .non) (C6<|ds.getD j .non)
def LO:List D->R D
 |[.lst a]=>if a≠[]/\a.all bK=true then .ok (a.getD (gy (WC a) (a.length-1)) .non)else .bad
 |_=>.bad
def uZ (h:cy)(a:List av):List (bp×Obj):=a.filterMap λv=>match v with
 |.ref b=>(h.get? b).map λo=>(b,o)
 |_=>none
def CC (d:aCU b∈a)(e:h.get? b=some o):(b,o)∈uZ h a:=
 aBB.mpr ⟨_,d,by show(h.get? b).map _=_;rw[e];rfl⟩
def fS (a:p∈uZ h d):h.get? p.1=some p.2:=by
 obtain⟨v,_,e⟩:=aBB.mp a;cases v with
 |ref b=>
  have e:(h.get? b).map (λo=>(b,o))=some p:=e;cases q:h.get? b with
  |none=>rw[q]at e;cases e
  |some o=>rw[q]at e;cases e;exact q
 |_=>cases e
section
def UC (hc:X.calm=true)(hu:X.A.units+300<dy):eG X (.builtin "min") LO:=by
 intro H O vs ds Q fr r q;match ds,q with
 |[.lst Y],q=>
  obtain⟨v,rfl,z⟩:=HE r;obtain⟨p,ws,rfl,h1,h2⟩:=z.aa6;simp only[LO]at q;by_cases t:Y≠[]/\Y.all bK=true
  .rw[h9 t]at q;obtain⟨au,t⟩:=t;have pt:∀d∈Y,bK d=true:=aCf.mp t;refine⟨λvs N Q'=>vs=[.ref p]/\N=H/\Q'=Q,λpins s σ N ue us Q' I rv z9=>?_,rfl,rfl,rfl⟩;obtain⟨e1,e2,e3⟩:=z9;subst e1 e2 e3;obtain⟨u,rfl,ru⟩:=vals1 rv;cases ru;obtain⟨a,x,⟨oL,nL,T,cL,dL,sL⟩,zL⟩:=I.list h1;have hl:s.heap.IsList p a.toArray:=⟨oL,T,cL,nL,sL⟩;have st:y9 X.K N O a Y:=y9.of x h2;have k:a.toArray.size=Y.length:=by rw[aAl,<-x.length,h2.length]
   have uc:0<Y.length:=List.length_pos_iff.mpr au;have W:=MM.walks_more (Walks.list (prog:=X.prog) (w:=X.w) (A:=X.A.in1) (by simp[I.ok.hd hc]) s.heap.objs.size p (aAk<|aAf T) a.toArray) (uZ s.heap a)
    (λq m=>by simp only[aAZ];exact aAk (aAf<|fS m))
   refine MM.call_minH (aDz hl ⟨s.heap.objs.size,_,_,_,a.toArray.size,_,_,λh=>∀q∈uZ s.heap a,h.get? q.1=some q.2,WC Y,rfl,W.toS,⟨⟨⟨_,aAm _ rfl,rfl,rfl⟩,hl.push _⟩,λq m=>aAc _ (fS m)⟩,λb f=>?_,by rw[k];exact uc,λi s h=>h.2,λi j vi vj l Q2 E2 hh y hj m=>?_,λv l E J=>?_⟩)
   .rw[aBz];rcases aAX.mp f with f|f
    .rcases aAd.mp f with rfl|f
     .exact aDK _
     .rcases aAd.mp f with rfl|f
      .exact aBA (aAf T)
      .cases f
    .obtain⟨q,m,rfl⟩:=aAo.mp f;exact aBA (aAf<|fS m)
   .have one:∀i v,a.toArray[i]?=some v->∃b B,v=.ref b/\IsTup l.heap b B/\IntsAre B.toList (C6<|Y.getD i .non):=λi v y=>by
     rw[aCN]at y;obtain⟨d,L,w,U,rp⟩:=F7 st y;have oa:Y.getD i .non=d:=by rw[aAw,L];rfl
     rw[oa];have C:=pt d (aAt L);obtain⟨b,B,rfl,⟨o,g,c,n,dd⟩,hia⟩:=aD C (bU I rp (S9 C) U);exact⟨b,B,rfl,⟨o,hh _ (CC (aAt y) g),c,n,dd⟩,hia⟩
    obtain⟨b,B,rfl,t1,i1⟩:=one i vi y;obtain⟨b',xl,rfl,t2,i2⟩:=one j vj hj;exact HT.lt_tupInts t1 t2 i1 i2 (by rw[u6];lia) m
   .have E:a.toArray[gy (WC Y) (a.toArray.size-1)]?=some v:=E;rw[aCN,k]at E;obtain⟨d,L,w,U,rp⟩:=F7 st E;have oa:Y.getD (gy (WC Y)<|Y.length-1) .non=d:=by rw[aAw,L];rfl
    rw[oa]at q;have I2:=I.kept (h':=l.heap) (t':=l.toks) λb o e=>J.heap b o (by simp only[aAZ];exact aAk (aAf e)) (aAc _ e);have es:l={s with heap:=l.heap,toks:=l.toks}:=by have g1:=J.gens;have g2:=J.drawn;have g3:=J.os;cases l;simp only at g1 g2 g3;subst g1 g2 g3;rfl
    rw[es];exact⟨w,_,I2,U,q _ _ (Same.refl _) rp⟩
  .rw[ic t]at q;exact q.elim
def QY (h:QB ds)(n:Nat)(a:n<ds.length):gy (WC ds) n=0:=by
 induction n with
 |zero=>rfl
 |succ k b=>
  have e:=b (by lia);unfold gy;rw[e];have:WC ds (k+1) 0=false:=by
   unfold WC;rw[aAw,aAw,aAj a,aAj (by lia:0<ds.length)];have:=aCk.mp h 0 (k+1) (by lia) a (by lia);cases q:HT.lexLt (C6<|(some ds[k+1]).getD .non) (C6 ((some (ds[0]'(by lia))).getD .non))with
   |false=>rfl
   |true=>have z:HT.lexLt (C6 (ds[0]'(by lia))) (C6 (ds[0]'(by lia)))=true:=TS.lex_trans _ _ _ this q;rw[TS.lex_irrefl]at z;cases z
  rw[this];rfl
end
end DL
namespace DL
open PySem PySem.Spec L2
open PyProof.Rows hiding St sub_tuple_tuple sub_list_list sub_tuple_list sub_list_tuple
section
open PySem.MeetsSeq PySem.MeetsSeq2 PySem.MeetsSeq3 PySem.AutoSeq1
def MA (l:bp)(Y:Array av)(n:Nat)(b:bp)(N:Array av)(n2:Nat)(sl:Array (Option av))(f:¬(!Y.isEmpty&&aCX (Y.size+N.size))=true)(h:Y.size<=sizeLine)(i:Y.size+N.size<=sizeLine+1):
  Meets (Builtin.«list.extend» ⟨[.ref l,.ref b],[]⟩) (λ_ R s=>s.heap.get? l=some ⟨.type "list",none,.seq Y n,#[]⟩/\s.heap.get? b=some ⟨.type "list",none,.seq N n2,sl⟩/\R (.ok (.ret Value.none)) {s with heap:=s.heap.update l (aBx λx=>x++N),toks:=s.toks}):=
 .of_wp λa w A R s q=>by
  obtain⟨m,g,d,o,os⟩:=s;obtain⟨e,j,k⟩:=q;have p:=idx_int;have r:=sub_tuple_tuple;have t:=sub_list_list;have u:=sub_tuple_list;have v:=sub_list_tuple;have z:(Y++N).size<=sizeLine+1:=by rw[Array.size_append];exact i
  wp_walk using(aCb e rfl (hz:=h) (_hz':=z)),aEC e,aEC j
  exact⟨_,rfl,k⟩
end
section
def ik (K:jb):V->List V->Hp->VK->Prop:=λx d H Q=>∃l b Y a,x=.ref l/\d=[.ref b]/\H l=some (.lst Y)/\N0 K H b a/\Y.length+a.length<=sizeLine/\Q .non (upd H l<|.lst (Y++a))
def ZA:MtM X "list.extend" (ik X.K):=by
 intro g s σ H x N v O Q I p t h;obtain⟨l,b,Y,T,rfl,rfl,i,w,U,q⟩:=h;cases p;obtain⟨u,rfl,y⟩:=t.one;cases y;obtain⟨z,a,n,r,hl,e⟩:=I.af3 i;obtain⟨f,j,⟨⟨A,vt,B,C⟩,E,J,k,m,o⟩,z2⟩:=I.list w;simp only at k m o;subst k m o;have kg:=j.length;have L:a.toArray.size+f.toArray.size<=sizeLine:=by rw[aAl,aAl];lia
 have d:¬(!a.toArray.isEmpty&&aCX (a.toArray.size+f.toArray.size))=true:=by rw[MT L,aGe];exact aAV
 refine call_meets F.slot_list_extend ⟨_,e,rfl⟩ F.entry_list_extend (F.args_list_extend_2 _ _) (MA l a.toArray n b f.toArray E C d (by rw[aAl];lia) (by lia)) ⟨e,J,?_⟩;refine⟨.non,_,I.af5 (its':=a++f) i e (by simp) (r.append j) ?_,rfl,q⟩;rw[aAK]
 lia
end
variable [Tabs]
section
def AW (i:Nat)(z:PD X e f)(A:X.N[i]?=some x:=by rfl)(B:tE X.env.scope x:=by first|exact aCs rfl|exact aBC (aCs rfl)|exact aBC (aBC rfl))(I:(x==jd)=false:=by decide)(L:(x==ka)=false:=by decide)(Q:gv (.Name x p) "extend" X.env (dq (.Name x p) X.env)=dq (.Name x p) X.env:=by rfl)(T:((cz g (a9 [e] X.env)).all (λx=>!x.1)&&(backToKw g (keywordEach [] X.env)).all (λx=>x.1.isSome)
   &&decide ([e].length+([]:List Keyword).length+(if([]:List Keyword).isEmpty then 0 else 1)<30))=true:=by rfl) (U:(b.endLine==g.line)=true:=by rfl) (n:a9 [e] X.env=(false,dq e X.env)::a9 [] X.env:=by rfl) (jr:(cz g (a9 [] X.env)).any (·.1)=false:=by rfl) (xb:et (.Call (.Attribute (.Name x p) "extend" b) [e] [] g) none pos.line X.env=pure false:=by rfl):
  oZ X (.Expr (.Call (.Attribute (.Name x p) "extend" b) [e] [] g) pos) (λρ=>(f ρ).bind (XU i ρ)):=λHa O0=>
 BZ (lT (VS PySem.F.plainAttrs_list PySem.F.slot_list_extend PySem.F.type_list_extend ZA (M3 A B I L) (i5 z l5 n) Q T U n jr) xb) λD σ H O ρ E fk q=>by
 cases j:f ρ with
 |ok d=>
  rw[j,R.aa0]at q;unfold XU at q;cases h:ρ[i]? with
  |none=>rw[h]at q;exact aAg q
  |some r=>
   rw[h]at q;cases r with
   |x C=>exact aAg q
   |c m φ=>exact aAg q
   |d J=>exact aAg q
   |no=>exact aAg q
   |v d=>exact aAg q
   |o Y=>
    cases d with
    |lst N=>
     dsimp only at q;split at q
     .rename_i hz;obtain⟨a,s,t,h2,h3,u,w⟩:=E.own i Y h;refine⟨_,t,.inl ⟨rfl,s,N0.of u⟩,Ha,O0,O,ρ,E,?_⟩;show FU X H O ((f ρ).bind λd=>(R.ok []).bind λds=>.ok (d::ds)) _;rw[j];intro us H1 k l;cases l with
      |cons l rn=>
       cases rn;have E1:=E.grow k;cases l with
       |lst hb nb y=>refine⟨a,_,s,_,rfl,rfl,k _ _ u,hb,by rw[w.length,y.length];exact hz,?_⟩;obtain⟨E2,k2⟩:=E1.write h t ((w.same k).append y);exact q σ _ O E2 fk ((Kp.of k).trans k2)
     .exact aAg q
    |_=>exact aAg q
 |ex x=>
  rw[j]at q;cases h:ρ[i]? with
  |none=>exact(q H E.same).elim
  |some r=>exact(q H E.same).elim
 |bad=>rw[j]at q;exact aAg q
end
end DL
namespace TS
open PySem PyProof.Rows HT
section
def FK (A:cq)(s:bb)(x y:av)(b:Bool):Prop:=∀(a:cp) (w:cu) (E:D3) (Q:vT),Q b s->bc (bt a w) A (oneLt' false x y) Q E s
def lt_two {Q:vT}(g:IsTup s.heap l #[p,r])(h:IsTup s.heap b #[a,d])(i:f=false)(j:SeqAt.EqAt A s p a e1)(k:e1=false->FK A s p a b1)(m:e1=true->SeqAt.EqAt A s r d e2)(t:e1=true->e2=false->FK A s r d b2)(q:Q (bif e1 then(bif e2 then false else b2)else b1) s):bc (bt prog w) A (keyLt' (tupK f) (.ref l) (.ref b)) Q E s:=by
 obtain⟨o,u,y,n,v⟩:=g;obtain⟨z,x,B,C,e⟩:=h;subst i;rw[sN];refine aAa (aEm u v<|aAa<|aEm x e ?_);show bc _ _ (forIn [((p,a),0),((r,d),1)] _ _>>=_) _ _ _;rw[aCY];refine aAa (aAa ?_);refine aAa (j _ _ _ _ ?_);cases e1 with
 |false=>refine aAa (k rfl _ _ _ _ ?_);exact aAb (aAb<|aAb q)
 |true=>
  refine aAb ?_;dsimp only;rw[aCY];refine aAa ?_;refine aAa (m rfl _ _ _ _ ?_);cases e2 with
  |false=>refine aAa (t rfl rfl _ _ _ _ ?_);exact aAb (aAb<|aAb q)
  |true=>refine aAb ?_;dsimp only;rw[aEh];exact aAb (aAb q)
def JO (h:∀(prog:cp) (w:cu) (E:D3) (Q:D3),Q (.bool b) s->bc (bt prog w) A (richCompare .Lt x y) Q E s):FK A s x y b:=λprog w E Q q=>by rw[oneLt'_eq];simp only[aAu,if_false];exact aAa (h prog w _ _<|aBy q)
def oneLt_tup (d:IsTup s.heap l B)(e:IsTup s.heap b f)(g:IntsAre B.toList ns)(h:IntsAre f.toList i)(j:A.units<dy):FK A s (.ref l) (.ref b) (HT.lexLt ns i):=
 JO λa w E Q q=>HT.lt_tupInts d e g h j q
end
end TS
namespace DL
open PySem PySem.Spec L2
open PyProof.Rows hiding St
section
def uY (k:D->List Int)(d:D):List D->List D
 |[]=>[d]
 |x::Y=>if HT.lexLt (k d) (k x)=true then d::x::Y else x::uY k d Y
def nK (k:D->List Int)(ds:List D):List D:=ds.foldr (uY k) []
def uH (k:D->List Int)(ds:List D):Prop:=ds.Pairwise λx y=>HT.lexLt (k x) (k y)=true
theorem iZ (k:D->List Int)(d:D):∀Y:List D,(uY k d Y).Perm (d::Y)
 |[]=>.refl _
 |x::Y=>by
  unfold uY;split
  .exact .refl _
  .exact((iZ k d Y).cons x).trans (.swap d x Y)
theorem V0 (k:D->List Int):∀ds:List D,(nK k ds).Perm ds
 |[]=>.refl _
 |d::ds=>(iZ k d (nK k ds)).trans ((V0 k ds).cons d)
theorem wQ:∀{Y:List D},uH k Y->(∀x∈Y,k x≠k d)->uH k (uY k d Y)
 |[],_,_=>aDS _ _
 |x::Y,h,n=>by
  have b:=aAz.mp h;unfold uY;split
  .rename_i lt;refine aAz.mpr ⟨λy a=>?_,h⟩;rcases aAd.mp a with rfl|a
   .exact lt
   .exact TS.lex_trans _ _ _ lt (b.1 y a)
  .rename_i e;refine aAz.mpr ⟨λy a=>?_,wQ b.2 λz f=>n z (.tail _ f)⟩;rcases aAd.mp ((iZ k d Y).mem_iff.mp a)with rfl|a
   .cases q:HT.lexLt (k x) (k y)with
    |true=>rfl
    |false=>exact absurd (TS.lex_total _ _ q (by simpa using e)) (n x<|.head _)
   .exact b.1 y a
theorem jY:∀{ds:List D},(ds.map k).Nodup->uH k (nK k ds)
 |[],_=>.nil
 |d::ds,h=>by rw[aAp,aAS]at h;refine wQ (jY h.2) λx a e=>h.1 ?_;rw[<-e];exact aDe ((V0 k ds).mem_iff.mp a)
theorem jG:∀{Y N:List D},uH k Y->uH k N->Y.Perm N->Y=N
 |[],N,_,_,p=>(List.nil_perm.mp p).symm
 |x::Y,[],_,_,p=>by have:=p.length_eq;simp at this
 |x::Y,y::N,f,g,p=>by
  have d:=aAz.mp f;have e:=aAz.mp g;have a:x=y:=by
   rcases aAd.mp (p.mem_iff.mp<|.head _)with q|q
   .exact q
   .rcases aAd.mp (p.mem_iff.mpr<|.head _)with b|b
    .exact b.symm
    .have:=TS.lex_trans _ _ _ (e.1 x q) (d.1 y b);rw[TS.lex_irrefl]at this;cases this
  subst a;rw[jG d.2 e.2 ((List.perm_cons x).mp p)]
def SB [Tabs]{R:av->D->Prop}{key:av->List Int}{k:D->List Int}{a:List av}{ds:List D}(st:Paired R a ds)(f:a.Pairwise λx y=>HT.lexLt (key y) (key x)=false)(p:(ds.map k).Nodup)(g:∀u d,R u d->d∈ds->key u=k d):uH k ds:=by
 induction st with
 |nil=>exact .nil
 |@cons u d a ds r t q=>
  have i:=aAS.mp p;have m:=aAz.mp f;refine aAz.mpr ⟨λe s=>?_,q m.2 i.2 λu d h v=>g u d h (.tail _ v)⟩;obtain⟨j,b,rfl⟩:=aBo s;have n:j<a.length:=by rw[t.length];exact b
  obtain⟨A,o,w⟩:=F7 t (aAj n);rw[aAj b]at o;cases o;have l:=m.1 a[j] (aCL n);rw[g _ _ w (.tail _ (aCL b)),g u d r (.head _)]at l;cases z:HT.lexLt (k d) (k ds[j])with
  |true=>rfl
  |false=>exact absurd (aAo.mpr ⟨ds[j],aCL b,(TS.lex_total _ _ z l).symm⟩) i.1
def ay:D->Bool
 |.tup [p,.lst _]=>bK p
 |_=>false
def R9:D->List Int
 |.tup (p::_)=>C6 p
 |_=>[]
def XF (h:ay d=true):∃p r,d=.tup [p,.lst r]/\bK p=true/\R9 d=C6 p:=by
 unfold ay at h;split at h
 .exact⟨_,_,rfl,h,rfl⟩
 .cases h
def rz:D->R (List D)
 |.lst a=>if a.all ay=true/\(a.map R9).Nodup/\a.length<=63 then .ok (nK R9 a)else .bad
 |_=>.bad
variable [Tabs]
def FV (h:cy)(u:av)(l:List Int):Prop:=∃b p r d,u=.ref b/\IsTup h b #[p,r]/\bK d=true/\HV h p d/\C6 d=l
def FV.inj (x:FV h u l)(y:FV h u k):l=k:=by obtain⟨b,p,r,d,rfl,⟨o,g,_,n,m⟩,_,q,rfl⟩:=x;obtain⟨t,v,w,z,e,⟨A,f,_,B,i⟩,_,a,rfl⟩:=y;cases e;rw[g]at f;cases f;rw[m]at i;injection i with s _;have j:=iu aFM s;simp only[aFP]at j;obtain⟨rfl,_⟩:=j;rw[HV.inj q a]
def GT (h:cy) (u:av):List Int:=open Classical in if p:∃l,FV h u l then p.choose else[]
def iE (x:FV h u l):GT h u=l:=by unfold GT;rw[dif_pos ⟨l,x⟩];exact FV.inj (Exists.choose_spec (⟨l,x⟩:∃l,FV h u l)) x
section
def LX (I:Inv X e σ H s)(r:Rep X.K H O v d)(h:ay d=true)(g:RelV v u):FV s.heap u (R9 d):=by
 obtain⟨p,ring,rfl,f,i⟩:=XF h;cases r with
 |tup q a=>
  cases g;obtain⟨j,b,k,_⟩:=I.tuple q;cases a with
  |cons l a=>
   cases a with
   |cons m a=>
    cases a;cases b with
    |cons v1 b=>
     cases b with
     |cons n b=>cases b;exact⟨_,_,_,p,rfl,k,f,bU I l (S9 f) v1,i.symm⟩
end
section
def zR (ha:PB X e f)(hh:X.calm=true)(hu:X.A.units+300<dy)(hg:Gl X "sorted":=by rfl)(hm:X.mg "sorted"=none:=by assumption)(hv:dt "sorted"=some (.builtin "sorted"):=by decide+kernel)(he:a9 [e] X.env=(false,dq e X.env)::a9 [] X.env:=by rfl)(bg:(cz pos (a9 [] X.env)).any (·.1)=false:=by rfl):
  PF X (.Call (.Name "sorted" p) [e] [] pos) (λρ=>(f ρ).bind rz):=by
 refine rL λpins s σ H Q I Ha O0 O ρ E q=>?_;dsimp only at q;refine aAQ (N2 I hg hm hv ?_ (by decide) (by decide));have qr:PA X [e] _:=J3 ha aY he;refine aBK (B1 (qr pos pins s σ H (λvs H1=>∃v r,vs=[v]/\f ρ=.ok (.lst r)/\Same H H1/\A8 X.K H1 O v (.lst r)) I ⟨Ha,O0,O,ρ,E,?_⟩) λus J z9=>?_) he bg
 .cases e1:f ρ with
  |ex z=>rw[e1]at q;exact q
  |bad=>rw[e1]at q;exact q.elim
  |ok d=>
   rw[e1,R.aa0]at q;cases d with
   |lst r=>exactλv H1 J r1=>⟨v,r,rfl,rfl,J,r1⟩
   |_=>exact aAg q
 .obtain⟨vs,H1,I1,r1,v,r,ev,ef,sm,rb⟩:=z9;subst ev;rw[ef,R.aa0]at q;obtain⟨a,ws,rfl,hS,rr⟩:=rb.aa6;obtain⟨u,rfl,ru⟩:=vals1 r1;cases ru;obtain⟨m,rv,⟨oL,nL,gL,cL,dL,sL⟩,zL⟩:=I1.list hS;have hl:J.heap.IsList a m.toArray:=⟨oL,gL,cL,nL,sL⟩;simp only[rz]at q;by_cases hc:r.all ay=true/\(r.map R9).Nodup/\r.length<=63
  .rw[h9 hc]at q;obtain⟨oi,nd,zl⟩:=hc;have fc:∀d∈r,ay d=true:=aCf.mp oi;have st:y9 X.K H1 O m r:=y9.of rv rr;have hlen:m.length=r.length:=st.length;have t:∀u∈m,∃i d,m[i]?=some u/\r[i]?=some d/\FV J.heap u (R9 d):=λu hu=>by obtain⟨i,hi,rfl⟩:=aBo hu;obtain⟨d,Y,w,rh,rp⟩:=F7 st (aAj hi);exact⟨i,d,aAj hi,Y,LX I1 rp (fc d<|aAt Y) rh⟩
   have keq:∀u∈m,∀u'∈m,GT J.heap u=GT J.heap u'->u=u':=λu hu u' bh e=>by
    obtain⟨i,d,hi,Y,fv⟩:=t u hu;obtain⟨j,d',hj,oa,fv'⟩:=t u' bh;rw[iE fv,iE fv']at e;have eij:i=j:=by obtain⟨li,ei⟩:=aAy.mp Y;obtain⟨lj,ej⟩:=aAy.mp oa;refine(List.getElem_inj (xs:=r.map R9) (i:=i) (j:=j) (h₀:=by simpa using li) (h₁:=by simpa using lj) nd).mp ?_;rw[aEt,aEt,ei,ej];exact e
    subst eij;rw[hi]at hj;cases hj;rfl
   refine TS.sorted_keys (vs:=m) (f:=false) (key:=GT J.heap) (C:=λs'=>∃h',s'={J with heap:=h'}/\∀b o,J.heap.get? b=some o->h'.get? b=some o)
    (λ{Q'} hq=>collect_list hl (hq _ ⟨_,rfl,λb o e=>?_⟩) (by rw[hlen];exact aAq zl (by decide)))
    (λs' ⟨h',U,k⟩ s6 k6 x hx y hy prog w A E hA {Q} qq=>?_) (λh2 s' ⟨h',U,k⟩ s6 k6 A {Q} qq=>?_) (by rw[hlen];lia) λs' il h' l ⟨h1,U,k⟩ pm srt k2 hl ⟨n,gl⟩=>?_
   .exact(aAC _ _<|aBU<|aAk<|aAf e).trans (aAc _ e)
   .subst U;have kk:∀b o,J.heap.get? b=some o->s6.heap.get? b=some o:=λb o e=>k6 b o (k b o e);obtain⟨i,d,hi,Y,fv⟩:=t x hx;obtain⟨j,d',hj,oa,fv'⟩:=t y hy;have kx:=iE fv;have ky:=iE fv';have eqk:=keq x hx y hy;rw[kx,ky]at qq;rw[kx,ky]at eqk;obtain⟨b,p1,r1,d1,rfl,⟨o,g,c,n,dd⟩,N,hv1,e1⟩:=fv;obtain⟨b',p2,r2,d2,rfl,⟨o',g',c',n',zh⟩,hp2,hv2,e2⟩:=fv';have L:HV s6.heap p1 d1:=hv1.keeps λb o e _=>kk b o e;have hv2':HV s6.heap p2 d2:=hv2.keeps λb o e _=>kk b o e;have hA':A.units+8<dy:=by lia
    obtain⟨c1,i1,rfl,t1,ia1⟩:=aD N L;obtain⟨c2,i2,rfl,t2,ia2⟩:=aD hp2 hv2';rw[<-e1,<-e2]at qq eqk;refine TS.lt_two (e1:=u0 d1 d2) (e2:=true) (b1:=HT.lexLt (C6 d1) (C6 d2)) (b2:=false) ⟨o,kk _ _ g,c,n,dd⟩ ⟨o',kk _ _ g',c',n',zh⟩ rfl (DI L hv2' (by have:=EF N;lia)) (λ_=>TS.oneLt_tup t1 t2 ia1 ia2 (by lia)) (λeq=>?_) (λ_ z=>by cases z) ?_
    .have ed:=dF (S9 N) (S9 hp2) eq;have er:=eqk (by rw[ed]);cases er;rw[g]at g';cases g';rw[dd]at zh;injection zh with e3 _;have e4:=iu aFM e3;simp only[aFP]at e4;rw[e4.2.1];exact aDY _
    .cases z:u0 d1 d2 with
     |false=>exact qq
     |true=>have ed:=dF (S9 N) (S9 hp2) z;rw[ed,TS.lex_irrefl]at qq;exact qq
   .subst U;have kk:∀b o,J.heap.get? b=some o->s6.heap.get? b=some o:=λb o e=>k6 b o (k b o e);have sg:∀x∈m,∃p,∃b B,x=.ref b/\IsTup s6.heap b B/\B[0]?=some p/\s6.TypeIs p "tuple":=λx hx=>by obtain⟨i,d,hi,Y,fv⟩:=t x hx;obtain⟨b,p1,r1,d1,rfl,⟨o,g,c,n,dd⟩,N,hv1,e1⟩:=fv;have L:HV s6.heap p1 d1:=hv1.keeps λb o e _=>kk b o e;obtain⟨c1,i1,rfl,⟨o1,g1,cc1,_⟩,ia1⟩:=aD N L;exact⟨_,b,_,rfl,⟨o,kk _ _ g,c,n,dd⟩,rfl,⟨o1,g1,cc1⟩⟩
    obtain⟨gf,hgf⟩:∃gf:av->av,∀x∈m,∃b B,x=.ref b/\IsTup s6.heap b B/\B[0]?=some (gf x)/\s6.TypeIs (gf x) "tuple":=by refine⟨λx=>open Classical in if z:x∈m then(sg x z).choose else .none,λx hx=>?_⟩;dsimp only;rw[dif_pos hx];exact(sg x hx).choose_spec
    exact TS.kind_tuples (T:= "tuple") gf hgf (λz=>by rw[z]at h2;simp at h2) (by decide) qq
   .subst U;obtain⟨sr,p2,kh⟩:=cH pm st;have hk:∀u d,(∃v,RelV v u/\Rep X.K H1 O v d)->d∈r->GT J.heap u=R9 d:=by rintro u d ⟨v,rv,rp⟩ Y;exact iE (LX I1 rp (fc d Y) rv)
    have xt:(sr.map R9).Nodup:=(p2.map R9).nodup_iff.mpr nd;have srt2:uH R9 sr:=SB (R:=λu d=>∃v,RelV v u/\Rep X.K H1 O v d) kh srt xt λu d h Y=>hk u d h (p2.mem_iff.mp Y);have e2:sr=nK R9 r:=jG srt2 (jY nd) (p2.trans (V0 R9 r).symm);subst e2;obtain⟨wv,rh,qc⟩:=y9.ac8 kh;have I2':=I1.kept (h':=h1) (t':=J.toks) k;have I3:=I2'.laid (a:=l) (o:=.lst wv) (h':=h') (t':=J.toks) k2 hl ⟨by rw[qc.length,(V0 R9 r).length_eq];exact aAq zl (by decide),il,n,rh,gl⟩;exact⟨.ref l,_,I3,rfl,q wv _ l sm (I2'.hok.fresh hl) qc⟩
  .rw[ic hc]at q;exact q.elim
end
end
section
variable [Tabs]
section
def NE (K:jb)(mg:W6)(x:Str)(ns:List Int):Prop:=∃a d b n e,mg x=some (.ref a)/\K.lookup a=some ⟨.type "tuple",d,.seq b n,e⟩/\l4 (ns.map V.int) b.toList/\b.size<=sizeLine
omit [Tabs]in
def XQ {K:jb}{mg:W6}{x:Str}{a:bp}{dd:Option bp}{n:Nat}{sl:Array (Option av)}{i j k:Int}{t u v:Tok}(b:mg x=some (.ref a))(d:K.lookup a=some ⟨.type "tuple",dd,.seq #[.int i t,.int j u,.int k v] n,sl⟩):NE K mg x [i,j,k]:=
 ⟨a,dd,_,n,sl,b,d,.cons ⟨t,rfl⟩ (.cons ⟨u,rfl⟩ (.cons ⟨v,rfl⟩ .nil)),show 3<=sizeLine by decide⟩
def uS (c:NE X.K X.mg x ns)(b:Gl X x:=by rfl)(d:(x==jd)=false:=by decide):PD X (.Name x pos) (TV (.tup (ns.map D.int))):=by obtain⟨a,j,e,n,k,f,g,h,i⟩:=c;exact IK f g h i b d
end
section
variable{K:jb}
structure FunC (K:PySem.W.Frag)(x qual:Str)(st:Stmt)(f:Addr)(fd:FuncData)(cd:Addr):Prop where
 ex:∃(oc:Value) (od:Option Addr) (kV doc pm:Value) (an:Option Addr) (ct:Value) (osl:Array (Option Value)),
  fd=PySem.W.fnOf x qual (E9 st) (p5 st) (c6 st) .none kV doc pm an (.ref cd) ct/\K.lookup f=some ⟨oc,od,.func fd,osl⟩/\PySem.W.codeIn K (.ref cd) qual=true
 kp:PySem.W.keepIn K (.ref f)=true
omit [Tabs]in
def FunC.fn {x qual:Str}{st:dm}{f:bp}{fd:dA}{cd:bp}(F:FunC K x qual st f fd cd):Fun K x qual st f fd:=
 let⟨d,e,kV,a,g,h,i,b,j,k,l⟩:=F.ex
 ⟨⟨d,e,kV,a,g,h,.ref cd,i,b,j,k,l⟩,F.kp⟩
omit [Tabs]in
def SX {x qual:Str}{st:dm}{f cd:bp}{h:av}{i d:Option bp}{b:Array (Option av)}{kV a g U ct:av}(l:K.lookup f=some ⟨h,i,.func (PySem.W.fnOf x qual (E9 st) (p5 st) (c6 st) .none kV a g d U ct),b⟩)
  (e:U=.ref cd) (c:PySem.W.codeIn K U qual=true) (k:PySem.W.keepIn K (.ref f)=true):FunC K x qual st f (PySem.W.fnOf x qual (E9 st) (p5 st) (c6 st) .none kV a g d U ct) cd:=by
 subst e;exact⟨⟨h,i,kV,a,g,d,ct,b,rfl,l,c⟩,k⟩
def a1e {x qual:Str}{st:dm}{f cd:bp}{fd:dA}{N ps:List Str}{k:Nat}{m:List D->R D}{F:Ev->R Out}(j:FunC K x qual st f fd cd)(S:FnScope N ps (c6 st))
  (l:∀(A:cq) (a:List Env) (s:bb) (H:Hp) (E:XK),Room k (A.deeper (envOfC qual (c6 st) s.heap.objs.size f (.ref cd)))->Y0 (TX P w K mg base N qual (c6 st) f (.ref cd) A a s H E) (p5 st) F)
  (n:∀ds d,ds.length=ps.length->m ds=.ok d->M9 (F (j4 N ds))=.ok d):FnOk P w K mg base tW (k+1) f fd ps (az K ps.length m):=by
 obtain⟨U,Y,kV,p,pm,an,ct,t,rfl,lk,u⟩:=j.ex;refine OA lk u S (by rintro v H Q E ⟨O,ds,d,r,g,_⟩;rw[r.length];exact g) λA a s H v Q E y z=>?_;obtain⟨O,ds,d,r,g,B,C,I,e,q⟩:=z;refine⟨_,uR.nox (l A a s H E y H O),O,_,jS r B C,I,?_⟩;have h:=n ds d g e;cases i:F (j4 N ds)with
 |ok o=>
  rw[i]at h;cases o with
  |rt J=>have b:R.ok J=R.ok d:=h;injection b with b;subst b;exact q
  |nx ρ=>have b:R.ok D.non=R.ok d:=h;injection b with b;subst b;exactλah L O' T _ _=>q .non L T.same .non
  |bk ρ=>cases h
  |ct ρ=>cases h
 |ex x=>rw[i]at h;cases h
 |bad=>rw[i]at h;cases h
def SE {x qual:Str}{st:dm}{f cd:bp}{fd:dA}{N ps:List Str}{k:Nat}{m:List D->R D}{F:Ev->R Out}(b:FunC K x qual st f fd cd)(S:FnScope N ps (c6 st))(e:Binds K fd ps [])(g:mg x=some (.ref f))
  (h:∀(A:cq) (a:List Env) (s:bb) (H:Hp) (E:XK),Room k (A.deeper (envOfC qual (c6 st) s.heap.objs.size f (.ref cd)))->Y0 (TX P w K mg base N qual (c6 st) f (.ref cd) A a s H E) (p5 st) F)
  (i:∀ds d,ds.length=ps.length->m ds=.ok d->M9 (F (j4 N ds))=.ok d):v9 P w K mg base (k+1) x ps.length m:=
 ⟨f,fd,ps,a1e b S h i,e,b.kp,g⟩
def SG (P:cp)(w:cu)(K:jb)(mg:W6)(base:cy)(k d:Nat)(x:Str)(M:D->(List D->R D)->(List D->R D)->R D):Prop:=
 ∃g b a,FnOk P w K mg base tW k g b a (yq K (JB P w K mg base d 1) M)/\Binds K b a []/\PySem.W.keepIn K (.ref g)=true/\mg x=some (.ref g)/\a.length=3
def UA {x qual:Str}{st:dm}{f:bp}{fd:dA}{N ps:List Str}{k b:Nat}{M:D->(List D->R D)->(List D->R D)->R D}{F:Ev->R Out}(e:Fun K x qual st f fd)(S:FnScope N ps (c6 st))(g:ps.length=3)(l:Binds K fd ps [])(m:mg x=some (.ref f))
  (n:∀(U:av) (A:cq) (a:List Env) (s:bb) (H:Hp) (E:XK),Room k (A.deeper (envOfC qual (c6 st) s.heap.objs.size f U))->Y0 (TX P w K mg base N qual (c6 st) f U A a s H E) (p5 st) F)
  (o:∀h i j d,M h i j=.ok d->M9 (F (iU N (JB P w K mg base b 1) h i j))=.ok d):SG P w K mg base (k+1) b x M:=
 ⟨f,fd,ps,fnF e S g n o,l,e.kp,m,g⟩
end
section
def yB (i:Nat){Φ:(List D->R D)->Hp->(bp->Prop)->bp->Prop}(a:JB X.prog X.w X.K X.mg X.base k n=Φ)(b:AH X (e::es) f)(d:yF f n)(g:Room k X.A)(h:X.N[i]?=some x:=by rfl)(j:tE X.env.scope x:=by first|exact aCs rfl|exact aBC (aCs rfl)|exact aBC (aBC rfl))(l:(x==jd)=false:=by decide)(m:(x==ka)=false:=by decide)(o:a9 (e::es) X.env=(false,dq e X.env)::a9 es X.env:=by rfl)(q:(cz pos (a9 es X.env)).any (·.1)=false:=by rfl):
  PD X (.Call (.Name x p) (e::es) [] pos) (callC Φ i f):=by
 subst a;exact JH i b d g h j l m o q
def CW (q:NstOk X k n1)(r:NstOk X k n2)(s:ClosOk X n1 clos1)(t:ClosOk X n2 clos2)(u:∀x b,(x,b)∈clos1++clos2->X.env.cells.lookup x=some b)(v:gU X.mg X.base)(z:X.env.code=.ref c)(B:PySem.W.codeHdIn X.K c C=true)(j:(C,tb)∈Tabs.tbs)(l:(n1.pos,n1.qual)∈tb)(E:(n2.pos,n2.qual)∈tb)(H:∀p∈tb,p.1.line=n1.pos.line->p.1.col=n1.pos.col->p.2=n1.qual)(m:∀p∈tb,p.1.line=n2.pos.line->p.1.col=n2.pos.col->p.2=n2.qual)(I:n1.i≠n2.i)(J:X.N.Nodup)(L:SG X.prog X.w X.K X.mg X.base O (k+1) x M)(Q:Room O X.A)(T:PD X e f)(U:∀y,X.fn y=true)(Y:Gl X x:=by rfl)(dc:(x==jd)=false:=by decide)(zb:a9 [e,.Name n1.name h,.Name n2.name a] X.env=(false,dq e X.env)::a9 [.Name n1.name h,.Name n2.name a] X.env:=by rfl)(zg:a9 [.Name n1.name h,.Name n2.name a] X.env=(false,dq (.Name n1.name h) X.env)::a9 [.Name n2.name a] X.env:=by rfl)(n:a9 [.Name n2.name a] X.env=(false,dq (.Name n2.name a) X.env)::a9 [] X.env:=by rfl)(bg:(cz pos (a9 [.Name n1.name h,.Name n2.name a] X.env)).any (·.1)=false:=by rfl):
  Y0 X [n1.stmt,n2.stmt,.Return (some (.Call (.Name x p) [e,.Name n1.name h,.Name n2.name a] [] pos)) o] (λρ=>((f ((ρ.set n1.i .no).set n2.i .no)).bind λd1=>(cB n1.js ((ρ.set n1.i .no).set n2.i .no)).bind λw1=>(cB n2.js ((ρ.set n1.i .no).set n2.i .no)).bind λw2=>M d1 (n1.mm w1) (n2.mm w2)).bind λd=>.ok (.rt d)):=by
 obtain⟨g,gd,ps,FF,hb,hk,hm,h3⟩:=L;exact IE q r s t u v z B j l E H m I J FF Q hm hk hb h3 T U Y dc zb zg n bg
end
end
end DL
namespace DL
open PySem L2
def _root_.L2.Room.ae9 (r:Room k A):A.units+130<dy:=by have:=r.un;lia
def _root_.L2.Room.ae7 (r:Room k A)(h:7<=k):A.units+300<dy:=by have:=r.un;lia
def GF {y:Str}{d:bp}{a:List (Str×bp)}(h:a.lookup y=some d:=by rfl):∀(x:Str) (b:bp),(x,b)∈[(y,d)]++[(y,d)]->a.lookup x=some b:=λx b e=>by
 have:(x,b)=(y,d):=by simpa using e
 injection this with f g;subst f g;exact h
def ES {sc:gW}{fn:List Str}{x:Str}(h:sc.names.lookup x=some .free)(a:(sc.names.all λp=>p.2 !=.free||fn.contains p.1)=true:=by decide+kernel):x∈fn:=by have b:=aCf.mp a _ (PySem.mem_of_lookup h);simpa using b
def DE:dm->Pos
 |.FunctionDef _ _ _ _ _ _ _ _ _ p=>p
 |_=>⟨0,0,0,0⟩
end DL
namespace M
open PySem L2 DL
def xE:D->Option G.V
 |.tup [.int a,.int b,.int c]=>some ⟨a,b,c⟩
 |_=>none
@[simp]def EA (v:G.V):xE (vd v)=some v:=rfl
def II (h:xE d=some v):d=vd v:=by
 unfold xE at h;split at h
 .cases h;rfl
 .cases h
def D6:List D->Option (List G.V)
 |[]=>some []
 |d::a=>match xE d,D6 a with
  |some v,some b=>some (v::b)
  |_,_=>none
@[simp]theorem t5:∀vs:List G.V,D6 (vs.map vd)=some vs
 |[]=>rfl
 |v::vs=>by rw[aAp,D6,EA,t5 vs]
theorem m9:∀{ds:List D} {vs:List G.V},D6 ds=some vs->ds=vs.map vd
 |[],vs,h=>by cases h;rfl
 |d::ds,vs,h=>by
  unfold D6 at h;split at h
  .rename_i v e a b;cases h;rw[II a,m9 b];rfl
  .cases h
def oG (h:vd u=vd v):u=v:=by
 have:xE (vd u)=xE (vd v):=by rw[h]
 simpa using this
def X8 (n:Nat)(j:List G.V):Prop:=(∀P∈j,Sz n P)/\j.length<=1000
def CA:Option G.V->D
 |some v=>vd v
 |none=>.non
def A1:List D->R D
 |[.lst Y]=>match D6 Y with
  |some a=>.ok (CA (G.A6 a))
  |none=>.bad
 |_=>.bad
open Classical in
def m6:List D->R D
 |[.lst Y]=>match D6 Y with
  |some j=>if j≠[]/\X8 1000 j then .ok (.int (G.t9 j))else .bad
  |none=>.bad
 |_=>.bad
open Classical in
def B4:List D->R D
 |[.lst Y]=>match D6 Y with
  |some j=>if X8 1000 j/\G.t9 j=3 then .ok .non else .bad
  |none=>.bad
 |_=>.bad
open Classical in
def z7:List D->R D:=v4 λa b c d=>zG λY=>iO (match D6 Y with
 |some j=>if Sz 10000 ⟨a,b,c⟩/\X8 1000 j then .ok (.lst ((G.w6 ⟨a,b,c⟩ d j).map vd))else .bad
 |none=>.bad)
open Classical in
def D9:List D->R D:=QH λN=>zG λY=>iO ((v1 λa b c=>v1 λd e f=>iO (match D6 Y with
 |some j=>if Sz 1000 ⟨a,b,c⟩/\Sz 1000 ⟨d,e,f⟩/\X8 1000 j/\G.cM (G.b8 ⟨a,b,c⟩ ⟨d,e,f⟩ j).1 then .ok (vY (G.b8 ⟨a,b,c⟩ ⟨d,e,f⟩ j).1 (G.b8 ⟨a,b,c⟩ ⟨d,e,f⟩ j).2)else .bad
 |none=>.bad)) N)
abbrev G5 (p:G.V×G.V):D:=.tup [vd p.1,vd p.2]
structure Land (j:List G.V)(m:G.V):Prop where
 good:G.Good j m
 sz:X8 900 j
 few:j.length<=63
 head:j.head?=some m
open Classical in
def G6:List D->R D
 |[.lst Y]=>match D6 Y with
  |some (m::j)=>if Land (m::j) m then .ok (G5 (G.f9 m (m::j)))else .bad
  |_=>.bad
 |_=>.bad
open Classical in
def cV:List D->R D:=v1 λa b c=>v1 λd e f=>v1 λg h i=>v1 λj k l=>iO (
 if Sz 10000 ⟨a,b,c⟩/\Sz 1000 ⟨d,e,f⟩/\Sz 1000 ⟨g,h,i⟩/\Sz 1000 ⟨j,k,l⟩then .ok (.int (G.turn ⟨a,b,c⟩ ⟨d,e,f⟩ ⟨g,h,i⟩ ⟨j,k,l⟩))else .bad)
open Classical in
def T4:List D->R D:=v1 λa b c=>zG λY=>iO (match D6 Y with
 |some j=>if Sz 10000 ⟨a,b,c⟩/\X8 1000 j then .ok (.lst ((G.v5 ⟨a,b,c⟩ j).reverse.map vd))else .bad
 |none=>.bad)
open Classical in
def O9:List D->R D:=v1 λa b c=>zG λY=>iO (match D6 Y with
 |some j=>if Sz 10000 ⟨a,b,c⟩/\X8 1000 j then .ok (.lst ((G.t6 ⟨a,b,c⟩ j).map vd))else .bad
 |none=>.bad)
def z6:List D->R D
 |[.lst Y]=>match D6 Y with
  |some j=>if j.length<=3000 then .ok (.lst ((G.W5 j).map G5))else .bad
  |none=>.bad
 |_=>.bad
abbrev l7 (j:List G.V)(f:G.V×Int):D:=.tup [vY f.1 f.2,.lst ((G.f8 j f).map vd)]
def fU (j:List G.V)(fs:List (G.V×Int)):Prop:=(∀f,f∈fs↔G.IsFace j f.1 f.2)/\uH R9 (fs.map<|l7 j)
open Classical in
def B6 (j:List G.V):List (G.V×Int):=if h:∃fs,fU j fs then h.choose else[]
def LU (l:List G.V):Prop:=l.length<=60/\∀fs:List (G.V×Int),(∀f,f∈fs↔G.IsFace l f.1 f.2)->fs.Nodup->fs.length<=63
def J9:List D->List D->R D
 |[w],[_]=>.ok w
 |_,_=>.bad
def D2:List D->List D->R D
 |[w],[p]=>z7 [p,w]
 |_,_=>.bad
open Classical in
def G9 (d:D) (a b:List D->R D):R D:=match a [.non]with
 |.ok (.lst Y)=>match D6 Y with
  |some (m::j)=>if Land (m::j) m/\LU (m::j)/\d=G5 (G.f9 m (m::j))/\a=J9 [.lst Y]/\b=D2 [.lst Y]then .ok (.lst ((B6 (m::j)).map (l7 (m::j))))else .bad
  |_=>.bad
 |_=>.bad
def l6 (j:List G.V):List G.V:=(bJ<|j.map vd).filterMap xE
open Classical in
def K5:List D->R D
 |[.lst Y]=>match D6 Y with
  |some j=>if X8 900 j/\G.k8 j/\LU (l6 j)then .ok (.lst ((B6 (l6 j)).map (l7 (l6 j))))else .bad
  |none=>.bad
 |_=>.bad
def YX:D->Option (List G.V)
 |.tup [_,.lst Y]=>D6 Y
 |_=>none
def rK:List D->Option (List (List G.V))
 |[]=>some []
 |d::a=>match YX d,rK a with
  |some v,some b=>some (v::b)
  |_,_=>none
open Classical in
def C7:List D->R D
 |[.lst Y]=>match rK Y with
  |some a=>if a.flatten.length<=3000/\(l6 a.flatten).length<=63 then .ok (.lst ((l6 a.flatten).map vd))else .bad
  |none=>.bad
 |_=>.bad
def EU (j:List G.V):List G.V:=l6 ((B6<|l6 j).flatMap (G.f8<|l6 j))
open Classical in
def N7:List D->R D
 |[.lst Y]=>match D6 Y with
  |some j=>if X8 900 j/\G.k8 j/\LU (l6 j)then .ok (.lst ((EU j).map vd))else .bad
  |none=>.bad
 |_=>.bad
def ne0 (v:G.V):yA (vd v) (.tup [.int 0,.int 0,.int 0])=.ok (.bl (!decide (v=0))):=by rw[zW];congr 3;rw[aDX];simp only[aAF,beq_iff_eq,decide_eq_true_eq,G.mY];exact⟨λh=>h,λh=>h⟩
def eq0 (v:G.V):AX (vd v) (.tup [.int 0,.int 0,.int 0])=.ok (.bl (decide (v=0))):=by rw[YF];congr 2;rw[aDX];simp only[aAF,beq_iff_eq,decide_eq_true_eq,G.mY];exact⟨λh=>h,λh=>h⟩
def S8 (a:G d ρ=.ok ρ1)(b:F ρ1=.ok (.nx ρ2)):T9 G F (d::ds) ρ=T9 G F ds ρ2:=by rw[T9,a];dsimp only;rw[b]
def tY (a:G d ρ=.ok ρ1)(b:F ρ1=.ok (.rt x)):T9 G F (d::ds) ρ=.ok (.rt x):=by rw[T9,a];dsimp only;rw[b]
theorem cZ {α:Type}(rep:α->D)(p:α->Bool)(g:α->D):∀(l:List α),(∀a∈l,∃ρ1,G (rep a) ρ=.ok ρ1/\ft ρ1=.ok (p a)/\(p a=true->fe ρ1=.ok (g a)))->A0 G ft fe ρ (l.map rep)=.ok ((l.filter p).map g)
 |[],_=>rfl
 |a::l,h=>by
  obtain⟨ρ1,e,f,i⟩:=h a (.head _);have j:=cZ rep p g l λb k=>h b (.tail _ k);rw[aAp,A0,e];dsimp only;rw[f,R.aa0,j];cases d:p a with
  |false=>rw[ic (by decide),aDd (by simp[d])]
  |true=>rw[h9 rfl,i d,R.aa0,R.aa0,aDc d];rfl
def dE {α:Type}(rep:α->D)(g:α->D)(l:List α)(h:∀a∈l,∃ρ1,G (rep a) ρ=.ok ρ1/\fe ρ1=.ok (g a)):A0 G (λ_=>.ok true) fe ρ (l.map rep)=.ok (l.map g):=by
 have:=cZ rep (G:=G) (ft:=λ_=>.ok true) (fe:=fe) (ρ:=ρ) (λ_=>true) g l λa b=>let⟨ρ1,d,e⟩:=h a b;⟨ρ1,d,rfl,λ_=>e⟩
 rw[this,List.filter_eq_self.mpr λ_ _=>rfl]
def small (h:n<=1000):n<=sizeLine:=aAq h (by decide)
def NF (h:n<=3000):n<=sizeLine:=aAq h (by decide)
def X8.sub (h:X8 n j)(b:∀P∈a,P∈j)(d:a.length<=j.length):X8 n a:=⟨λP e=>h.1 P (b P e),aAq d h.2⟩
def X8.mono (h:X8 m j)(a:m<=n:=by decide):X8 n j:=⟨λP b=>(h.1 P b).mono a,h.2⟩
def a1u (t:Int):(sgn t==0)=decide (t=0):=by
 unfold sgn;by_cases h:0<t
 .rw[h9 h];simp;lia
 .rw[ic h];by_cases a:t<0
  .rw[h9 a];simp;lia
  .rw[ic a];simp;lia
def iF (a:Sz 10000 n)(b:X8 1000 j):z7 [vY n d,.lst (j.map vd)]=.ok (.lst ((G.w6 n d j).map vd)):=by simp only[z7,v4,QH,oV,zG,iO,t5];exact h9 ⟨a,b⟩
def KU (a:j≠[])(b:X8 1000 j):m6 [.lst (j.map vd)]=.ok (.int (G.t9 j)):=by simp only[m6,t5];exact h9 ⟨a,b⟩
def AE (ws:List G.V):A1 [.lst (ws.map vd)]=.ok (CA (G.A6 ws)):=by simp only[A1,t5]
def AO (bs:List Bool):cP (bs.map D.bl)=some bs:=by
 induction bs with
 |nil=>rfl
 |cons b bs a=>rw[aAp,cP,a];rfl
def XR (bs:List Bool):anyR [.lst (bs.map D.bl)]=.ok (.bl (bs.any id)):=by simp only[anyR,AO]
def SJ (Y:List D):EM (.lst Y) none (some (-1))=.ok (.lst Y.dropLast):=by
 show R.ok (D.lst<|cutD Y none<|some (-1))=_;unfold cutD HT.sIx;rw[aEo];simp;congr 1
 lia
def QK (Y:List D):EM (.lst Y) (some 1) none=.ok (.lst Y.tail):=by
 show R.ok (D.lst<|cutD Y (some 1) none)=_;unfold cutD HT.sIx;cases Y with
 |nil=>rfl
 |cons a l=>simp
def XS (Y:List D):EM (.lst Y) none (some 1)=.ok (.lst (Y.take 1)):=by
 show R.ok (D.lst<|cutD Y none<|some 1)=_;unfold cutD HT.sIx;cases Y with
 |nil=>rfl
 |cons a l=>simp
def UR (Y:List D)(a b:D):nQ (Y++[a,b]) (-1)=some b:=by
 have d:(Y++[a,b]).length=Y.length+2:=by simp
 unfold nQ zH;rw[d,ic (by decide),h9 (by lia)];show(Y++[a,b])[((-1:Int)+((Y.length+2:Nat):Int)).toNat]?=_;have:((-1:Int)+((Y.length+2:Nat):Int)).toNat=Y.length+1:=by lia
 rw[this,aAA (by lia),show Y.length+1-Y.length=1 by lia];rfl
def US (Y:List D)(a b:D):nQ (Y++[a,b]) (-2)=some a:=by
 have d:(Y++[a,b]).length=Y.length+2:=by simp
 unfold nQ zH;rw[d,ic (by decide),h9 (by lia)];show(Y++[a,b])[((-2:Int)+((Y.length+2:Nat):Int)).toNat]?=_;have:((-2:Int)+((Y.length+2:Nat):Int)).toNat=Y.length:=by lia
 rw[this,aAA (by lia),Nat.sub_self];rfl
def iw (a:D)(Y:List D):nQ (a::Y) 0=some a:=by rw[aJ (by decide)];rfl
def fy (a b:D)(Y:List D):nQ (a::b::Y) 1=some b:=by rw[aJ (by decide)];rfl
def RO {P Q R:G.V}(h:G.cM (G.j7 P Q R).1):G.cr (Q-P) (R-P)≠0:=λe=>by
 have:(G.j7 P Q R).1=0:=by show G.jU (G.cr (Q-P)<|R-P) _=0;rw[e];rfl
 rw[this]at h;unfold G.cM at h;exact absurd h (by decide)
theorem zE:∀{c:List G.V},(G.W2 n P c).length<=c.length
 |[]=>aAi _
 |[a]=>aAi _
 |b::a::r=>by
  unfold G.W2;split
  .exact aAq (zE (c:=a::r)) (by simp)
  .exact aAi _
theorem nT:∀(a c:List G.V),(a.foldl (λc P=>P::G.W2 n P c) c).length<=a.length+c.length
 |[],c=>by simp
 |P::a,c=>by refine aAq (nT a _) ?_;have:=zE (n:=n) (P:=P) (c:=c);simp;lia
def rT (n:G.V)(ps:List G.V):(G.v5 n ps).length<=ps.length:=by simpa[G.v5]using nT (n:=n) ps []
theorem rJ {α β:Type}(f:α->D):∀(Y N:List α),jJ (Y.map f) (N.map f)=(Y.zip N).map λp=>D.tup [f p.1,f p.2]
 |[],_=>by simp[jJ]
 |_::_,[]=>by simp[jJ]
 |x::Y,y::N=>by have:=rJ (β:=β) f Y N;simp only[jJ]at this⊢;simp[this]
def UU (a:Sz 10000 n)(b:X8 1000 j):T4 [vd n,.lst (j.map vd)]=.ok (.lst ((G.v5 n j).reverse.map vd)):=by simp only[T4,v1,QH,oV,zG,iO,t5];exact h9 ⟨a,b⟩
def DZ {n P Q R:G.V}(h:Sz 10000 n)(a:Sz 1000 P)(b:Sz 1000 Q)(d:Sz 1000 R):cV [vd n,vd P,vd Q,vd R]=.ok (.int (G.turn n P Q R)):=h9 ⟨h,a,b,d⟩
def V2 (a:Sz 1000 A)(b:Sz 1000 B)(d:X8 1000 j)(e:G.cM (G.b8 A B j).1):D9 [.tup [vd A,vd B],.lst (j.map vd)]=.ok (vY (G.b8 A B j).1 (G.b8 A B j).2):=by simp only[D9,v1,QH,oV,zG,iO,t5];exact h9 ⟨a,b,d,e⟩
def QO (a:Sz 10000 n)(b:X8 1000 j):O9 [vd n,.lst (j.map vd)]=.ok (.lst ((G.t6 n j).map vd)):=by simp only[O9,v1,QH,oV,zG,iO,t5];exact h9 ⟨a,b⟩
def LZ (h:j.length<=3000):z6 [.lst (j.map vd)]=.ok (.lst ((G.W5 j).map G5)):=by simp only[z6,t5];exact h9 h
def FG (h:a.length+b.length<=sizeLine):yE (.lst a) (.lst b)=.ok (.lst (a++b)):=h9 h
def LM (a b:G.V):HT.lexLt (C6 (vd a)) (C6 (vd b))=true↔G.i3 (b-a):=by
 show HT.lexLt [a.x,a.y,a.z] [b.x,b.y,b.z]=true↔_;unfold G.i3;simp only[HT.lexLt,G.JC,G.PU,G.JT];by_cases d:a.x=b.x
 .by_cases e:a.y=b.y
  .by_cases f:a.z=b.z
   .simp[d,e,f]
   .simp[d,e,f];try lia
  .simp[d,e];try lia
 .simp[d];try lia
def ZK {j:List G.V}(h:j.Pairwise λa b=>G.i3 (b-a)):QB (j.map vd):=aBS.mpr (h.imp λ{a b} q=>(LM a b).mpr q)
def YO {j:List G.V}(h:QB (j.map vd)):j.Pairwise λa b=>G.i3 (b-a):=(aBS.mp h).imp λ{a b} q=>(LM a b).mp q
def KD (j:List G.V):(j.map vd).all bK=true:=aCf.mpr λd a=>by obtain⟨v,_,rfl⟩:=aAo.mp a;rfl
def WI [Tabs]{m:G.V}{j:List G.V}(h:(m::j).Pairwise λa b=>G.i3 (b-a)):LO [.lst ((m::j).map vd)]=.ok (vd m):=by show(if(m::j).map vd≠[]/\((m::j).map vd).all bK=true then _ else _)=_;rw[h9 ⟨by simp,KD _⟩,QY (ZK h) _ (by simp)];rfl
def IP {k:Nat}{P Q R:G.V}(p:Sz k P)(q:Sz k Q)(r:Sz k R):Sz (k+1+(k+1)+1) (G.j7 P Q R).1:=by
 have a:=(q.sub p).cr (r.sub p);by_cases d:G.cr (Q-P) (R-P)=0
 .have:(G.j7 P Q R).1=0:=by show G.jU (G.cr (Q-P)<|R-P) _=0;rw[d];rfl
  rw[this];exact⟨aAG _,aAG _,aAG _⟩
 .obtain⟨h,i,j⟩:=G.jM d;have e:=bits_fdiv (b:=(G.x9 (G.cr (Q-P)<|R-P):Int)) a.1;have f:=bits_fdiv (b:=(G.x9 (G.cr (Q-P)<|R-P):Int)) a.2.1;have g:=bits_fdiv (b:=(G.x9 (G.cr (Q-P)<|R-P):Int)) a.2.2;rw[mU h]at e f g;exact⟨e,f,g⟩
def wH {P Q R:G.V}(p:Sz 1000 P)(q:Sz 1000 Q)(r:Sz 1000 R):Sz 2003 (G.j7 P Q R).1:=IP p q r
def vW {A B:G.V}{j:List G.V}(p:Sz 1000 A)(q:Sz 1000 B)(r:X8 1000 j):Sz 2003 (G.b8 A B j).1:=by
 unfold G.b8;rcases G.iX (a:=B-A) (A:=A) j 0 A with h|h
 .exact wH p q (r.1 _ h)
 .rw[h];exact wH p q p
def nj (m:G.V):vd (m+G.kk)=.tup [.int m.x,.int m.y,.int (m.z+1)]:=by simp[G.kk]
def OU (h:Sz 900 m):Sz 1000 (m+G.kk):=(h.add (v:=G.kk) ⟨by decide,by decide,by decide⟩).mono
def OJ (h:X8 k j):X8 k (G.w6 n d j):=h.sub (λP a=>(G.c8.mp a).1) (aDr _ _)
def NW {α:Type}{l:List α}{a b:α}(d:a∈l)(e:b∈l)(h:a≠b):∃x y r,l=x::y::r:=by
 match l,d,e with
 |[x],d,e=>exact absurd ((aAZ.mp d).trans (aAZ.mp e).symm) h
 |x::y::r,_,_=>exact⟨x,y,r,rfl⟩
open Classical in
def JK {J:List (D×D)}{k v a:D}:a∈(dW J k v).map (·.1)↔a∈J.map (·.1)\/a=k:=by
 unfold dW;split
 .rename_i h;rw[aBJ];have:((λx=>x.1)∘λp:D×D=>if p.1=k then(p.1,v)else p)=λp=>p.1:=by funext p;simp only[Function.comp];split<;>rfl
  rw[this];exact⟨.inl,λq=>q.elim id λe=>by rw[e];exact h⟩
 .rw[aBO,aAX];simp
def LY {J:List (D×D)}{k v:D}:(dW J k v).length<=J.length+1:=by
 unfold dW;split
 .simp
 .simp
def QS {p q:G.V×G.V}(h:G5 p=G5 q):p=q:=by injection h with h;injection h with b a;injection a with a _;exact aFQ (oG b) (oG a)
def CZ (p:G.V×G.V):R6 7 (G5 p)=true/\GL (G5 p)=true:=⟨rfl,rfl⟩
def ffC:Ev->R Bool:=λρ=>((((vS 5 ρ).bind λd=>R.ok [d]).bind GZ).bind λx=>VE x (D.int 0)).bind CI
def ffS:Ev->R Out:=λρ=>
 B8 ((bW 9 ρ).bind λa=>yW 4 ρ a (D.bl true)) λρ=>((((vS 9 ρ).bind λx=>X3 x (D.int 1)).bind λd=>(((vS 9 ρ).bind λx=>X3 x (D.int 0)).bind λd=>R.ok [d]).bind λb=>R.ok (d::b)).bind qD).bind (uL 5 ρ)
theorem EW {a0 a1 a2 a3 a6 a7 a8:Sl}:∀(a:List (G.V×G.V)) (J:List (D×D)) (W:List (G.V×G.V)) (g:Sl),J.length+a.length<=10000->W.length+a.length<=10000->
  ∃f b,T9 (λd ρ=>R.ok (aEb ρ 9 (Sl.v d))) ffS (a.map G5) [a0,a1,a2,a3,.d J,.o (W.map G5),a6,a7,a8,g]=.ok (.nx [a0,a1,a2,a3,.d f,.o ((W++a.map λq=>(q.2,q.1)).map G5),a6,a7,a8,b])/\
   (∀e:G.V×G.V,G5 e∈f.map (·.1)↔G5 e∈J.map (·.1)\/e∈a)/\f.length<=J.length+a.length
 |[],J,W,g,_,_=>⟨J,g,by simp,λe=>by simp,by simp⟩
 |q::a,J,W,g,i,j=>by
  simp only[aAv]at i j;have u:=LY (J:=J) (k:=G5 q) (v:=.bl true);obtain⟨f,b,e,m,l⟩:=EW a (dW J (G5 q)<|.bl true) (W++[(q.2,q.1)]) (.v (G5 q)) (by lia) (by simp;lia);refine⟨f,b,?_,λx=>?_,by simp;lia⟩
  .rw[aAp];refine(S8 (ρ2:=[a0,a1,a2,a3,.d (dW J (G5 q)<|.bl true),.o ((W++[(q.2,q.1)]).map G5),a6,a7,a8,.v (G5 q)]) rfl ?_).trans ?_
   .have n:J.length<=sizeLine:=aAq (show J.length<=10000 by lia) (by decide);have p:(W.map G5).length<sizeLine:=by rw[aAh];exact aCq (show W.length<=10000 by lia) (by decide)
    have r:yW 4 [a0,a1,a2,a3,.d J,.o (W.map G5),a6,a7,a8,.v (G5 q)] (G5 q) (.bl true)=.ok (.nx [a0,a1,a2,a3,.d (dW J (G5 q)<|.bl true),.o (W.map G5),a6,a7,a8,.v (G5 q)]):=by show(if _ then _ else _)=_;rw[h9 ⟨(CZ q).1,(CZ q).2,n⟩];rfl
    have s:uL 5 [a0,a1,a2,a3,.d (dW J (G5 q)<|.bl true),.o (W.map G5),a6,a7,a8,.v (G5 q)] (G5 (q.2,q.1))=.ok (.nx [a0,a1,a2,a3,.d (dW J (G5 q)<|.bl true),.o ((W++[(q.2,q.1)]).map G5),a6,a7,a8,.v (G5 q)]):=by show(if _ then _ else _)=_;rw[h9 p,aBO];rfl
    show B8 ((R.ok<|G5 q).bind λt=>yW 4 [a0,a1,a2,a3,.d J,.o (W.map G5),a6,a7,a8,.v (G5 q)] t (D.bl true)) _=_;rw[R.aa0,r];exact s
   .rw[e];simp
  .rw[m x,JK,aAd];constructor
   .rintro((h|h)|h)
    .exact .inl h
    .exact .inr (.inl (QS h))
    .exact .inr (.inr h)
   .rintro(h|h|h)
    .exact .inl (.inl h)
    .exact .inl (.inr (by rw[h]))
    .exact .inr h
section
variable(Φ:(List D->R D)->Hp->(bp->Prop)->bp->Prop)
def ffB:Ev->R Out:=λρ=>
 B8 ((CH 5 ρ).bind λz=>R.ok (Out.nx<|aEb z.snd 6<|Sl.v z.fst)) λρ=>
  ((bW 6 ρ).bind (oQ 4 ρ)).bind λt=>
   if t=true then
    B8
     ((((bW 6 ρ).bind λd=>((callC Φ 1 (l9 (λρ=>(vS 6 ρ).bind λx=>X3 x (D.int 0)) R3) ρ).bind λd=>R.ok [d]).bind λa=>R.ok (d::a)).bind D9).bind λd=>R.ok (Out.nx<|aEb ρ 7<|Sl.v d))
     λρ=>
     B8
      (((((vS 7 ρ).bind λx=>EM x none (some 3)).bind λd=>((callC Φ 2 (l9 (bW 7) R3) ρ).bind λd=>R.ok [d]).bind λa=>R.ok (d::a)).bind O9).bind λd=>R.ok (Out.nx<|aEb ρ 8<|Sl.v d))
      λρ=>
      B8 ((((bW 7 ρ).bind λd=>((bW 8 ρ).bind λd=>R.ok [d]).bind λa=>R.ok (d::a)).bind qD).bind (uL 3 ρ))
       λρ=>((((bW 8 ρ).bind λd=>R.ok [d]).bind z6).bind gO).bind λa=>T9 (λd ρ=>R.ok (aEb ρ 9<|Sl.v d)) ffS a ρ
   else R.ok (Out.nx ρ)
def xJ (L:D) (e:G.V×G.V) (fs:List D) (J:List (D×D)) (W:List (G.V×G.V)) (a b c d:Sl):Ev:=
 [Sl.v (G5 e),Sl.c (J9 [L]) (Φ<|J9 [L]),Sl.c (D2 [L]) (Φ<|D2 [L]),.o fs,.d J,.o (W.map G5),a,b,c,d]
end
def xY {Φ:(List D->R D)->Hp->(bp->Prop)->bp->Prop}{i:Nat}{f:Ev->R (List D)}{ρ:Ev}{m:List D->R D}{ds:List D}(h:ρ[i]?=some (.c m (Φ m)))(a:f ρ=.ok ds):callC Φ i f ρ=m ds:=by unfold callC;rw[h];dsimp only;rw[h9 rfl,a];rfl
def fV (j:List G.V)(fs:List (G.V×Int)):Nat:=(fs.map λf=>(G.f8 j f).length).sum
def dP (j:List G.V)(fs:List (G.V×Int))(f:G.V×Int):fV j (fs++[f])=fV j fs+(G.f8 j f).length:=by simp[fV]
def LK {j:List G.V}{m:G.V}(h:Land j m):Sz 1000 (G.f9 m j).1/\Sz 1000 (G.f9 m j).2:=by
 have a:Sz 900 m:=h.sz.1 m h.good.mem;obtain⟨k,e,f,g,i⟩:=G.yT h.good.solid h.good.mem h.good.least;unfold G.f9;dsimp only;split
 .exact⟨a.mono,OU a⟩
 .obtain⟨x,y,r,b⟩:=NW e g i;rw[b];have q:∀z∈x::y::r,Sz 1000 z:=λz d=>by rw[<-b]at d;exact(h.sz.1 z (G.c8.mp d).1).mono
  exact⟨q x (.head _),q y (.tail _ (.head _))⟩
def TR {j:List G.V}{m:G.V}(h:Land j m){fs:List (G.V×Int)}{b:G.V×G.V->Prop}{W:List (G.V×G.V)}(L:G.LInv j (G.f9 m j) fs b W){p:G.V×G.V}(d:p∈W):Sz 1000 p.1/\Sz 1000 p.2:=by
 rcases L.wt p d with⟨f,g,i⟩|⟨_,e⟩
 .have S:=(L.face f g).aa2 h.good.ord;have a:=S.aa1.mp i;exact⟨(h.sz.1 _ (G.c8.mp a.q).1).mono,(h.sz.1 _ (G.c8.mp a.p).1).mono⟩
 .rw[e];exact LK h
def NP {j:List G.V}{m:G.V}(h:Land j m){f:G.V×Int}(a:G.IsFace j f.1 f.2):(G.f8 j f).length<=j.length:=by have S:=a.aa2 h.good.ord;exact G.D7 S.aa5 λx b=>(G.c8.mp<|S.aa3 b).1
def wJ {j:List G.V}{f g:G.V×Int}(h:R9 (l7 j f)=R9 (l7 j g)):f=g:=by have h:[f.1.x,f.1.y,f.1.z,f.2]=[g.1.x,g.1.y,g.1.z,g.2]:=h;simp only[aFP,and_true]at h;exact aFQ (G.ext h.1 h.2.1 h.2.2.1) h.2.2.2
def qE {α β:Type}{f:α->β}(d:∀a b,f a=f b->a=b){l:List α}(h:l.Nodup):(l.map f).Nodup:=aBS.mpr (h.imp λ{a b} n e=>n (d a b e))
def TZ {Φ:(List D->R D)->Hp->(bp->Prop)->bp->Prop}{j:List G.V}{m:G.V}(hz:Land j m){fs:List (G.V×Int)}{J:List (D×D)}{W:List (G.V×G.V)}{a b c d:Sl}(L:G.LInv j (G.f9 m j) fs (λe=>G5 e∈J.map (·.1)) W)
  (hk:J.length<=fV j fs) (hW:W.length<=1+fV j fs) {n:Nat} (hn:W.length+(j.length*j.length-fV j fs)<n+1) (au:W≠[]):
  ∃l r W' a' b' c' d',ffB Φ (xJ Φ (.lst (j.map vd)) (G.f9 m j) (fs.map (l7 j)) J W a b c d)=.ok (.nx (xJ Φ (.lst (j.map vd)) (G.f9 m j) (l.map (l7 j)) r W' a' b' c' d'))/\
   G.LInv j (G.f9 m j) l (λe=>G5 e∈r.map (·.1)) W'/\r.length<=fV j l/\W'.length<=1+fV j l/\W'.length+(j.length*j.length-fV j l)<n:=by
 obtain⟨rest,p,rfl⟩:∃rest p,W=rest++[p]:=⟨W.dropLast,W.getLast au,(List.dropLast_concat_getLast au).symm⟩;have s:=G.rX hz.good.solid hz.good.ord L.nd L.face;have t:=hz.few;have nn:j.length*j.length<=63*63:=Nat.mul_le_mul t t;have hsum:fV j fs+j.length<=j.length*j.length:=s;have H:(rest++[p]).length=rest.length+1:=by simp
 rw[H]at hW hn;have I:CH 5 (xJ Φ (.lst (j.map vd)) (G.f9 m j) (fs.map<|l7 j) J (rest++[p]) a b c d)=.ok (G5 p,xJ Φ (.lst (j.map vd)) (G.f9 m j) (fs.map<|l7 j) J rest a b c d):=by show(match((rest++[p]).map G5)[((rest++[p]).map G5).length-1]? with|some d=>_|none=>_:R (D×Ev))=_;rw[aBO];simp;rfl
 have N:oQ 4 (xJ Φ (.lst (j.map vd)) (G.f9 m j) (fs.map<|l7 j) J rest (.v (G5 p)) b c d) (G5 p)=.ok (!(open Classical in decide (G5 p∈J.map (·.1)))):=by unfold oQ;rw[show(xJ Φ (.lst (j.map vd)) (G.f9 m j) (fs.map<|l7 j) J rest (.v (G5 p)) b c d)[4]?=some (.d J)from rfl];dsimp only;rw[h9 (CZ p)]
 have C:X8 1000 j:=hz.sz.mono;unfold ffB;rw[I];show∃l r W' a' b' c' d',B8 (R.ok<|Out.nx<|xJ Φ (.lst (j.map vd)) (G.f9 m j) (fs.map<|l7 j) J rest (.v (G5 p)) b c d) _=_/\_;rw[B9];rw[show bW 6 (xJ Φ (.lst (j.map vd)) (G.f9 m j) (fs.map<|l7 j) J rest (.v (G5 p)) b c d)=.ok (G5 p)from rfl,R.aa0,N,R.aa0];by_cases u:G5 p∈J.map (·.1)
 .refine⟨fs,J,rest,.v (G5 p),b,c,d,?_,G.JM hz.good L rfl u,hk,by lia,by lia⟩;rw[decide_eq_true u];rfl
 .have w:p∈rest++[p]:=by simp
  obtain⟨E,n2,n3⟩:=G.yC hz.good L w u;obtain⟨y,A⟩:=TR hz L w;have ab:=V2 y A C E.prim;have i:=vW y A C;obtain⟨f,ef⟩:∃f,G.b8 p.1 p.2 j=f:=⟨_,rfl⟩;rw[ef]at E n2 n3 ab i;have po:=iF (d:=f.2) i.mono C;have O:=QO (n:=f.1) (j:=G.w6 f.1 f.2 j) i.mono (OJ C);have rl:=NP hz E;have O:O9 [vd f.1,.lst ((G.w6 f.1 f.2 j).map vd)]=.ok (.lst ((G.f8 j f).map vd)):=O;have pr:=LZ (j:=G.f8 j f) (by lia);have Q:=λ{wk'} {W'} h1 h2=>G.MJ hz.good L (rest:=rest) (p:=p) rfl u (walked':=wk') (waiting':=W') h1 h2;rw[ef]at Q;have T:(fs++[f]).Nodup:=by
   have:=(Q (wk':=λe=>G5 e∈J.map (·.1)\/e∈G.W5 (G.f8 j f)) (W':=rest++(G.W5<|G.f8 j f).map λq=>(q.2,q.1)) (λe=>Iff.rfl) (λq=>by
    rw[aAX,aAo];constructor
    .rintro(h|⟨x,U,rfl⟩)
     .exact .inl h
     .exact .inr U
    .rintro(h|h)
     .exact .inl h
     .exact .inr ⟨_,h,rfl⟩))
   exact this.nd
  have k:fV j (fs++[f])+j.length<=j.length*j.length:=G.rX hz.good.solid hz.good.ord T λg hg=>by
   rcases aAX.mp hg with z|z
   .exact L.face g z
   .rw[aAZ.mp z];exact E
  rw[dP]at k;have clen:(G.W5<|G.f8 j f).length=(G.f8 j f).length:=by unfold G.W5;simp;lia
  obtain⟨r,Y,run,B,len'⟩:=EW (a0:=Sl.v (G5<|G.f9 m j)) (a1:=Sl.c (J9 [.lst (j.map vd)]) (Φ<|J9 [.lst (j.map vd)])) (a2:=Sl.c (D2 [.lst (j.map vd)]) (Φ<|D2 [.lst (j.map vd)])) (a3:=.o ((fs++[f]).map (l7 j))) (a6:=.v (G5 p)) (a7:=.v (vY f.1 f.2)) (a8:=.v (.lst ((G.f8 j f).map vd))) (G.W5<|G.f8 j f) J rest d (by lia) (by lia);refine⟨fs++[f],r,rest++(G.W5<|G.f8 j f).map (λq=>(q.2,q.1)),.v (G5 p),.v (vY f.1 f.2),.v (.lst ((G.f8 j f).map vd)),Y,?_,Q B (λq=>?_),?_,?_,?_⟩
  .have ap:uL 3 (xJ Φ (.lst (j.map vd)) (G.f9 m j) (fs.map<|l7 j) J rest (.v (G5 p)) (.v (vY f.1 f.2)) (.v (.lst ((G.f8 j f).map vd))) d) (l7 j f)=.ok (.nx (xJ Φ (.lst (j.map vd)) (G.f9 m j) ((fs++[f]).map (l7 j)) J rest (.v (G5 p)) (.v (vY f.1 f.2)) (.v (.lst ((G.f8 j f).map vd))) d)):=by show(if(fs.map<|l7 j).length<sizeLine then _ else _)=_;have h3:=G.kM hz.good.solid hz.good.ord L.face;have h3:3*fs.length<=fV j fs:=h3;rw[h9 (by rw[aAh];exact aCq (show fs.length<=4000 by lia) (by decide)),aBO];rfl
   have ca:callC Φ 1 (l9 (λρ=>(vS 6 ρ).bind λx=>X3 x (D.int 0)) R3) (xJ Φ (.lst (j.map vd)) (G.f9 m j) (fs.map<|l7 j) J rest (.v (G5 p)) b c d)=.ok (.lst (j.map vd)):=by exact(xY (m:=J9 [.lst (j.map vd)]) (ds:=[vd p.1]) rfl rfl).trans rfl
   have ct:callC Φ 2 (l9 (bW 7) R3) (xJ Φ (.lst (j.map vd)) (G.f9 m j) (fs.map<|l7 j) J rest (.v (G5 p)) (.v (vY f.1 f.2)) c d)=.ok (.lst ((G.w6 f.1 f.2 j).map vd)):=by exact(xY (m:=D2 [.lst (j.map vd)]) (ds:=[vY f.1 f.2]) rfl rfl).trans po
   have sl:EM (vY f.1 f.2) none (some 3)=.ok (vd f.1):=rfl;rw[decide_eq_false u];simp only[Bool.not_false,if_true];rw[ca,R.aa0,R.aa0,R.aa0,R.aa0,ab,R.aa0];show B8 (R.ok<|Out.nx<|xJ Φ (.lst (j.map vd)) (G.f9 m j) (fs.map<|l7 j) J rest (.v (G5 p)) (.v (vY f.1 f.2)) c d) _=_;rw[B9];rw[ct];show B8 ((((R.ok<|vY f.1 f.2).bind λx=>EM x none (some 3)).bind λd=>(R.ok [D.lst ((G.w6 f.1 f.2 j).map vd)]).bind λds=>R.ok (d::ds)).bind O9|>.bind λd=>R.ok (Out.nx<|aEb _ 8<|Sl.v d)) _=_;rw[R.aa0,sl,R.aa0,R.aa0,R.aa0,O,R.aa0];show B8 (R.ok<|Out.nx<|xJ Φ (.lst (j.map vd)) (G.f9 m j) (fs.map<|l7 j) J rest (.v (G5 p)) (.v (vY f.1 f.2)) (.v (.lst ((G.f8 j f).map vd))) d) _=_;rw[B9];show B8 (uL 3 (xJ Φ (.lst (j.map vd)) (G.f9 m j) (fs.map<|l7 j) J rest (.v (G5 p)) (.v (vY f.1 f.2)) (.v (.lst ((G.f8 j f).map vd))) d)<|l7 j f) _=_;rw[ap,B9];show((z6 [.lst ((G.f8 j f).map vd)]).bind gO).bind _=_;rw[pr,R.aa0];exact run
  .rw[aAX,aAo];constructor
   .rintro(h|⟨x,U,rfl⟩)
    .exact .inl h
    .exact .inr U
   .rintro(h|h)
    .exact .inl h
    .exact .inr ⟨_,h,rfl⟩
  .rw[dP];lia
  .rw[dP,aAK,aAh];lia
  .rw[dP,aAK,aAh];lia
def TF (j:List G.V)(f:G.V×Int):List (G.V×Int)->List (G.V×Int)
 |[]=>[f]
 |x::Y=>if HT.lexLt (R9 (l7 j f)) (R9 (l7 j x))=true then f::x::Y else x::TF j f Y
def FD (j:List G.V)(fs:List (G.V×Int)):List (G.V×Int):=fs.foldr (TF j) []
theorem yD (j:List G.V)(f:G.V×Int):∀Y:List (G.V×Int),uY R9 (l7 j f) (Y.map (l7 j))=(TF j f Y).map (l7 j)
 |[]=>rfl
 |x::Y=>by
  unfold TF;rw[aAp,uY];split
  .rfl
  .rw[aAp,yD j f Y]
theorem dG (j:List G.V):∀fs:List (G.V×Int),nK R9 (fs.map (l7 j))=(FD j fs).map (l7 j)
 |[]=>rfl
 |f::fs=>by show uY R9 (l7 j f) (nK R9 (fs.map (l7 j)))=_;rw[dG j fs,yD];rfl
def jF (h:l7 j f=l7 j g):f=g:=wJ (by rw[h])
theorem eS:∀{a b:List (G.V×Int)},a.map (l7 j)=b.map (l7 j)->a=b
 |[],[],_=>rfl
 |[],_::_,h=>by cases h
 |_::_,[],h=>by cases h
 |x::a,y::b,h=>by rw[aAp,aAp]at h;injection h with d e;rw[jF d,eS e]
def GH:f∈FD j fs↔f∈fs:=by
 have h:=(V0 R9<|fs.map<|l7 j).mem_iff (a:=l7 j f);rw[dG]at h;constructor
 .intro q;obtain⟨g,b,e⟩:=aAo.mp (h.mp<|aDe q);rw[<-jF e];exact b
 .intro q;obtain⟨g,b,e⟩:=aAo.mp (h.mpr<|aDe q);rw[<-jF e];exact b
def qQ [Tabs]{j:List G.V}{fs:List (G.V×Int)}(h:fs.Nodup):((fs.map (l7 j)).map R9).Nodup:=by rw[aBJ];exact qE (λa b e=>wJ (j:=j) e) h
def fC (h:uH k l):l.Nodup:=h.imp λ{a b} q e=>by subst e;rw[TS.lex_irrefl]at q;cases q
def aK {j:List G.V}{fs:List (G.V×Int)}(h:(fs.map (l7 j)).Nodup):fs.Nodup:=(aBS.mp h).imp λ{a b} n e=>n (by rw[e])
def zB {j:List G.V}{fs a:List (G.V×Int)}(b:fU j fs)(d:fU j a):fs=a:=by
 have e:=aK (fC b.2);have g:=aK (fC d.2);have p:fs.Perm a:=(aDC e g).mpr λf=>by rw[b.1,d.1]
 exact eS (jG b.2 d.2 (p.map _))
def nC (h:fU j fs):B6 j=fs:=by unfold B6;have q:∃fs,fU j fs:=⟨fs,h⟩;rw[dif_pos q];exact zB q.choose_spec h
def qW [Tabs]{j:List G.V}{fs:List (G.V×Int)}(a:fs.Nodup)(h:∀n d,(n,d)∈fs↔G.IsFace j n d):fU j (FD j fs):=by refine⟨λf=>by rw[GH];exact h f.1 f.2,?_⟩;rw[<-dG];exact jY (qQ a)
def uk [Tabs]{Φ:(List D->R D)->Hp->(bp->Prop)->bp->Prop}{j:List G.V}{m:G.V}(hz:Land j m)(k:LU j):
  M9 (B8 (R8 ffC (ffB Φ) 5000 (xJ Φ (.lst (j.map vd)) (G.f9 m j) [] [] [G.f9 m j] .no .no .no .no)) λρ=>(((vS 3 ρ).bind rz).bind λds=>R.ok (D.lst ds)).bind λd=>R.ok (Out.rt d))=.ok (.lst ((B6 j).map (l7 j))):=by
 refine HC (Iv:=λn ρ=>∃fs J W a b c d,ρ=xJ Φ (.lst (j.map vd)) (G.f9 m j) (fs.map<|l7 j) J W a b c d/\G.LInv j (G.f9 m j) fs (λe=>G5 e∈J.map (·.1)) W/\J.length<=fV j fs/\W.length<=1+fV j fs/\W.length+(j.length*j.length-fV j fs)<n) ?_ ?_ ?_ (by rintro ρ ⟨_,_,_,_,_,_,_,_,_,_,_,h⟩;lia)
 .rintro n ρ ⟨fs,J,W,a,b,c,d,rfl,L,r,s,t⟩;by_cases g:W=[]
  .subst g;exact .inl rfl
  .refine .inr ⟨?_,?_⟩
   .have v:(0:Int)<((W.map G5).length:Int):=by have:=List.length_pos_iff.mpr g;rw[aAh];lia
    show(R.ok<|D.bl<|decide ((0:Int)<((W.map G5).length:Int))).bind CI=_;rw[decide_eq_true v];rfl
   .obtain⟨w,x,y,z,A,B,C,e,E,H,l,o⟩:=TZ (Φ:=Φ) (a:=a) (b:=b) (c:=c) (d:=d) hz L r s t g;exact⟨_,e,w,x,y,z,A,B,C,rfl,E,H,l,o⟩
 .refine⟨[],[],[G.f9 m j],.no,.no,.no,.no,rfl,?_,aAi _,aAi _,?_⟩
  .have:=G.BH hz.good;refine⟨this.face,this.nd,λe=>?_,this.cl,this.wt,this.ne⟩;rw[<-this.wk e];simp
  .have T:j.length*j.length<=60*60:=Nat.mul_le_mul k.1 k.1;show 1+(j.length*j.length-0)<5000
   lia
 .rintro n ρ ⟨fs,J,W,a,b,c,d,rfl,L,r,s,t⟩ i;have q:W=[]:=by
   cases W with
   |nil=>rfl
   |cons p W=>have i:(R.ok<|D.bl<|decide ((0:Int)<(((p::W).map G5).length:Int))).bind CI=.ok false:=i;rw[decide_eq_true (by simp;try lia)]at i;cases i
  subst q;obtain⟨g,u⟩:=G.OC hz.good L;have I:=qW L.nd u;rw[nC I];have N:(fs.map<|l7 j).length<=63:=by rw[aAh];exact k.2 fs (λf=>u f.1 f.2) L.nd
  have O:rz (.lst (fs.map<|l7 j))=.ok ((FD j fs).map (l7 j)):=by show(if _ then _ else _)=_;rw[h9 ⟨aCf.mpr λd Q=>by obtain⟨f,_,rfl⟩:=aAo.mp Q;rfl,qQ L.nd,N⟩,dG]
  show M9 ((((R.ok<|D.lst<|fs.map<|l7 j).bind rz).bind λds=>R.ok (D.lst ds)).bind λd=>R.ok (Out.rt d))=_;rw[R.aa0,O];rfl
theorem EL:∀{ds:List D},(∀d∈ds,∃v,d=vd v)->(ds.filterMap xE).map vd=ds
 |[],_=>rfl
 |d::ds,h=>by obtain⟨v,rfl⟩:=h d (.head _);rw[aCu (EA v),aAp,EL λd a=>h d (.tail _ a)]
section
variable [Tabs]
def JY (j:List G.V):∀d∈j.map vd,bK d=true:=λd a=>by obtain⟨v,_,rfl⟩:=aAo.mp a;rfl
def aS (j:List G.V):bJ (j.map vd)=(l6 j).map vd:=by unfold l6;refine(EL λd a=>?_).symm;obtain⟨v,_,rfl⟩:=aAo.mp ((N5 (JY j) d).mp a);exact⟨v,rfl⟩
def fO (j:List G.V):(l6 j).Pairwise λa b=>G.i3 (b-a):=YO (by rw[<-aS];exact cU _)
def MY {v:G.V}{j:List G.V}:vd v∈j.map vd↔v∈j:=by rw[aAo];exact⟨by rintro⟨u,a,e⟩;rw[<-oG e];exact a,λh=>⟨v,h,rfl⟩⟩
def N3 {j:List G.V}{v:G.V}:v∈l6 j↔v∈j:=by rw[<-MY,<-aS,N5 (JY j),MY]
def gN (j:List G.V):(l6 j).Nodup:=(fO j).imp λ{a b} h e=>by subst e;exact G.I0 h
def UY (h:(l6 j).length<=63):tw (.lst (j.map vd))=.ok ((l6 j).map vd):=by show(if _ then _ else _)=_;rw[h9 ⟨KD j,by rw[aS,aAh];exact h⟩,aS]
def sH (h:G.k8 a)(d:∀v,v∈a->v∈b):G.k8 b:=by obtain⟨A,f,B,g,C,i,D,j,e⟩:=h;exact⟨A,d A f,B,d B g,C,d C i,D,d D j,e⟩
def KR (h:G.k8 j):G.t9 j=3:=by
 by_cases e:G.t9 j=3
 .exact e
 .exact absurd h (G.wC e)
def BD (j:List G.V):(l6 j).length<=j.length:=G.D7 (gN j) λv a=>N3.mp a
def DM (f:X8 900 j)(g:G.k8 j)(d:(l6 j).length<=63):∃m r,l6 j=m::r/\Land (m::r) m:=by
 have a:G.k8 (l6 j):=sH g λv i=>N3.mpr i;cases e:l6 j with
 |nil=>rw[e]at a;obtain⟨A,k,_⟩:=a;cases k
 |cons m r=>
  refine⟨m,r,rfl,?_⟩;have b:=fO j;rw[e]at a d b;refine⟨⟨a,b,.head _,λX l=>?_⟩,⟨λP n=>f.1 P (N3.mp (by rw[e];exact n)),by lia⟩,d,rfl⟩;rcases aAd.mp l with h|h
  .exact .inl h
  .exact .inr ((aAz.mp b).1 X h)
def RT (a:X8 1000 j)(b:G.k8 j):B4 [.lst (j.map vd)]=.ok .non:=by simp only[B4,t5];exact h9 ⟨a,KR b⟩
def pz (h:Land (m::j) m):G6 [.lst ((m::j).map vd)]=.ok (G5 (G.f9 m (m::j))):=by simp only[G6,t5];exact h9 h
def XI (h:Land (m::j) m)(a:LU (m::j)):G9 (G5 (G.f9 m (m::j))) (J9 [.lst ((m::j).map vd)]) (D2 [.lst ((m::j).map vd)])=.ok (.lst ((B6 (m::j)).map (l7 (m::j)))):=by simp only[G9,show J9 [.lst ((m::j).map vd)] [.non]=.ok (.lst ((m::j).map vd))from rfl,t5];exact h9 ⟨h,a,rfl,rfl,rfl⟩
def wM (a:X8 900 j)(b:G.k8 j)(d:LU (l6 j)):K5 [.lst (j.map vd)]=.ok (.lst ((B6 (l6 j)).map (l7 (l6 j)))):=by simp only[K5,t5];exact h9 ⟨a,b,d⟩
def TD (a:X8 900 j)(b:G.k8 j)(d:LU (l6 j)):N7 [.lst (j.map vd)]=.ok (.lst ((EU j).map vd)):=by simp only[N7,t5];exact h9 ⟨a,b,d⟩
omit [Tabs]in
theorem gq {α:Type}:∀l:List α,∃b:List α,b.Nodup/\∀x,x∈b↔x∈l
 |[]=>⟨[],aDi,λ_=>Iff.rfl⟩
 |a::l=>by
  obtain⟨b,d,h⟩:=gq l;by_cases f:a∈l
  .exact⟨b,d,λx=>by rw[h,aAd];exact⟨.inr,λq=>q.elim (λe=>by rw[e];exact f) id⟩⟩
  .exact⟨a::b,aAS.mpr ⟨λz=>f ((h a).mp z),d⟩,λx=>by rw[aAd,aAd,h]⟩
def zF (h:Land j m):fU j (B6 j):=by
 classical
 obtain⟨fs,b,g⟩:=gq ((G.cands j).filter λf=>decide (G.IsFace j f.1 f.2));have i:∀n d,(n,d)∈fs↔G.IsFace j n d:=λn d=>by
  rw[g,aAx];constructor
  .intro q;exact of_decide_eq_true q.2
  .intro q;refine⟨?_,decide_eq_true q⟩;obtain⟨A,k,B,l,C,o,_,e⟩:=G.GM q;unfold G.cands;rw[<-e];exact aCe.mpr ⟨A,k,aCe.mpr ⟨B,l,aAo.mpr ⟨C,o,rfl⟩⟩⟩
 have a:=qW b i;rw[nC a];exact a
theorem kG:∀(Y:List D) (b:List (List G.V)) (B:List G.V) (x y:Sl),rK Y=some b->B.length+b.flatten.length<=3000->
  ∃g i,T9 (FA 2 (uB (λd ρ=>R.ok (aEb ρ 2 (Sl.v d))) (uB (λd ρ=>R.ok (aEb ρ 3 (Sl.v d))) VX))) (λρ=>(bW 3 ρ).bind (XU 1 ρ)) Y [a,.o (B.map vd),x,y]=.ok (.nx [a,.o ((B++b.flatten).map vd),g,i])
 |[],b,B,x,y,h,_=>by cases h;exact⟨x,y,by simp⟩
 |d::Y,b,B,x,y,h,j=>by
  unfold rK at h;split at h
  .rename_i v k f l;cases h;obtain⟨p,N,rfl,m⟩:∃p N,d=.tup [p,.lst N]/\D6 N=some v:=by
    unfold YX at f;split at f
    .exact⟨_,_,rfl,f⟩
    .cases f
   have n:=m9 m;subst n;rw[List.flatten_cons,aAK]at j;obtain⟨g,i,e⟩:=kG Y k (B++v) (.v p) (.v (.lst (v.map vd))) l (by rw[aAK];lia);refine⟨g,i,?_⟩;have q:(B.map vd).length+(v.map vd).length<=sizeLine:=by rw[aAh,aAh];exact NF (by lia)
   refine(S8 (ρ1:=[a,.o (B.map vd),.v p,.v (.lst (v.map vd))]) (ρ2:=[a,.o ((B++v).map vd),.v p,.v (.lst (v.map vd))]) rfl ?_).trans ?_
   .show(if(B.map vd).length+(v.map vd).length<=sizeLine then _ else _)=_;rw[h9 q,aBO];rfl
   .rw[e,List.flatten_cons,aFl]
  .cases h
theorem kH (j:List G.V):∀fs:List (G.V×Int),rK (fs.map (l7 j))=some (fs.map (G.f8 j))
 |[]=>rfl
 |f::fs=>by rw[aAp,rK,kH j fs];rw[show YX (l7 j f)=some (G.f8 j f)from t5 _];rfl
def CJ {j:List G.V}{fs:List (G.V×Int)}(a:(fs.flatMap (G.f8 j)).length<=3000)(b:(l6 (fs.flatMap (G.f8 j))).length<=63):C7 [.lst (fs.map (l7 j))]=.ok (.lst ((l6 (fs.flatMap (G.f8 j))).map vd)):=by have e:(fs.map<|G.f8 j).flatten=fs.flatMap (G.f8 j):=rfl;simp only[C7,kH,e];exact h9 ⟨a,b⟩
def MD (d:j.Pairwise λa b=>G.i3 (b-a))(e:G.IsFace j f.1 f.2)(h:X∈G.f8 j f):X∈j:=(G.c8.mp<|(e.aa2 d).aa3 h).1
def FX (L:Land j m)(b:LU j):((B6 j).flatMap (G.f8 j)).length<=400/\(l6 ((B6 j).flatMap (G.f8 j))).length<=60:=by
 have a:=zF L;have e:=aK (fC a.2);have g:B6 j≠[]:=λz=>by have h:=G.oD L.good.solid L.good.ord L.good.mem L.good.least;have:=(a.1 _).mpr h;rw[z]at this;cases this
 have i:=(G.BI L.good.solid L.good.ord a.1 e g).2;constructor
 .rw[List.length_flatMap];have:=b.1
  lia
 .refine aAq (G.D7 (gN _) λv d=>?_) b.1;rw[N3,aCe]at d;obtain⟨f,k,l⟩:=d;exact MD L.good.ord ((a.1 f).mp k) l
end
def L8 (h:0<b):fL (.int a) (.int b)=.ok (.int (a.fmod b)):=vZ (by omega)
def N1 (h:0<b)(d:b<1000000000000000):Z5 (.int a) (.int b)=.ok (.int (a.fdiv b)):=rB ⟨by omega,C4 (u9 (n:=60) (by omega) (by omega))⟩
def F3 {a b:Int}(h:0<b):0<=a.fmod b/\a.fmod b<b:=by have f:=PyProof.Rows.fdiv_fmod_facts a b;have g:=f.2.2.1 h;omega
def sI {a b:Int}{n:Nat}(h:0<b)(d:bits b<=n):bits (a.fmod b)<=n:=bits_fmod (by omega) d
def w9 (a:r=.ok (.nx ρ))(b:M9 (F ρ)=x):M9 (B8 r F)=x:=by rw[a];exact b
def yX (a:r=.ok (.rt d)):M9 (B8 r F)=.ok d:=by rw[a];rfl
def jq {n:Nat}(h:n<=1000000):fY [.int (n:Int)]=.ok ((aAU n).map λ(k:Nat)=>D.int (k:Int)):=by
 show(if pD 0 (n:Int) 1 then R.ok (sZ 0 1<|fR 0 n 1)else R.bad)=_;rw[h9 ⟨by decide,by decide,by decide,by decide,by omega,by omega⟩];have e:fR 0 (n:Int) 1=n:=by
  unfold fR;split
  .simp
  .omega
 rw[e];unfold sZ;congr 1;refine aDM λk _=>?_;simp
def XC (Y:List D)(i j:Nat)(h:i<=j):EM (.lst Y) (some (i:Int)) (some (j:Int))=.ok (.lst ((Y.drop i).take (j-i))):=by
 show R.ok (D.lst<|cutD Y (some (i:Int))<|some (j:Int))=_;unfold cutD;rw[HT.sIx_nat,HT.sIx_nat];congr 2;by_cases a:i<=Y.length
 .rw[aFL a];by_cases b:j<=Y.length
  .rw[aFL b]
  .rw[aFB (by omega),aEf (by simp),aEf (by simp;omega)]
 .rw[aFB (by omega),aFB (by omega),List.drop_eq_nil_of_le (by omega:Y.length<=i)];simp
end M
namespace DL
open PySem PySem.Spec L2
def RB {K:Params->jb}{P c:bp}{tb:List (Pos×Str)}{a:List bp}(b:P∈a)(d:∀w:cu,PySem.W.codeHdIn (K w.params) c P=true):∀p∈[(P,tb)],p.1∈a/\∃c,∀w:cu,PySem.W.codeHdIn (K w.params) c p.1=true:=λp e=>by rw[aAZ.mp e];exact⟨b,c,d⟩
def Got (K:jb)(x:Str)(st:dm):Prop:=∃f a,PySem.W.nsIn K cf x=some (some<|.ref f)/\Fun K x x st f a
def QL (K:jb)(x:Str)(st:dm)(b:bp):Prop:=∃f d a,PySem.W.nsIn K cf x=some (some<|.ref f)/\PySem.W.codeHdIn K a b=true/\FunC K x x st f d a
def dR (K:jb)(mg:W6)(x:Str)(st:dm):Prop:=∃f a,mg x=some (.ref f)/\Fun K x x st f a
def YM (K:jb)(mg:W6)(x:Str)(st:dm)(b:bp):Prop:=∃f d a,mg x=some (.ref f)/\PySem.W.codeHdIn K a b=true/\FunC K x x st f d a
section
variable{kV doc pm U ct:av}
def ZU (a:PySem.W.nsIn K cf x=some (some (.ref f)))(l:K.lookup f=some ⟨d,e,.func (PySem.W.fnOf x x (E9 st) (p5 st) (c6 st) .none kV doc pm g U ct),b⟩)
 (c:PySem.W.codeIn K U x=true) (k:PySem.W.keepIn K (.ref f)=true):Got K x st:=⟨f,_,a,KA l c k⟩
def UK (a:PySem.W.nsIn K cf x=some (some (.ref f)))(l:K.lookup f=some ⟨g,h,.func (PySem.W.fnOf x x (E9 st) (p5 st) (c6 st) .none kV doc pm i U ct),b⟩)
 (c:PySem.W.codeIn K U x=true) (k:PySem.W.keepIn K (.ref f)=true) (e:U=.ref cd) (n:PySem.W.codeHdIn K cd d=true):QL K x st d:=⟨f,_,cd,a,n,SX l e c k⟩
def Got.def (g:Got K x st)(X:K.In h)(G:h.Ns cf mg):dR K mg x st:=let⟨f,d,a,b⟩:=g;⟨f,d,PySem.W.mg_of X G a,b⟩
def QL.def (g:QL K x st d)(X:K.In h)(G:h.Ns cf mg):YM K mg x st d:=let⟨f,e,i,a,b⟩:=g;⟨f,e,i,PySem.W.mg_of X G a,b⟩
def K3 (a:sc.kind=.function:=by rfl)(b:sc.isCoroutine=false:=by rfl)(d:sc.isGenerator=false:=by rfl)(e:N.Nodup:=by decide+kernel)(f:N.take ps.length=ps:=by rfl)(g:∀x∈ps,sc.names.lookup x=some .local\/sc.names.lookup x=some .cell:=by decide+kernel)(h:∀y∈sc.names,y.2≠.free:=by decide+kernel):FnScope N ps sc:=⟨a,b,d,e,f,g,h⟩
variable [Tabs]
def m8 (g:dR K mg x st)(S:FnScope N ps (c6 st))(i:∀{f:bp} {U:av} {A:cq} {a:List Env} {s:bb} {H:Hp} {E:XK},Room k (A.deeper (aEJ x (c6 st) s.heap.objs.size f U))->(A.deeper (aEJ x (c6 st) s.heap.objs.size f U)).units+64<dy->(A.deeper (aEJ x (c6 st) s.heap.objs.size f U)).units+130<dy->N.Nodup->
  Y0 (TX P w K mg base N x (c6 st) f U A a s H E) (p5 st) F) (j:∀ds d,ds.length=ps.length->m ds=.ok d->M9 (F (j4 N ds))=.ok d) (l:∀(kV doc pm:av) (n:Option bp) (U ct:av) (b:List av),b.length=ps.length->bindArgs (PySem.W.fnOf x x (E9 st) (p5 st) (c6 st) .none kV doc pm n U ct) ⟨b,[]⟩=pure (ps.zip b):=by
  intro _ _ _ _ _ _ b o;rcases b with _|⟨_,_|⟨_,_|⟨_,_|⟨_,_|⟨_,_|⟨_,_|⟨_,_⟩⟩⟩⟩⟩⟩⟩<;>first|rfl|exact absurd o (by simp)):v9 P w K mg base (k+1) x ps.length m:=by
 obtain⟨f,q,p,h⟩:=g;exact ZQ h S (h.binds l) p (λU A a s H E e=>i e e.units e.ae9 S.nd) j
end
end DL
namespace DL
open PySem PySem.Spec PySem.Calls PySem.W Builtin Builtin.ObjectAttr Builtin.Getset_descriptor
open PyProof.Rows hiding St
section
variable{prog:cp} {w:cu} {A:cq} {E:D3} {K:Frag} {h:cy} {g:Array GenState} {d:Drawn} {t:Nat} {os:OsState} {a C:bp} {o:Obj}
def yV (a C:bp)(h:cy):Prop:=∃o,h.get? a=some o/\o.cls=.ref C
def lR {M:hV}(p:yV a C h):Looks M h (typeOf (.ref a)) (.ref C):=by obtain⟨o,b,e⟩:=p;exact e▸(Looks.ld b).andThen .now
def pU {R:Result->bb->Prop}{b:av}(X:K.In h)(p:yV a C h)(e:mroIn K C (.type "object")=some true)(q:R (.ok (.ret (.ref C))) ⟨h,g,d,t,os⟩):
  f6 (bt prog w) A (.call (.builtin "getset_descriptor.__get__") ⟨[.builtin "object.__class__",.ref a,b],[]⟩) R ⟨h,g,d,t,os⟩:=by
 have f:=lR (M:=bt prog w) p;have i:=looks_mroIn (M:=bt prog w) X e;refine aEx (s:=⟨h,g,d,t,os⟩) KF.slot_gs.plain KF.entry_gs (KF.slot_gs.check _ _ _ _ _ _ _ _ KF.type_class (KF.args_gs _ _ _) ?_);unfold Builtin.«getset_descriptor.__get__» descrGet;rw[dga_obj];refine aAa (aAb ?_);unfold descrGetter descrCheckInstance descrNameAndClass isInstance;simp only[KF.owner_class];repeat lk
 refine⟨Code.quiet_builtin _ (by decide+kernel),aBE KF.entry_class ?_⟩;unfold Builtin.«object.__class__» shownTypeOf;repeat lk
 exact q
def kW {tk:Tok}{Q:Fin->bb->Prop}(X:K.In h)(p:yV a C h)(b:mroIn K C (.type "object")=some true)(e:findIn K (.ref C) "__class__"=some (some (.builtin "object.__class__")))
  (q:Q (.done (.ret (.ref C))) ⟨h,g,d,t,os⟩):
  bc (bt prog w) A (Builtin.«object.__getattribute__» ⟨[.ref a,.str "__class__" tk],[]⟩) Q E ⟨h,g,d,t,os⟩:=by
 have f:=lR (M:=bt prog w) p;have i:=looks_findIn (M:=bt prog w) X e;have j:(⟨h,g,d,t,os⟩:bb).TypeIs (.builtin "object.__class__") "getset_descriptor":=F.typeOf_object_class;have k:=F.typeOf_object_class;have l:=F.slot_gs_get.lookup;have m:=F.slot_gs_set.lookup;repeat(any_goals(first|assumption|with_reducible refine f.at ?_|with_reducible refine i.at ?_|wp_step))
 refine pU X p b ?_;repeat(any_goals(first|assumption|wp_step))
def FW {M:hV}{b:av}{Q:Unit->bb->Prop}(X:K.In h)(p:yV a C h)(f:mroIn K C (.type "BaseException")=some true)(q:Q () ⟨h,g,d,t,os⟩):
  bc M A (checkBuiltinCall "BaseException.__getattribute__" ⟨[.ref a,b],[]⟩) Q E ⟨h,g,d,t,os⟩:=by
 obtain⟨o,i,j⟩:=id p;have L2:=looks_mroIn (M:=M) X f;have k:builtinKind "BaseException.__getattribute__"=some .slot:=by decide+kernel
 have e:splitId "BaseException.__getattribute__"=some ("BaseException", "__getattribute__"):=by decide+kernel
 have l:=F.args_bexc_ga (.ref a) b;simp only[checkBuiltinCall,k,e];refine aAa ?_;unfold isInstance;repeat(first|(with_reducible refine aFn i ?_;rw[j])|with_reducible refine L2.at ?_|wp_step)
 exact q
def uF {tk:Tok}{Q:D3}(X:K.In h)(p:yV a C h)(j:mroIn K C (.type "object")=some true)(b:mroIn K C (.type "BaseException")=some true)(k:findIn K (.ref C) "__class__"=some (some (.builtin "object.__class__")))
  (e:findIn K (.ref C) "__getattribute__"=some (some (.builtin "BaseException.__getattribute__"))) (f:findIn K (.ref C) "__getattr__"=some none) (q:Q (.ref C) ⟨h,g,d,t,os⟩):
  bc (bt prog w) A (getAttrBy (.ref a) (.str "__class__" tk) false) Q E ⟨h,g,d,t,os⟩:=by
 have l:=lR (M:=bt prog w) p;have m:=looks_findIn (M:=bt prog w) X e;have L2:=looks_mroIn (M:=bt prog w) X b;have n:=looks_findIn (M:=bt prog w) X f;have r:=F.attr_ValueError.ga.bind (.ref a);have i:(aDA "BaseException.__getattribute__"==aDA "object.__getattribute__")=false:=by decide+kernel
 have QI:(onTheHeap (aCU C)&&aDA "BaseException.__getattribute__"==aDA "object.__getattribute__")=false:=by rw[i];rfl
 repeat(any_goals(first|assumption|with_reducible refine l.at ?_|with_reducible refine m.at ?_|with_reducible refine n.at ?_|wp_step))
 refine aEx F.attr_ValueError.ga.plain F.entry_bexc_ga (FW X p b<|kW X p j k ?_);repeat(any_goals(first|assumption|wp_step))
def nD {Q:Option av->bb->Prop}(X:K.In h)(p:yV a C h)(i:mroIn K C (.type "object")=some true)(b:mroIn K C (.type "BaseException")=some true)(j:findIn K (.ref C) "__class__"=some (some (.builtin "object.__class__")))
  (e:findIn K (.ref C) "__getattribute__"=some (some (.builtin "BaseException.__getattribute__"))) (f:findIn K (.ref C) "__getattr__"=some none) (q:Q (some (.ref C)) ⟨h,g,d,t+1,os⟩):
  bc (bt prog w) A (getAttr? (.ref a) "__class__") Q E ⟨h,g,d,t,os⟩:=by
 unfold getAttr? getAttrBy?;repeat(any_goals(first|assumption|with_reducible apply uF X p i b j e f|wp_step))
end
structure ExCls (K:Frag)(C:Addr):Prop where
 cls:(clsIn K C).isSome=true
 ob:mroIn K C (.type "object")=some true
 be:mroIn K C (.type "BaseException")=some true
 at_:findIn K (.ref C) "__class__"=some (some (.builtin "object.__class__"))
 ga:findIn K (.ref C) "__getattribute__"=some (some (.builtin "BaseException.__getattribute__"))
 gn:findIn K (.ref C) "__getattr__"=some none
def LH {K:Frag}{a C:bp}(Z:ExCls K C):KitX K (.ref a) (.ref C) (yV a C)where
 ty:=λ_ _ _ p=>lR p
 it:=λ_ _ X _=>by
  have z:=Z.cls;unfold clsIn at z;split at z
  .rename_i l m b f i;intro u v w x k q;unfold isType loadHead;exact aAa (wpAny_loadPart (k _ _<|X _ _ i)<|aAb q)
  .cases z
 ne:=λh o y r n A X j=>by
  refine Bool.eq_false_iff.mpr λq=>?_;have e:C=o:=Value.ref.inj (beq_iff_eq.mp q);subst e;have z:=Z.cls;unfold clsIn at z;split at z
  .rename_i l m b f i;have z:=(X _ _ i).symm.trans j;cases z
  .cases z
 ca:=λ{_ _ _ _ _ s} X p k=>by obtain⟨h,g,d,t,os⟩:=s;exact nD X p Z.ob Z.be Z.at_ Z.ga Z.gn k
end DL
namespace DL
open PySem PySem.Spec L2
open PyProof.Rows hiding St
variable [Tabs]
def OL (X:Cx)(E:XK)(a:K6)(σ:St):Prop:=∀(b:Hp) (d:bb) (e:av) (f:bb),Inv X a σ b d->LS X.prog X.w X.stack b d E e f->X.xe e f
def PEC (X:Cx)(e:cv)(G:Ev->Option av):Prop:=∀(d:Hp) (f:bp->Prop) (a:K6) (s:bb) (σ:St) (H:Hp) (O:bp->Prop) (ρ:Ev) (C:av) (E:XK) (W:D3),
 Inv X a σ H s->EnvOk X.K d f H O σ ρ->Q1 X.K O->G ρ=some C->(∀b,Same H b->E C none b)->OL (X.ab0 W) E a σ->bc (bt X.prog X.w) X.A (dq e X.env) (λ_ _=>False) W s
def gw (X:Cx)(st:List dm)(G:Ev->Option av):Prop:=∀(d:Hp) (e:bp->Prop) (a:K6) (s:bb) (σ:St) (H:Hp) (O:bp->Prop) (ρ:Ev) (C:av) (E:XK) (W:D3),
 Inv X a σ H s->EnvOk X.K d e H O σ ρ->Q1 X.K O->G ρ=some C->(∀b,Same H b->E C none b)->OL (X.ab0 W) E a σ->bc (bt X.prog X.w) X.A (execs st X.env) (λ_ _=>False) W s
section
variable{X:Cx} {pos:Pos}
def xW {e:cv}{rest:List dm}{G:Ev->Option av}(h:PEC X e G)(b:et e none pos.line X.env=pure false:=by rfl):gw X (.Expr e pos::rest) G:=λd f a s σ H O ρ C E W I Ev g i q c=>aCK (aGd (B1 (h d f a s σ H O ρ C E W I Ev g i q c) λ_ _ z=>z.elim) I.quiet b)
def YZ {c:cv}{a b rest:List dm}{l:Ev->R Bool}{o p:Ev->Option av}(x:zJ X.nox c l)(y:gw X a o)(A:gw X b p):gw X (.If c a b pos::rest) (λρ=>bq (l ρ) (o ρ) (p ρ)):=by
 intro m n f s σ H O ρ C E W I Ev r e q u;cases h:l ρ with
 |ok t=>
  refine aCK (wpAny_If<|aBG (x f s σ H (λd i=>d=t/\Same H i) (I.ab0 _) ⟨m,n,O,ρ,Ev,?_⟩) (λd v B=>?_) λ_ _ z=>aAg z)
  .rw[h];exactλj g=>⟨rfl,g⟩
  .obtain⟨i,w,J,k⟩:=B;subst J;dsimp only at e;rw[h]at e;cases d with
   |true=>exact B1 (y m n f v σ i O ρ C E W w.aa4 (Ev.grow k) r e (λj g=>q j (k.trans g)) u) λ_ _ z=>z.elim
   |false=>exact B1 (A m n f v σ i O ρ C E W w.aa4 (Ev.grow k) r e (λj g=>q j (k.trans g)) u) λ_ _ z=>z.elim
 |ex z=>dsimp only at e;rw[h]at e;cases e
 |bad=>dsimp only at e;rw[h]at e;cases e
def NY {k:Nat}{g:bp}{L:dA}{ps:List Str}{n:Nat}{m:List D->Option av}{x:Str}{p:Pos}{e:cv}{es:List cv}{f:Ev->R (List D)}(F:FnOk X.prog X.w X.K X.mg X.base (LS X.prog X.w) k g L ps (zy X.K n m))(T:Room k X.A)(U:X.mg x=some (.ref g))
  (Y:PySem.W.keepIn X.K (.ref g)=true) (hb:Binds X.K L ps []) (ha:AH X.nox (e::es) f) (N:∀ρ ds,f ρ=.ok ds->ds.length=n) (hg:Gl X x:=by rfl)
  (dc:(x==jd)=false:=by decide) (he:a9 (e::es) X.env=(false,dq e X.env)::a9 es X.env:=by rfl) (bg:(cz pos (a9 es X.env)).any (·.1)=false:=by rfl):
  PEC X (.Call (.Name x p) (e::es) [] pos) (λρ=>match f ρ with|.ok ds=>m ds|_=>none):=by
 intro Ha O0 i s σ H O ρ C E W I Ev Q a q cg;dsimp only at a;cases d:f ρ with
 |ex z=>rw[d]at a;cases a
 |bad=>rw[d]at a;cases a
 |ok ds=>
  rw[d]at a;refine aAQ (aM I hg U ?_ dc);have h1:=ha pos i s σ H (λj b=>Reps X.K b O j ds/\Same H b) (I.ab0 _) ⟨Ha,O0,O,ρ,Ev,by rw[d];exactλj b l t=>⟨t,l⟩⟩;refine PySem.W.callWith_K (h₀:=X.base) I.ok.mod.kin Y (aBG h1 (λv l ⟨j,b,y,r,t,h⟩=>⟨y.kIn,?_⟩) λ_ _ z=>aAg z) he bg;have kg:v.length=ps.length:=by have e2:=F.len j b (λ_ _=>False) E ⟨O,ds,C,t,N ρ ds d,(Ev.grow h).trk,(Ev.grow h).tab,Q,a,λB J=>q B (h.trans J)⟩;rw[<-r.length];exact e2
  refine aFR (aDu (F.run X.A X.stack l b ⟨v,[]⟩ v j (λ_ _=>False) E T y.aa4.ae5 (by have:=hb l v y.kIn (by rw[aBL];exact kg);rw[aBL]at this;exact this) r
   ⟨O,ds,C,t,N ρ ds d,(Ev.grow h).trk,(Ev.grow h).tab,Q,a,λB J=>q B (h.trans J)⟩) λrr s' o=>?_)
  cases rr with
  |error ee=>exact cg b l ee s' (y.aa4.ab0 W) o
  |ok fl=>
   cases fl with
   |ret u=>obtain⟨_,_,_,_,_,_,_,z⟩:=o;exact z.elim
   |next=>exact aAg o
   |brk=>exact aAg o
   |cont=>exact aAg o
end
section
variable{X:Cx} {pins:K6} {σ:St} {H H':Hp} {s s':bb}
def OH (I:Inv X pins σ H s){e B:cy}(U:Un (V6 X.stack) [] H H' s.heap s'.heap)(k:Y3 X.prog X.w H' s'.heap)(b2:B.StaysIn s'.heap)(g:B.StaysIn e)(m:s'.heap.UpToSlots e)(os:s'.os=s.os)(d:AllBare s'.gens)
  (p:∀b o,s.heap.get? b=some o->H b=none->b∉V6 X.stack->B.get? b=some o) (r:∀b o,s.heap.get? b=some o->b∉V6 X.stack->∃u,B.get? b=some u) (c3:∀b u,H' b=some u->∃o,B.get? b=some o):
  Inv X pins σ H' {s' with heap:=e}:=by
 have i:∀b:bp,b∉([]:List bp):=λb=>aAN;have f:∀b o,s.heap.get? b=some o->H b=none->b∈V6 X.stack->∃f,e.get? b=some {o with slots:=f}:=λb o q n a=>by obtain⟨_,x,j,t⟩:=I.stack.mem a;rw[q]at j;cases j;obtain⟨y,v⟩:=U.slot b _ q n a (i b);obtain⟨l,h⟩:=m b _ v t;exact⟨l,h⟩
 refine I.af0 (ch:=[]) os ⟨λb o q n a _=>g b o (p b o q n a),λb o q n a _=>f b o q n a,U.free,λb o q _=>?_,U.tups,U.frzs,U.tbls⟩ (Y3.over k b2 g c3) d λb z=>absurd z (i b);by_cases a:b∈V6 X.stack
 .obtain⟨l,h⟩:=f b o q (I.ab7 b a) a;exact⟨_,h⟩
 .obtain⟨u,z⟩:=r b o q a;exact⟨u,g b u z⟩
def _root_.L2.Inv.ag2 (I:Inv X pins σ H s){a:bp}{o:Obj}(e:s.heap.get? a=some o)(n:H a=none)(i:a≠X.env.locals)(j:∀x c,X.env.cells.lookup x=some c->c≠a)(k:∀p∈X.pn++pins,p.1≠a)(n0:X.sa.heap.get? a=none):
  Inv X pins σ (upd H a (.frz o (.own a))) s:=by
 have d:Same H (upd H a<|.frz o (.own a)):=j5 n _;have ne:∀b,b≠a->upd H a (.frz o (.own a)) b=H b:=λb h=>k9 h;refine⟨I.ok,I.os,I.bare,⟨I.base.keep,I.base.slot,λb u q z l=>?_,I.base.there,λb Y q=>d b _ (I.base.tups b Y q),λb u v q=>d b _ (I.base.frzs b u v q),λb m q=>?_⟩,I.loc,I.cell,?_,λx c q=>?_,λp f=>?_,λb u q=>?_,I.len⟩
 .rw[ne b (λr=>by rw[r,n0]at q;cases q)];exact I.base.free b u q z l
 .exact d b _ (I.base.tbls b m q)
 .rw[ne _ (aBU i)];exact I.free
 .rw[ne c (j x c q)];exact I.freeC x c q
 .obtain⟨t,w,y⟩:=I.pin p f;exact⟨t,by rw[ne _ (k p f)];exact w,y⟩
 .by_cases g:b=a
  .subst g;rw[i9]at q;cases q;exact⟨e,⟨o,e⟩⟩
  .rw[ne b g]at q;exact(I.hok b u q).ab5 (λ_ _ _ z=>z) (λc z=>d c _ z) λc Y _ z=>d c _ z
def _root_.L2.Inv.forget (I:Inv X pins σ H s){n:Str}{i:Nat}{m:W6}{h':cy}{v:Option av}{tk:Nat}(E:X.N.Nodup)(B:X.N[i]?=some n)(J:∀(j:Nat) (x:Str) (v:V),X.N[j]?=some x->σ[j]?=some (some v)->tE X.env.scope x->∃u,RelV v u/\Look X.env s.heap m x u)
  (r:h'.Ns X.env.locals (λx=>if x=n then v else m x)) (a:Heap.SameBut X.env.locals s.heap h'):Inv X pins (σ.set i none) H {s with heap:=h',toks:=tk}:=by
 have cne:=I.cne;obtain⟨m0,⟨oL,L,O,Q,_⟩,_⟩:=id I.loc;have T:Y3 X.prog X.w H h':=λb U e=>by
  refine(I.hok b U e).ab5 (λc C f q=>(a.2 c ?_).trans q) (λ_ q=>q) λ_ _ _ q=>q;rintro rfl;rcases f with f|f
  .rw[<-f,I.free]at e;cases e
  .rw[I.free]at f;cases f
 refine⟨I.ok,I.os,I.bare,⟨λb o e n t h=>?_,λb o e n t h=>?_,I.base.free,λb o e h=>?_,I.base.tups,I.base.frzs,I.base.tbls⟩,⟨_,r,λj y Y g l e3=>?_⟩,λy c e=>?_,I.free,I.freeC,λp hp=>?_,T,by simpa using I.len⟩
 .exact(a.2 b (aAk<|aAr (aAf e) I.ok.above)).trans (I.base.keep b o e n t h)
 .obtain⟨sl,g⟩:=I.base.slot b o e n t h;exact⟨sl,(a.2 b (aAk<|aAr (aAf e) I.ok.above)).trans g⟩
 .obtain⟨o',g⟩:=I.base.there b o e h;exact⟨o',(a.2 b (aAk<|aAr (aAf e) I.ok.above)).trans g⟩
 .by_cases A:i=j
  .subst A;have yr:i<σ.length:=by rw[I.len];exact(aAy.mp B).1
   rw[aBh yr]at l;cases l
  .rw[aCx A]at l;obtain⟨u',r',q⟩:=J j y Y g l e3;refine⟨u',r',?_⟩;rcases q with⟨k,e⟩|⟨k,c,e,z⟩
   .refine .inl ⟨k,?_⟩;have:y≠n:=λe=>A (pI E B<|e▸g);simp[this,e]
   .exact .inr ⟨k,c,e,z.sameBut a (cne y c e)⟩
 .obtain⟨C,z⟩:=I.cell y c e;exact⟨C,z.sameBut a (cne y c e)⟩
 .obtain⟨e,n,ne,nf,d⟩:=I.pin p hp;exact⟨(a.2 p.1 ne).trans e,n,ne,nf,d⟩
abbrev inX (X:Cx)(e:av):Cx:={X with A:=X.A.mark (some e),calm:=false,xe:=λ_ _=>False}
def _root_.L2.Inv.inX (I:Inv X pins σ H s)(e:av):Inv (DL.inX X e) pins σ H s:=
 ⟨⟨I.ok.mod,I.ok.kind,I.ok.glob,I.ok.blt,I.ok.above,I.ok.inj,I.ok.has,I.ok.cab,λz=>(by cases z),I.ok.frames,I.ok.stk,I.ok.exf,I.ok.bs,I.ok.bsz,I.ok.noex,I.ok.exfs,I.ok.funs,I.ok.frf⟩,I.os,I.bare,I.base,I.loc,I.cell,I.free,I.freeC,I.pin,I.hok,I.len⟩
def _root_.L2.Inv.ag0 {e:av}(ok:X.Ok)(I:Inv (DL.inX X e) pins σ H s):Inv X pins σ H s:=⟨ok,I.os,I.bare,I.base,I.loc,I.cell,I.free,I.freeC,I.pin,I.hok,I.len⟩
end
section
variable{K:jb} {Ha H:Hp} {O0 O:bp->Prop} {σ:St} {ρ:Ev}
def EnvOk.unset (E:EnvOk K Ha O0 H O σ ρ)(i:Nat):EnvOk K Ha O0 H O (σ.set i none) (ρ.set i .no):=E.put i (λz=>z) trivial
def EnvOk.ag1 (E:EnvOk K Ha O0 H O σ ρ)(i:Nat){a:bp}{o:Obj}(h:H a=some (.frz o (.own a))):EnvOk K Ha O0 H O (σ.set i (some (.ref a))) (ρ.set i (.x o.cls)):=E.put i (λz=>z) ⟨a,o,rfl,h,rfl⟩
end
def wL {K:jb}{M:hV}{A:cq}{E:D3}{h:cy}{g:Array GenState}{d:Drawn}{t:Nat}{os:OsState}{a C i:bp}{k:List av}{b:String}{Q:vT}(X:K.In h)(p:yV a C h)
  (n:PySem.W.mroIn K C (.ref i)=some true) (o:PySem.W.excIn K i k b=true) (r:k.contains (.type "BaseException")=true) (q:Q true ⟨h,g,d,t,os⟩):bc M A (excMatches (.ref a) (.ref i)) Q E ⟨h,g,d,t,os⟩:=by
 obtain⟨x,s,e⟩:=p;obtain⟨u,N,y,z,bs,l,B,sub,H,v,I,J,L,O,U,Y,mN,m,hN,w,T⟩:=DJ X o;have j:(aCU i::u).contains (.type "BaseException")=true:=by rw[List.contains_cons,T.hasType r,Bool.or_true]
 have L2:=PySem.W.looks_mroIn (M:=M) X n;have f:=tc_notTuple;unfold excMatches;repeat(first|(with_reducible refine aFn s ?_;rw[e])|with_reducible refine aFn m ?_|with_reducible refine L2.at ?_|(with_reducible refine wpAny_isSubtype_exc m ?_;rw[j])|wp_step)
 exact q
def unset (i:Nat):R Out->R Out
 |.ok (.nx ρ)=>.ok (.nx (ρ.set i .no))
 |.ok (.bk ρ)=>.ok (.bk (ρ.set i .no))
 |.ok (.ct ρ)=>.ok (.ct (ρ.set i .no))
 |r=>r
def QX (i:Nat)(ok:av->Bool)(G:Ev->Option av)(F a:Ev->R Out)(ρ:Ev):R Out:=match G ρ with
 |some C=>if ok C=true then unset i (a<|ρ.set i<|.x C)else .bad
 |none=>F ρ
section
variable{X:Cx} {pos uc np:Pos}
def TK (i:Nat){x n:Str}{Ch:bp}{wu:List av}{Y:String}{body l:List dm}{b7:dm}{F Fs:Ev->R Out}{G:Ev->Option av}(ok:av->Bool)
  (hN:X.N.Nodup) (hstk:X.stack=X.env::X.outer) (hfr:X.env.frame=some X.env.locals) (hex:X.ex=[])
  (hok:∀C,ok C=true->∃c,C=.ref c/\PySem.W.mroIn X.K c (.ref Ch)=some true)
  (hq:PySem.W.excIn X.K Ch wu Y=true) (hb:wu.contains (.type "BaseException")=true) (hm:X.mg x=some (.ref Ch))
  (h1:Y0 X.nox body F) (h2:gw X body G) (h3:∀e,Y0 (inX X e) (b7::l) Fs)
  (hi:X.N[i]?=some n:=by rfl) (hl:X.env.scope.names.lookup n=some .local:=by rfl) (hg:Gl X x:=by rfl) (dc:(x==jd)=false:=by decide):
  oZ X (.Try body [.ExceptHandler (some (.Name x np)) (some n) (b7::l) uc] [] [] pos) (QX i ok G F Fs):=by
 intro Ha O0 pins s σ H D I ⟨O,ρ,Ev,fk,q⟩;refine wpAny_Try_except ?_;have yo:X.env.kindOf n=some .local:=hl;unfold QX at q;cases e:G ρ with
 |none=>
  rw[e]at q;refine aBG (h1 Ha O0 pins s σ H D (I.ab0 _) ⟨O,ρ,Ev,fk,q⟩) (λf s1 z=>?_) λ_ _ z=>aAg z;have z:=z.aa4;cases f with
  |next=>exact aDV z
  |ret v=>exact z
  |brk=>exact z
  |cont=>exact z
 |some C=>
  rw[e]at q;dsimp only at q;split at q
  case isFalse=>exact q.elim
  case isTrue hC=>
  obtain⟨c,rfl,hmro⟩:=hok C hC;refine B1 (h2 Ha O0 pins s σ H O ρ (.ref c) (λC' _ L=>C'=.ref c/\Same H L) _ I Ev fk e (λL s'=>⟨rfl,s'⟩) ?_) λ_ _ z=>z.elim;intro H1 s1 ee s' I1 ⟨a,cls,a0,B,L,e1,os,T,fl,U,k,c1,c2,c3,ec,sm⟩;subst e1;subst ec;have I1:=I1.aa4;have hfra:X.A.frames=some (X.env::X.outer):=by rw[<-hstk];exact I.ok.frames
  have fl0:Heap.FlyingW B (X.env::X.outer) a (.ref c) a0 s'.heap:=by rw[<-hstk];exact fl
  show bc _ _ (noteFrame (.ref a) X.env) _ _ _;refine wpAny_looks_onW hfra hfr fl0 λh4 held us4=>?_;refine wpAny_landsW held λh5 fl5 us5=>?_;have I5:Inv X pins σ L {s' with heap:=h5}:=OH I1 U k fl.1 fl5.1 (us4.trans us5) os T c1 c2 c3;refine wpAny_handleBy_cons (codeAny_handlers_test ?_) (by intro z;cases z);obtain⟨ob,hob,hobc⟩:=fl5.there;refine aM (X:=inX X (.ref a)) (s:={s' with heap:=h5}) (I5.inX<|.ref a) hg hm (wL I5.kIn ⟨ob,hob,hobc⟩ hmro hq hb ?_) dc;show f6 _ _ (.handlers _ _ _) _ _;refine codeAny_handlers_suite_as (lands_againW fl5 λh6 t us6=>?_);have I6:Inv X pins σ L {s' with heap:=h6}:=OH I1 U k fl.1 t.1 ((us4.trans us5).trans us6) os T c1 c2 c3;obtain⟨oe,vs,he,hec,hed,_⟩:=t.first;have nB:B.get? a=none:=t.2.1;have na:L a=none:=by
   cases z:L a with
   |none=>rfl
   |some u=>obtain⟨o,z⟩:=c3 a u z;rw[nB]at z;cases z
  have nl:a≠X.env.locals:=λz=>by obtain⟨m,⟨o',es,ep,um,oa,_⟩,_⟩:=I6.loc;rw[<-z]at um;have r:some oe=some o':=he.symm.trans um;cases r;rw[hed]at oa;cases oa
  have nf:a∉V6 X.stack:=λz=>by
   have ff:h6.FunFrames B X.stack:=by rw[hstk];exact t.2.2.1
   obtain⟨_,o',ho,hd⟩:=ff.mem z;have r:some oe=some o':=he.symm.trans ho;cases r;exact hd vs hed
  have nc:∀y c',X.env.cells.lookup y=some c'->c'≠a:=λy c' hc z=>by obtain⟨v,o',ho,hd⟩:=I6.cell y c' hc;rw[z]at ho;have r:some oe=some o':=he.symm.trans ho;cases r;rw[hed]at hd;cases hd
  have pf:∀p∈X.pn++pins,p.1≠a:=λp hp z=>by obtain⟨p1,p2,p3,p4,_⟩:=I1.pin p hp;have r:=c1 p.1 p.2 p1 p2 (λzz=>by rcases aAd.mp (I1.ab3 p.1 zz)with w|w;exact p3 w;exact p4 w);rw[z,nB]at r;cases r
  have n0:X.sa.heap.get? a=none:=by
   cases z:X.sa.heap.get? a with
   |none=>rfl
   |some o=>obtain⟨o',z'⟩:=I1.base.there a o z (by rw[hex];exact aAN);obtain⟨u,r⟩:=c2 a o' z' nf;rw[nB]at r;cases r
  have I7:=I6.ag2 he na nl nc pf n0;refine V9 (X:=X) (v:=.ref a) I7 hN hi (.inl hl) rfl (λs8 I8=>?_) (.inr hl);have sm8:Same H (upd L a<|.frz oe (.own a)):=sm.trans (j5 na _);have Ev8:=(Ev.grow sm8).ag1 i (a:=a) (o:=oe) i9;rw[hec]at Ev8;have run:=h3 (.ref a) Ha O0 pins s8 _ _ {nx:=λg b=>D.nx (g.set i none) b,rt:=D.rt,bk:=λg b=>D.bk (g.set i none) b,ct:=λg b=>D.ct (g.set i none) b} (I8.inX _) ⟨O,_,Ev8,fk,by
   have E:=RS.grow q (Kp.of (O:=O) sm8);cases e2:Fs (ρ.set i<|.x (.ref c))with
   |ok o=>
    rw[e2]at E;cases o with
    |nx ρ'=>exactλg b O' E' f' kp=>E _ b O' (E'.unset i) f' kp
    |bk ρ'=>exactλg b O' E' f' kp=>E _ b O' (E'.unset i) f' kp
    |ct ρ'=>exactλg b O' E' f' kp=>E _ b O' (E'.unset i) f' kp
    |rt d=>exact E
   |ex z=>rw[e2]at E;exact E
   |bad=>rw[e2]at E;exact E⟩
  refine aBG run (λf s9 z=>?_) λ_ _ z=>aAg z;have go:∀{g:St} {b:Hp} {Q:Unit->bb->Prop},Inv (inX X<|.ref a) pins g b s9->(∀j,Inv X pins (g.set i none) b j->Q () j)->bc (bt X.prog X.w) X.A (do bindName X.env n .none;unbindBehindTheSuite X.env n uc) Q X.xe s9:=λ{g b Q} J hQ=>by have I9':=Inv.ag0 I.ok J;obtain⟨m,hn,hloc⟩:=id I9'.loc;refine wpAny_nameGoes_keeps yo hn (by rw[I.ok.kind];rfl) λh10 v hn' ko=>hQ _ ?_;exact I9'.forget hN hi hloc hn' ko
  cases f with
  |next=>obtain⟨g,b,J,q9⟩:=z;exact go J λj h=>⟨_,b,h,q9⟩
  |brk=>obtain⟨g,b,J,q9⟩:=z;exact go J λj h=>⟨_,b,h,q9⟩
  |cont=>obtain⟨g,b,J,q9⟩:=z;exact go J λj h=>⟨_,b,h,q9⟩
  |ret u=>obtain⟨v,g,b,J,r9,q9⟩:=z;exact go J λj h=>⟨v,_,b,h,r9,q9⟩
end
def AB (K:jb)(c:bp):Bool:=(PySem.W.clsIn K c).isSome&&(PySem.W.mroIn K c (.type "object")==some true&&(PySem.W.mroIn K c (.type "BaseException")==some true&&
 (PySem.W.findIn K (.ref c) "__class__"==some (some<|.builtin "object.__class__")&&(PySem.W.findIn K (.ref c) "__getattribute__"==some (some<|.builtin "BaseException.__getattribute__")&&PySem.W.findIn K (.ref c) "__getattr__"==some none))))
def AB.cls {K:jb}{c:bp}(h:AB K c=true):ExCls K c:=by unfold AB at h;simp only[aAF,beq_iff_eq]at h;exact⟨h.1,h.2.1,h.2.2.1,h.2.2.2.1,h.2.2.2.2.1,h.2.2.2.2.2⟩
def xq (K:jb)(i:Nat)(a:av)(ρ:Ev):R D:=match ρ[i]? with
 |some (.x (.ref c))=>if AB K c=true then(match PySem.W.kitOne K (.ref c) a with|some b=>.ok (.bl b)|none=>.bad)else .bad
 |_=>.bad
section
variable{X:Cx} {pos:Pos}
def XJ (i:Nat){n x:Str}{p f pt:Pos}{k:av}{g:V}(y:PE X (.Name x pt) (tC g))(rc:RelV g k)(A:∀u,RelV g u->u=k)(B:X.mg "isinstance"=none)(C:X.N[i]?=some n:=by rfl)(J:tE X.env.scope n:=by first|exact aCs rfl|exact aBC (aCs rfl)|exact aBC (aBC rfl))(L:Gl X "isinstance":=by rfl)
  (T:(n==jd)=false:=by decide) (U:(n==ka)=false:=by decide)
  (t:a9 [.Name n f,.Name x pt] X.env=(false,dq (.Name n f) X.env)::a9 [.Name x pt] X.env:=by rfl) (Y:a9 [Expr.Name x pt] X.env=[(false,dq (.Name x pt) X.env)]:=by rfl) (bg:(cz pos (a9 [Expr.Name x pt] X.env)).any (·.1)=false:=by rfl):
  PD X (.Call (.Name "isinstance" p) [.Name n f,.Name x pt] [] pos) (xq X.K i k):=by
 refine rL λd s σ H Q I Ha O0 O ρ E q=>?_;refine aAQ (N2 (u:=.builtin "isinstance") I L B (by decide+kernel) ?_);unfold xq at q;split at q
 case h_2=>exact q.elim
 case h_1 c e=>
 split at q
 case isFalse=>exact q.elim
 case isTrue ho=>
 split at q
 case h_2=>exact q.elim
 case h_1 b ek=>
 obtain⟨a,o,h1,h2,h3⟩:=E.exc i _ e;have h:=J3 (M3 (pos:=f) C J T U) (J3 y aY (by rw[Y];rfl)) t pos d s σ H (λv j=>v=[.ref a,g]/\j=H) I ⟨_,h1,rfl,rfl⟩;refine aBK (B1 h λus s1 z9=>?_) t bg;obtain⟨v,j,l,r1,e1,e2⟩:=z9;subst e1;subst e2;obtain⟨u,w,rfl,ru,m⟩:=vals2 r1;cases ru;obtain rfl:=A w m;obtain⟨r,_⟩:=l.hok a _ h2;exact PySem.W.kia_one (LH<|AB.cls ho) l.kIn ⟨o,r,h3⟩ ek (λz=>nomatch z) λtk=>⟨.bl b,j,l.tok _,rfl,q _ j (Same.refl _) .bl⟩
end
abbrev gj:List av:=[.type "ValueError",.type "Exception",.type "BaseException",.type "object"]
def dU (P:cp)(w:cu)(K:jb)(mg:W6)(base:cy)(k:Nat)(x:Str)(n:Nat)(m:List D->Option av):Prop:=
 ∃g a b,FnOk P w K mg base (LS P w) k g a b (zy K n m)/\Binds K a b []/\PySem.W.keepIn K (.ref g)=true/\mg x=some (.ref g)
def lX {P:cp}{w:cu}{K:jb}{mg:W6}{base:cy}{x qual:Str}{st:dm}{f:bp}{fd:dA}{N ps:List Str}{k:Nat}{m:List D->Option av}{G:Ev->Option av}(b:Fun K x qual st f fd)(S:FnScope N ps (c6 st))(d:Binds K fd ps [])(e:mg x=some (.ref f))
  (g:∀(U:av) (A:cq) (a:List Env) (s:bb) (H:Hp) (E:XK),Room k (A.deeper (envOfC qual (c6 st) s.heap.objs.size f U))->RD (cxX P w K mg base N qual (c6 st) f U A a s H E) E (p5 st) G)
  (h:∀ds C,ds.length=ps.length->m ds=some C->G (j4 N ds)=some C):dU P w K mg base (k+1) x ps.length m:=
 ⟨f,fd,ps,fnX b S g h,d,b.kp,e⟩
def mX (f:Ev->R (List D))(m:List D->Option av)(ρ:Ev):Option av:=match f ρ with|.ok a=>m a|_=>none
section
variable{X:Cx} {pos:Pos}
def FC {k:Nat}{n:Nat}{m:List D->Option av}{x:Str}{p:Pos}{e:cv}{es:List cv}{f:Ev->R (List D)}(c:dU X.prog X.w X.K X.mg X.base k x n m)(a:Room k X.A)(d:AH X.nox (e::es) f)(h:yF f n)(i:Gl X x:=by rfl)
  (j:(x==jd)=false:=by decide) (l:a9 (e::es) X.env=(false,dq e X.env)::a9 es X.env:=by rfl) (o:(cz pos (a9 es X.env)).any (·.1)=false:=by rfl):
  PEC X (.Call (.Name x p) (e::es) [] pos) (mX f m):=by
 obtain⟨g,r,s,F,b,q,em⟩:=c;exact NY F a em q b d h i j l o
def vG {E:XK}{k:Nat}{n:Nat}{m:List D->Option av}{x:Str}{p:Pos}{e:cv}{es:List cv}{f:Ev->R (List D)}(L:LeavesBy X E)(c:dU X.prog X.w X.K X.mg X.base k x n m)(a:Room k X.A)(d:AH X (e::es) f)(h:yF f n)(i:Gl X x:=by rfl)
  (j:(x==jd)=false:=by decide) (l:a9 (e::es) X.env=(false,dq e X.env)::a9 es X.env:=by rfl) (o:(cz pos (a9 es X.env)).any (·.1)=false:=by rfl):
  XA X E (.Call (.Name x p) (e::es) [] pos) (mX f m):=by
 obtain⟨g,r,s,F,b,q,em⟩:=c;exact MQ (KN L) F a em q b d h i j l o
def EH {K:jb}{i:Nat}{n x:Str}{p a pt:Pos}{c:bp}(k:X.mg x=some (.ref c))(e:X.mg "isinstance"=none)(f:X.N[i]?=some n:=by rfl)(g:tE X.env.scope n:=by first|exact aCs rfl|exact aBC (aCs rfl)|exact aBC (aBC rfl))(j:Gl X "isinstance":=by rfl)(b:Gl X x:=by rfl)
  (l:(n==jd)=false:=by decide) (m:(n==ka)=false:=by decide) (d:(x==jd)=false:=by decide)
  (o:a9 [.Name n a,.Name x pt] X.env=(false,dq (.Name n a) X.env)::a9 [.Name x pt] X.env:=by rfl) (q:a9 [Expr.Name x pt] X.env=[(false,dq (.Name x pt) X.env)]:=by rfl) (r:(cz pos (a9 [Expr.Name x pt] X.env)).any (·.1)=false:=by rfl) (s:X.K=K:=by rfl):
  PD X (.Call (.Name "isinstance" p) [.Name n a,.Name x pt] [] pos) (xq K i (.ref c)):=by
 subst s;exact XJ i (FT (v:=.ref c) b k rfl d) rfl (λ_ h=>h) e f g j l m o q r
end
structure XCls (K:PySem.W.Frag)(mg:W6)(Bc:Addr)(x:Str)(c:Addr):Prop where
 nm:mg x=some (.ref c)
 ex:PySem.W.excIn K c gj "ValueError.__new__"=true
 ok:AB K c=true
 sub:PySem.W.mroIn K c (.ref Bc)=some true
def tU {K:jb}{mg:W6}{a c:bp}{x:Str}{cd:ClassData}(nm:mg x=some (.ref c))(b:PySem.W.excIn K c gj "ValueError.__new__"=true)(d:PySem.W.clsIn K c=some cd)(e:PySem.W.mroIn K c (.type "object")=some true)
  (f:PySem.W.mroIn K c (.type "BaseException")=some true) (g:PySem.W.findIn K (.ref c) "__class__"=some (some (.builtin "object.__class__"))) (h:PySem.W.findIn K (.ref c) "__getattribute__"=some (some (.builtin "BaseException.__getattribute__")))
  (i:PySem.W.findIn K (.ref c) "__getattr__"=some none) (sub:PySem.W.mroIn K c (.ref a)=some true):XCls K mg a x c:=
 ⟨nm,b,by unfold AB;rw[d,e,f,g,h,i];rfl,sub⟩
def YA {X:Cx}{E:XK}{b:List dm}{d g:Ev->Option av}(k:RD X E b d)(l:RD X E b g):RD X E b (λρ=>(d ρ).or (g ρ)):=by
 intro h i a s σ H O ρ C I Ev j e q;dsimp only at e;cases f:d ρ with
 |some c=>rw[f]at e;cases e;exact k h i a s σ H O ρ _ I Ev j f q
 |none=>rw[f,Option.none_or]at e;exact l h i a s σ H O ρ C I Ev j e q
section
def RA {E:XK}{x:Str}{p:Pos}{e:cv}{G:Ev->Option av}(c:v9 X.prog X.w X.K X.mg X.base k x n m)(h:XA X E e G)(f:Gl X x:=by rfl)
  (i:(x==jd)=false:=by decide) (d:a9 [e] X.env=(false,dq e X.env)::a9 [] X.env:=by rfl) (j:(cz pos (a9 [] X.env)).any (·.1)=false:=by rfl):
  XA X E (.Call (.Name x p) [e] [] pos) G:=by
 intro l o a s σ H O ρ C I Ev r t q;obtain⟨g,v,y,F,b,u,em⟩:=c;refine aAQ (aM I f em ?_ i);refine PySem.W.callWith_K (h₀:=X.base) I.ok.mod.kin u ?_ d j;rw[d];show bc _ _ (spliced ((false,dq e X.env)::cz pos (a9 [] X.env))) _ _ s;exact aDW (B1 (h l o a s σ H O ρ C I Ev r t q) λ_ _ z=>z.elim)
end
section
def YL:kU X (d3 .Is) (λx y H Q=>∃a b,x=.bl a/\y=.bl b/\Q (.bl (a==b)) H):=by intro d s σ H x y v u Q I e f h;obtain⟨a,b,rfl,rfl,q⟩:=h;cases e;cases f;show bc _ _ (pure<|aCJ<|aCJ a==aCJ b) _ _ _;exact aAb ⟨.bl (a==b),H,I,by cases a<;>cases b<;>rfl,q⟩
def mj:D->D->R D
 |.bl a,.bl b=>.ok (.bl (a==b))
 |_,_=>.bad
def ZT:kO X (d3 .Is) mj:=by
 intro H O x y e d Q h f g q;refine⟨_,YL,?_⟩;cases e with
 |bl a=>
  cases d with
  |bl b=>exact⟨a,b,f.blI,g.blI,q _ H (Same.refl _) .bl⟩
  |_=>exact aAg q
 |_=>cases d<;>exact aAg q
def XD {E:XK}{G:Ev->Option av}{a b:cv}{op:CmpOp}{t e:List dm}{f pos:Pos}(h:XA X E a G)(g:gu op b=false:=by first|exact AR _|with_unfolding_all rfl):PX X E (.If (.Compare a [op] [b] f) t e pos) G:=λi j d s σ H O ρ C I Ev k l q=>wpAny_If (aEp (B1 (h i j d s σ H O ρ C I Ev k l q) λ_ _ z=>z.elim) g)
def xU (c d:bp):av->Bool
 |.ref a=>a==c||a==d
 |_=>false
def JU {K:jb}{mg:W6}{b c d:bp}{x y:Str}(h:XCls K mg b x c)(h':XCls K mg b y d):∀C,xU c d C=true->∃a,C=.ref a/\PySem.W.mroIn K a (.ref b)=some true:=λC e=>by
 cases C with
 |ref a=>
  simp only[xU,Bool.or_eq_true,beq_iff_eq]at e;rcases e with rfl|rfl
  .exact⟨a,rfl,h.sub⟩
  .exact⟨a,rfl,h'.sub⟩
 |_=>cases e
end
section
abbrev zI (X:Cx)(e:cv)(es:List cv):Prop:=a9 (e::es) X.env=(false,dq e X.env)::a9 es X.env
def J4 {i:Int}{j}:PB X (.Constant (.int i) j pos) (TV (.int i)):=c9.pb
def sF {e1:cv}{a:Ev->R D}(c:v9 X.prog X.w X.K X.mg X.base k x 1 m)(d:Room e X.A)(a1:PD X e1 a)(f:k<=e:=by decide)(b:zI X e1 []:=by rfl)(g:Gl X x:=by rfl)(h:(x==jd)=false:=by decide)(i:(cz pos (a9 [] X.env)).any (·.1)=false:=by rfl):
 PD X (.Call (.Name x p) [e1] [] pos) (λρ=>((l9 a R3) ρ).bind m):=tV c (d.mono f) (i5 a1 l5 b) (t4 F8) g h b i
def dS {e1 e2:cv}{a b:Ev->R D}(c:v9 X.prog X.w X.K X.mg X.base k x 2 m)(e:Room f X.A)(a1:PD X e1 a)(a2:PD X e2 b)(g:k<=f:=by decide)(d:zI X e1 [e2]:=by rfl)(h:zI X e2 []:=by rfl)(i:Gl X x:=by rfl)(j:(x==jd)=false:=by decide)(l:(cz pos (a9 [e2] X.env)).any (·.1)=false:=by rfl):
 PD X (.Call (.Name x p) [e1,e2] [] pos) (λρ=>((l9 a (l9 b R3)) ρ).bind m):=tV c (e.mono g) (i5 a1 (i5 a2 l5 h) d) (t4<|t4 F8) i j d l
def pc3 {e1 e2 a:cv}{b d e:Ev->R D}(c:v9 X.prog X.w X.K X.mg X.base k x 3 m)(g:Room h X.A)(a1:PD X e1 b)(a2:PD X e2 d)(a3:PD X a e)(i:k<=h:=by decide)(f:zI X e1 [e2,a]:=by rfl)(j:zI X e2 [a]:=by rfl)(l:zI X a []:=by rfl)(n:Gl X x:=by rfl)(o:(x==jd)=false:=by decide)(q:(cz pos (a9 [e2,a] X.env)).any (·.1)=false:=by rfl):
 PD X (.Call (.Name x p) [e1,e2,a] [] pos) (λρ=>((l9 b (l9 d (l9 e R3))) ρ).bind m):=tV c (g.mono i) (i5 a1 (i5 a2 (i5 a3 l5 l) j) f) (t4<|t4<|t4 F8) n o f q
def pc4 {e1 e2 b a:cv}{d e f g:Ev->R D}(c:v9 X.prog X.w X.K X.mg X.base k x 4 m)(i:Room j X.A)(a1:PD X e1 d)(a2:PD X e2 e)(a3:PD X b f)(l:PD X a g)(n:k<=j:=by decide)(h:zI X e1 [e2,b,a]:=by rfl)(o:zI X e2 [b,a]:=by rfl)(q:zI X b [a]:=by rfl)(r:zI X a []:=by rfl)(s:Gl X x:=by rfl)(t:(x==jd)=false:=by decide)(u:(cz pos (a9 [e2,b,a] X.env)).any (·.1)=false:=by rfl):
 PD X (.Call (.Name x p) [e1,e2,b,a] [] pos) (λρ=>((l9 d (l9 e (l9 f (l9 g R3)))) ρ).bind m):=tV c (i.mono n) (i5 a1 (i5 a2 (i5 a3 (i5 l l5 r) q) o) h) (t4<|t4<|t4<|t4 F8) s t h u
def yx {e1 e2:cv}{a b:Ev->R D}{j}(a1:PD X e1 a)(a2:PD X e2 b)(d:zI X e1 [e2]:=by rfl)(e:zI X e2 []:=by rfl):PD X (.Tuple [e1,e2] j pos) (λρ=>((l9 a (l9 b R3)) ρ).bind qD):=zN (i5 a1 (i5 a2 l5 e) d)
def YS {e1 e2 a:cv}{b d e:Ev->R D}{j}(a1:PD X e1 b)(a2:PD X e2 d)(a3:PD X a e)(f:zI X e1 [e2,a]:=by rfl)(g:zI X e2 [a]:=by rfl)(h:zI X a []:=by rfl):PD X (.Tuple [e1,e2,a] j pos) (λρ=>((l9 b (l9 d (l9 e R3))) ρ).bind qD):=zN (i5 a1 (i5 a2 (i5 a3 l5 h) g) f)
def IZ {id:String}{g:List D->R D}{e:cv}{f:Ev->R D}(d:eG X (.builtin id) g)(a:PB X e f)(h:Gl X x:=by rfl)(i:X.mg x=none:=by assumption)(j:dt x=some (.builtin id):=by decide+kernel)(k:x≠ "__name__":=by decide)(l:(x==jd)=false:=by decide)(b:zI X e []:=by rfl)(m:(cz pos (a9 [] X.env)).any (·.1)=false:=by rfl):
 PD X (.Call (.Name x p) [e] [] pos) (λρ=>(l9 f R3 ρ).bind g):=yJ d (t7 a A9 b) h i j k l b m
def QI {i:List Str}{a:gW}{l:Pos}{e:cv}{fe:Ev->R D}(h:∀b f j k C,PD (BL X b j k ([x]++i) a (aZ X a C) C f) e fe)(m:([x]++i).Nodup:=by decide+kernel)(n:Loc (relabel a X.env) x:=by first|exact aCs rfl|exact aBC rfl)(o:(a.names.lookup x==some .cell)=true\/(relabel a X.env).names.lookup x=some .local:=by first|exact .inl rfl|exact .inr rfl):
  ∀(b:K6) (f:List bp) (g:Cx),(∃p q C,g=BL X b p q ([x]++i) a (aZ X a C) C f)->IY g (.Name x l) (λd ρ=>.ok (ρ.set 0 (.v d)))/\QF g [] (λ_=>.ok true)/\PD g e fe:=by
 rintro b f r ⟨j,k,C,rfl⟩;exact⟨C3 0 m rfl n o,QW,h b f j k C⟩
def xw {j:List Str}{a:gW}{l:Pos}{f c:cv}{fe:Ev->R D}{ft:Ev->R Bool}(h:∀b e g i C,zJ (BL X b g i ([x]++j) a (aZ X a C) C e) c ft/\PD (BL X b g i ([x]++j) a (aZ X a C) C e) f fe)(m:([x]++j).Nodup:=by decide+kernel)(n:Loc (relabel a X.env) x:=by first|exact aCs rfl|exact aBC rfl)(o:(a.names.lookup x==some .cell)=true\/(relabel a X.env).names.lookup x=some .local:=by first|exact .inl rfl|exact .inr rfl):
  ∀(b:K6) (e:List bp) (k:Cx),(∃p q C,k=BL X b p q ([x]++j) a (aZ X a C) C e)->IY k (.Name x l) (λd ρ=>.ok (ρ.set 0 (.v d)))/\QF k [c] ft/\PD k f fe:=by
 rintro b e r ⟨g,i,C,rfl⟩;exact⟨C3 0 m rfl n o,QR (h b e g i C).1,(h b e g i C).2⟩
end
end DL
namespace M
open PySem L2 DL
variable [Tabs]
open Classical in
def QD (p:Prop) (d:D):R D:=if p then .ok d else .bad
def fQ {p:Prop}{d r:D}(h:QD p d=.ok r):p/\d=r:=by
 unfold QD at h;split at h
 .rename_i z;cases h;exact⟨z,rfl⟩
 .cases h
def dN {p:Prop}{d:D}(h:p):QD p d=.ok d:=h9 h
def xj (k:List G.V->List D->R D):List D->R D:=zG λY e=>match D6 Y with
 |some l=>k l e
 |none=>.bad
def CO {k:List G.V->List D->R D}{ds:List D}{r:D}(h:xj k ds=.ok r):∃l e,ds=.lst (l.map vd)::e/\k l e=.ok r:=by
 replace h:=aE h;obtain⟨Y,e,rfl,h⟩:=h;cases q:D6 Y with
 |none=>rw[q]at h;cases h
 |some l=>rw[q]at h;exact⟨l,e,by rw[m9 q],h⟩
def tO (k:List G.V->List D->R D)(l:List G.V)(e:List D):xj k (.lst (l.map vd)::e)=k l e:=by show(match D6 (l.map vd)with|some l=>k l e|none=>.bad)=_;rw[t5]
def l3 (k:Int->Int->Int->List D->R D):List D->R D:=zG λY e=>oV (λa=>oV λb=>oV λc=>iO (k a b c e)) Y
def sS (h:E8 d<=40):yA d d=.ok (.bl false):=by unfold yA;rw[h9 ⟨h,h⟩,R1];rfl
def iD (j:List G.V):E8 (.lst (j.map vd))<=40:=by
 rw[E8];have:∀j:List G.V,J5 (j.map vd)<=1:=λj=>by
  induction j with
  |nil=>simp[J5]
  |cons P j a=>rw[aAp,J5];exact Nat.max_le.mpr ⟨by simp[E8,J5],a⟩
 have:=this j
 lia
def bY (a n:Nat):List D:=(List.range' a n).map λ(k:Nat)=>D.int (k:Int)
def a1p {a b:Nat}(d:a<=1000000)(h:b<=1000000):fY [.int (a:Int),.int (b:Int)]=.ok (bY a (b-a)):=by
 show(if pD (a:Int) (b:Int) 1 then R.ok (sZ a 1<|fR a b 1)else R.bad)=_;rw[h9 ⟨by decide,by decide,by lia,by lia,by lia,by lia⟩];have e:fR (a:Int) (b:Int) 1=b-a:=by
  unfold fR;split
  .simp
  .lia
 rw[e];unfold sZ bY;rw[List.range'_eq_map_range,aBJ];congr 1;refine aDM λk _=>?_;simp
def UV {n:Nat}(h:n<=1000000):fY [.int (n:Int)]=.ok (bY 0 n):=by rw[jq h];unfold bY;rw[List.range_eq_range']
theorem mR {G:D->Ev->R Ev}{F:Ev->R Out}(Iv:Nat->Ev->Prop):∀{n a:Nat} {ρ:Ev},(∀i,a<=i->i<a+n->∀ρ,Iv i ρ->∃ρ2,iJ G F (.int (i:Int)) ρ=.ok (.nx ρ2)/\Iv (i+1) ρ2)->Iv a ρ->∃ρ',T9 G F (bY a n) ρ=.ok (.nx ρ')/\Iv (a+n) ρ'
 |0,a,ρ,_,h=>⟨ρ,rfl,h⟩
 |n+1,a,ρ,d,h=>by
  obtain⟨ρ2,e,f⟩:=d a (aAi _) (by lia) ρ h;obtain⟨ρ',g,j⟩:=mR Iv (n:=n) (λi l f=>d i (by lia) (by lia)) f;refine⟨ρ',?_,by rw[show a+(n+1)=a+1+n by lia];exact j⟩;show T9 G F (.int (a:Int)::bY (a+1) n) ρ=_;unfold iJ at e;cases b:G (.int (a:Int)) ρ with
  |ok k=>rw[b]at e;exact(S8 b e).trans g
  |ex z=>rw[b]at e;cases e
  |bad=>rw[b]at e;cases e
def XT {G:D->Ev->R Ev}{F:Ev->R Out}{Post:Ev->Prop}{n a:Nat}{ρ:Ev}(Iv:Nat->Ev->Prop)(d:∀i,a<=i->i<a+n->∀ρ,Iv i ρ->∃ρ2,iJ G F (.int (i:Int)) ρ=.ok (.nx ρ2)/\Iv (i+1) ρ2)(h0:Iv a ρ)(b:∀ρ',Iv (a+n) ρ'->Post ρ'):∃ρ2,T9 G F (bY a n) ρ=.ok (.nx ρ2)/\Post ρ2:=by obtain⟨ρ',e,h⟩:=mR Iv d h0;exact⟨ρ',e,b ρ' h⟩
def EI {G:D->Ev->R Ev}{F b:Ev->R Out}{d:D}{n a:Nat}{ρ:Ev}(Iv:Nat->Ev->Prop)(f:∀i,a<=i->i<a+n->∀ρ,Iv i ρ->∃ρ2,iJ G F (.int (i:Int)) ρ=.ok (.nx ρ2)/\Iv (i+1) ρ2)(h0:Iv a ρ)(g:∀ρ',Iv (a+n) ρ'->M9 (b ρ')=.ok d):M9 (B8 (T9 G F (bY a n) ρ) b)=.ok d:=by obtain⟨ρ',e,h⟩:=mR Iv f h0;rw[e];exact g ρ' h
def ZD {S:List G.V}{i:Nat}{A:G.V}(h:S[i]?=some A):X3 (.lst (S.map vd)) (.int (i:Int))=.ok (vd A):=bT (by rw[aJ (by lia),aBT,aAI,h];rfl)
def xO {α β:Type}{G:D->Ev->R Ev}{fe:Ev->R D}{ρ:Ev}(rep:α->D)(b:β->D)(g:α->β)(l:List α)(h:∀a∈l,∃ρ1,G (rep a) ρ=.ok ρ1/\fe ρ1=.ok (b (g a))):A0 G (λ_=>.ok true) fe ρ (l.map rep)=.ok ((l.map g).map b):=by rw[aBJ];exact dE rep _ l h
def lJ {α β γ:Type}{d:D->Ev->R Ev}{fe:Ev->R D}{ρ:Ev}{K:List D->R γ}(rep:α->D)(b:β->D)(g:α->β)(l:List α)(e:l.length<=30000)(h:∀a∈l,∃ρ1,d (rep a) ρ=.ok ρ1/\fe ρ1=.ok (b (g a))):(if(l.map rep).length<=sizeLine then(A0 d (λ_=>.ok true) fe ρ (l.map rep)).bind K else .bad)=K ((l.map g).map b):=by rw[h9 (aAq (by rw[aAh];exact e) (by decide)),xO rep b g l h];rfl
def uP {α γ:Type}{b:D->Ev->R Ev}{ft:Ev->R Bool}{fe:Ev->R D}{ρ:Ev}{K:List D->R γ}(rep:α->D)(p:α->Bool)(g:α->D)(l:List α)(d:l.length<=30000)(h:∀a∈l,∃ρ1,b (rep a) ρ=.ok ρ1/\ft ρ1=.ok (p a)/\fe ρ1=.ok (g a)):(if(l.map rep).length<=sizeLine then(A0 b ft fe ρ (l.map rep)).bind K else .bad)=K ((l.filter p).map g):=by rw[h9 (aAq (by rw[aAh];exact d) (by decide)),cZ rep p g l λa e=>let⟨ρ1,f,i,j⟩:=h a e;⟨ρ1,f,i,λ_=>j⟩];rfl
def j8 {α β:Type}{r:R α}{x:α}{F:α->R β}{y:R β}(a:r=.ok x)(b:F x=y):r.bind F=y:=by rw[a];exact b
def gE {α:Type}{r:R Bool}{A B:R α}(h:r=.ok false):(r.bind λt=>if t=true then A else B)=B:=by rw[h];rfl
def vK {α:Type}{r:R Bool}{A B:R α}(h:r=.ok true):(r.bind λt=>if t=true then A else B)=A:=by rw[h];rfl
def JE {f g:Ev->R Bool}{ρ:Ev}(a:f ρ=.ok false)(b:g ρ=.ok false):zk f g ρ=.ok false:=by unfold zk;rw[a];exact b
def YU {f:Ev->R Bool}{ρ:Ev}(h:f ρ=.ok true):WM f ρ=.ok false:=by unfold WM;rw[h];rfl
def a1y {α:Type}{r:R α}{x:α}{F:α->R Out}{J:Ev->Prop}(a:r=.ok x)(b:∃ρ2,F x=.ok (.nx ρ2)/\J ρ2):∃ρ2,r.bind F=.ok (.nx ρ2)/\J ρ2:=by rw[a];exact b
def TU {i:Nat}{F:Ev->R Out}{d:D}{ρ ρ':Ev}{J:Ev->Prop}(e:ρ.set i (.v d)=ρ')(h:∃ρ2,F ρ'=.ok (.nx ρ2)/\J ρ2):∃ρ2,iJ (λd ρ=>.ok (ρ.set i (Sl.v d))) F d ρ=.ok (.nx ρ2)/\J ρ2:=by subst e;exact h
def LA {f g:Ev->R Bool}{ρ:Ev}(h:f ρ=.ok false):zQ f g ρ=.ok false:=by unfold zQ;rw[h];rfl
def lK {f g:Ev->R Bool}{ρ:Ev}{b:R Bool}(h:f ρ=.ok true)(a:g ρ=b):zQ f g ρ=b:=by unfold zQ;rw[h];exact a
def nE {α:Type}{r:R α}{x:α}{F:α->R Out}{a:Ev->R Out}{d:D}(b:r=.ok x)(e:M9 (B8 (F x) a)=.ok d):M9 (B8 (r.bind F) a)=.ok d:=by rw[b];exact e
def S6 {f:Ev->R D}{ρ:Ev}{a:D}(b:f ρ=.ok a):l9 f R3 ρ=.ok [a]:=by unfold l9;rw[b];rfl
def eI {f g:Ev->R D}{ρ:Ev}{a b:D}(d:f ρ=.ok a)(e:g ρ=.ok b):l9 f (l9 g R3) ρ=.ok [a,b]:=by unfold l9;rw[d,e];rfl
def getD_at {l:List G.V}{j:Nat}(h:j<l.length):l[j]?=some (l.getD j 0):=by rw[aAw,aAj h];rfl
def DS {l:List G.V}{j:Nat}(h:j<l.length):l.getD j 0∈l:=aAt (getD_at h)
def VO (P Q:G.V):yA (vd P) (vd Q)=.ok (.bl (decide (P≠Q))):=by
 have d:∀v:G.V,E8 (vd v)<=40:=λv=>by simp[E8,J5]
 unfold yA;rw[h9 ⟨d P,d Q⟩];congr 2;by_cases h:P=Q
 .subst h;simp[R1]
 .cases e:u0 (vd P) (vd Q)with
  |false=>simp[h]
  |true=>exact absurd (oG (dF (by simp[lY,bN]) (by simp[lY,bN]) e)) h
theorem EK {n:Nat}:∀{l:List Int},(∀w∈l,bits w<=n)->bits l.sum<=n+l.length
 |[],_=>aAq (show bits 0<=0 by decide) (aAG _)
 |z::l,h=>by rw[aBF];exact bits_add (B5 (h z (.head _)) (aEu _ _)) (EK λw a=>h w (.tail _ a))
def tM {a b:Int}(h:a=b):AX (.int a) (.int b)=.ok (.bl true):=by rw[NA,h,beq_self_eq_true]
def VY {a b:Int}(h:a≠b):AX (.int a) (.int b)=.ok (.bl false):=by rw[NA,beq_false_of_ne h]
def tZ {α:Type}(f:α->D)(l:List α):GZ [.lst (l.map f)]=.ok (.int (l.length:Int)):=by simp only[GZ,aAh]
def rj (a:Int):yA (.int a) (.int a)=.ok (.bl false):=sS (aAG 40)
def PV {Y l:List D}(f:bV 1048576 Y)(sub:∀d∈l,d∈Y):∃ns:List Int,l=ns.map D.int/\∀n∈ns,bits n<=1048576:=by
 induction l with
 |nil=>exact⟨[],rfl,λ_ h=>nomatch h⟩
 |cons d l g=>
  obtain⟨ns,e,b⟩:=g λd j=>sub d (.tail _ j);obtain⟨i,rfl,k⟩:=f d (sub d<|.head _);refine⟨i::ns,by rw[e];rfl,λn a=>?_⟩;rcases aAd.mp a with rfl|a
  .exact k
  .exact b n a
def yQ (k:Int):Int:=6*k*k+5*k+8
def iL:List D->R D
 |[.lst Y,.int k]=>if 0<=k/\k<=1000 then .ok (qX yQ Y k)else .bad
 |_=>.bad
def cJ (Y:List D)(k:Int):Int:=match qX yQ Y k with
 |.int i=>i
 |_=>0
def WB (d:bV 1048576 Y)(k:Int)(h0:0<=k)(b:k<=100):iL [.lst Y,.int k]=.ok (.int (cJ Y k))/\bits (cJ Y k)<=2000000:=by
 obtain⟨c,e,a⟩:=GG d yQ k;have f:cJ Y k=c:=by unfold cJ;rw[e]
 rw[f];refine⟨(h9 ⟨h0,by lia⟩).trans (iu R.ok e),?_⟩;rcases a with a|rfl
 .exact C4 a
 .unfold yQ;have g:0<=k*k:=aBc h0 h0;have h:k*k<=100*100:=Int.mul_le_mul b b h0 (by decide);rw[aGl];exact B5 (u9 (n:=30) (by lia) (by lia)) (by decide)
def wl (v:G.V):D:=.lst [.int v.x,.int v.y,.int v.z]
def qT (cN:bp):List D->Option av
 |[.lst []]=>some (.ref cN)
 |_=>none
open Classical in
def M1 (cF cN:bp):List D->Option av
 |[.lst []]=>some (.ref cN)
 |[.lst Y]=>match D6 Y with
  |some j=>if X8 1000 j/\¬G.k8 j then some (.ref cF)else none
  |none=>none
 |_=>none
def OB (a:X8 1000 j)(h:j≠[]):m6 [.lst (j.map vd)]=.ok (.int (G.t9 j)):=by simp only[m6,t5];exact h9 ⟨h,a⟩
def HZ (a:X8 1000 j)(b:j≠[])(d:¬G.k8 j):M1 cF cN [.lst (j.map vd)]=some (.ref cF):=by
 match j,b with
 |P::j,_=>show(match D6 ((P::j).map vd)with|some j=>_|none=>_)=_;rw[t5];exact h9 ⟨a,d⟩
open Classical in
def rZ (h:M1 cF cN [.lst Y]=some C):(Y=[]/\C=.ref cN)\/∃j,Y=j.map vd/\j≠[]/\X8 1000 j/\¬G.k8 j/\C=.ref cF:=by
 cases Y with
 |nil=>cases h;exact .inl ⟨rfl,rfl⟩
 |cons x Y=>
  have h:(match D6 (x::Y)with|some j=>if X8 1000 j/\¬G.k8 j then some (aCU cF)else none|none=>none)=some C:=h;split at h
  .rename_i j a;split at h
   .rename_i b;cases h;refine .inr ⟨j,m9 a,λz=>?_,b.1,b.2,rfl⟩;rw[z]at a;have:=m9 a;cases this
   .cases h
  .cases h
theorem uM:∀a b:List G.V,T2 (a.map vd) (b.map vd)=decide (a=b)
 |[],[]=>rfl
 |[],_::_=>rfl
 |_::_,[]=>rfl
 |P::a,Q::b=>by rw[aAp,aAp,T2,uM a b];obtain⟨x,y,z⟩:=P;obtain⟨d,e,f⟩:=Q;simp[u0,T2,Bool.and_assoc];rfl
def WX (a b:List G.V):AX (.lst (a.map vd)) (.lst (b.map vd))=.ok (.bl (decide (a=b))):=by unfold AX;rw[h9 ⟨iD a,iD b⟩,u0,uM]
def pk (Y:List D)(k:Int):List D:=bH Y (some<|2+k.fmod 5) (some 63) (some 5)
def PP {Y:List D}{k:Int}(h:Y.length<=63):(pk Y k).length<=63:=by
 have f:=F3 (a:=k) (b:=5) (by decide);refine aAq (List.length_filterMap_le _ _) ?_;simp only[sliceRange,fg,aAh,aDB,Option.getD_some];generalize k.fmod 5=r at*
 have d:¬(2+r<0):=by lia
 simp only[d,if_false,show(5:Int)>0 by decide,if_true,show¬((63:Int)<0)by decide];split<;>lia
def SC {Y:List D}{k:Int}(a:bV 1048576 Y):∃ns:List Int,pk Y k=ns.map D.int/\∀n∈ns,bits n<=1048576:=PV a λd b=>HF b
def RI (Y:List D) (k:Int):List Int:=(pk Y k).map intD
def JA (Y:List D) (k:Int):Int:=((RI Y k).map λc=>c.fdiv (1+k.fdiv 5)).sum+k*k
def NG {Y:List D}{k:Int}(a:bV 1048576 Y):pk Y k=(RI Y k).map D.int/\∀n∈RI Y k,bits n<=1048576:=by
 obtain⟨d,e,b⟩:=SC (k:=k) a;have f:RI Y k=d:=by unfold RI;rw[e,aBJ];exact(aDM λ_ _=>rfl).trans (List.map_id _)
 rw[f];exact⟨e,b⟩
def BW (Y:List D):Prop:=bV 1048576 Y/\Y.length<=63
def OD {Y:List D}{k:Int}(h:BW Y)(h0:0<=k)(f:k<=200):bits (JA Y k)<=1100000:=by
 obtain⟨e,b⟩:=NG (k:=k) h.1;have l:(RI Y k).length<=63:=by have:=iu aGg e;rw[aAh]at this;rw[<-this];exact PP h.2
 have s:bits ((RI Y k).map λc=>c.fdiv (1+k.fdiv 5)).sum<=1048576+63:=by refine B5 (EK (n:=1048576) λw a=>?_) (Nat.add_le_add_left (by rw[aAh];exact l) _);obtain⟨c,d,rfl⟩:=aAo.mp a;exact bits_fdiv (b c d)
 have bk:bits k<=10:=u9 (by lia) (by lia);exact B5 (bits_add (n:=1048576+63) s (B5 (bits_mul bk bk) (by decide))) (by decide)
def HI:List D->R D:=zG λY=>oV λk=>iO (QD (BW Y/\0<=k/\k<=200)<|.int (JA Y k))
def UX {Y:List D}{k:Int}(h:BW Y)(h0:0<=k)(a:k<=200):HI [.lst Y,.int k]=.ok (.int (JA Y k)):=dN ⟨h,h0,a⟩
def WO (w:Int):Prop:=w=7\/w=2001\/w=2000000001\/w=20000000000000000000000000000000000000001
def bw (w:Int):Int:=if 10000<w then 40009 else 1
def cw (Y:List D) (k w:Int) (j:Nat):Int:=(JA Y (3*k+(j:Int))*bw w).fmod w-w.fdiv 2
def QC (Y:List D) (k w:Int):G.V:=⟨cw Y k w 0,cw Y k w 1,cw Y k w 2⟩
def WO.pos {w:Int}(h:WO w):0<w/\bits w<=150:=by
 constructor
 .rcases h with rfl|rfl|rfl|rfl<;>decide
 .exact u9 (by rcases h with rfl|rfl|rfl|rfl<;>decide) (by rcases h with rfl|rfl|rfl|rfl<;>decide)
def xA {Y:List D}{k w:Int}{j:Nat}(h:WO w):bits (cw Y k w j)<=151:=bits_sub (bits_fmod (by have:=h.pos.1;lia) h.pos.2) (bits_fdiv h.pos.2)
def OW:List D->R D:=zG λY=>oV λk=>oV λw=>iO (QD (BW Y/\0<=k/\k<=60/\WO w)<|wl<|QC Y k w)
def KW {Y:List D}{k w:Int}(h:BW Y)(h0:0<=k)(a:k<=60)(b:WO w):OW [.lst Y,.int k,.int w]=.ok (wl (QC Y k w)):=dN ⟨h,h0,a,b⟩
def wI (s:Int):Int:=if(s.fdiv 4).fmod 4=0 then 7 else if(s.fdiv 4).fmod 4=1 then 2001 else if(s.fdiv 4).fmod 4=2 then 2000000001 else 20000000000000000000000000000000000000001
def LB (s:Int):WO (wI s):=by
 unfold wI WO;split
 .exact .inl rfl
 .split
  .exact .inr (.inl rfl)
  .split
   .exact .inr (.inr (.inl rfl))
   .exact .inr (.inr (.inr rfl))
def lI (Y:List D):List G.V:=(aAU ((cJ Y 1).fmod 4).toNat).map λ(k:Nat)=>QC Y (k:Int) (wI<|cJ Y 1)
open Classical in
def pN (Y:List D):List G.V:=if((cJ Y 1).fdiv 16).fmod 3=1/\1<(lI Y).length then(lI Y).set ((lI Y).length-1) ((((cJ Y 1).fdiv 48).fmod 5-2)*(lI Y).getD 0 0)else lI Y
open Classical in
def nP (Y:List D):List G.V:=if((cJ Y 1).fdiv 16).fmod 3=2/\2<(pN Y).length then(pN Y).set ((pN Y).length-1) ((pN Y).getD 0 0-(2:Int)*(pN Y).getD 1 0)else pN Y
def rN (Y:List D) (k j:Nat):Int:=(JA Y<|12+3*(k:Int)+(j:Int)).fmod 4-1
def LQ (P:G.V)(t:Int)(w:G.V):G.V:=⟨P.x+t*w.x,P.y+t*w.y,P.z+t*w.z⟩
def pW (Y:List D) (ws:List G.V) (k:Nat):Nat->G.V
 |0=>QC Y 3 (wI (cJ Y 1))
 |j+1=>LQ (pW Y ws k j) (rN Y k j) (ws.getD j 0)
def mI (c:Int):Int:=if(c.fdiv 360).fmod 4=3 then 40 else 9
def nI (Y:List D):Nat:=(1+(cJ Y 0).fmod (mI<|cJ Y 0)).toNat
def lD (Y:List D):List G.V:=(aAU<|nI Y).map λk=>pW Y (nP Y) k (nP Y).length
def AT:List D->R D:=zG λY=>iO (QD (BW Y)<|.lst ((lD Y).map vd))
def VN (Y:List D):1<=nI Y/\nI Y<=40/\((nI Y:Nat):Int)=1+(cJ Y 0).fmod (mI (cJ Y 0))/\0<mI (cJ Y 0):=by
 unfold nI mI;split
 .have:=F3 (a:=cJ Y 0) (b:=40) (by decide);lia
 .have:=F3 (a:=cJ Y 0) (b:=9) (by decide);lia
def lO (Y:List D)(k j:Nat):-1<=rN Y k j/\rN Y k j<=2:=by
 have:=F3 (a:=JA Y (12+3*(k:Int)+(j:Int))) (b:=4) (by decide);unfold rN
 lia
def vF (Y:List D):(lI Y).length<=3/\((lI Y).length:Int)=(cJ Y 1).fmod 4/\∀w∈lI Y,Sz 160 w:=by
 have f:=F3 (a:=cJ Y 1) (b:=4) (by decide);have l:(lI Y).length=((cJ Y 1).fmod 4).toNat:=by unfold lI;rw[aAh,aDB]
 refine⟨by lia,by lia,λw d=>?_⟩;obtain⟨k,_,rfl⟩:=aAo.mp d;have b:=λj=>xA (Y:=Y) (k:=(k:Int)) (j:=j) (LB<|cJ Y 1);exact⟨C4 (b 0),C4 (b 1),C4 (b 2)⟩
def aG {n:Nat}{ws:List G.V}(h:∀w∈ws,Sz n w)(j:Nat):Sz n (ws.getD j 0):=by
 by_cases a:j<ws.length
 .exact h _ (DS a)
 .rw[aAw,aFO (by lia)];exact⟨aAG _,aAG _,aAG _⟩
def KZ {n:Nat}{ws:List G.V}{v:G.V}(h:∀w∈ws,Sz n w)(a:Sz n v)(j:Nat):∀w∈ws.set j v,Sz n w:=λw b=>by
 rcases List.mem_or_eq_of_mem_set b with q|q
 .exact h w q
 .rw[q];exact a
def JF (Y:List D):(pN Y).length=(lI Y).length/\∀w∈pN Y,Sz 170 w:=by
 have z:=(vF Y).2.2;have a:∀w∈lI Y,Sz 170 w:=λw b=>(z w b).mono;unfold pN;split
 .have t:bits (((cJ Y 1).fdiv 48).fmod 5-2)<=10:=C4 (bits_sub (n:=5) (sI (by decide) (by decide)) (by decide));exact⟨aED,KZ a ((aG z 0).smul t) _⟩
 .exact⟨rfl,a⟩
def BA (Y:List D):(nP Y).length=(lI Y).length/\∀w∈nP Y,Sz 180 w:=by
 obtain⟨l,z⟩:=JF Y;have b:∀w∈pN Y,Sz 180 w:=λw a=>(z w a).mono;unfold nP;split
 .refine⟨by rw[aED,l],KZ b ?_ _⟩;exact((aG (λw a=>(z w a).mono (n:=175)) 0).sub (((aG z 1).smul (show bits 2<=5 by decide)))).mono
 .exact⟨l,b⟩
theorem VT {Y:List D}{ws:List G.V}{k:Nat}(d:∀w∈ws,Sz 180 w):∀j,Sz (190+5*j) (pW Y ws k j)
 |0=>by have b:=λj=>xA (Y:=Y) (k:=3) (j:=j) (LB<|cJ Y 1);exact⟨C4 (b 0),C4 (b 1),C4 (b 2)⟩
 |j+1=>by have t:=lO Y k j;have e:bits (rN Y k j)<=3:=u9 (by lia) (by lia);have i:=VT (Y:=Y) (k:=k) d j;have w:=aG d j;have a:∀{x y:Int},bits x<=190+5*j->bits y<=180->bits (x+rN Y k j*y)<=190+5*(j+1):=λf g=>B5 (bits_add f (B5 (bits_mul e g) (by lia))) (by lia);exact⟨a i.1 w.1,a i.2.1 w.2.1,a i.2.2 w.2.2⟩
def KG (Y:List D):(∀P∈lD Y,Sz 210 P)/\(lD Y).length<=40/\lD Y≠[]:=by
 obtain⟨b,d,_,_⟩:=VN Y;obtain⟨l,z⟩:=BA Y;have l3:=(vF Y).1;have len:(lD Y).length=nI Y:=by unfold lD;rw[aAh,aDB]
 refine⟨λP a=>?_,by lia,λq=>by rw[q]at len;simp at len;lia⟩;obtain⟨k,_,rfl⟩:=aAo.mp a;exact(VT z _).mono (by lia)
def MX (Y:List D):∃o u v w:G.V,∀P∈lD Y,∃a b c:Int,(-1<=b/\b<=2)/\(-1<=c/\c<=2)/\P=o+a*u+(b*v+c*w):=by
 have l:(nP Y).length<=3:=by rw[(BA Y).1];exact(vF Y).1
 refine⟨QC Y 3 (wI<|cJ Y 1),(nP Y).getD 0 0,(nP Y).getD 1 0,(nP Y).getD 2 0,λP g=>?_⟩;obtain⟨k,_,rfl⟩:=aAo.mp g;have f:=lO Y k 1;have h:=lO Y k 2;have d:(-1:Int)<=0/\(0:Int)<=2:=by decide
 rcases(show(nP Y).length=0\/(nP Y).length=1\/(nP Y).length=2\/(nP Y).length=3 by lia)with e|e|e|e<;>rw[e]<;>simp only[pW]
 .exact⟨0,0,0,d,d,by apply G.ext<;>simp⟩
 .exact⟨rN Y k 0,0,0,d,d,by apply G.ext<;>simp[LQ]⟩
 .exact⟨rN Y k 0,rN Y k 1,0,f,d,by apply G.ext<;>simp[LQ]⟩
 .exact⟨rN Y k 0,rN Y k 1,rN Y k 2,f,h,by apply G.ext<;>simp[LQ]<;>lia⟩
def SM (Y:List D)(a:G.k8 (lD Y)):LU (l6 (lD Y)):=by obtain⟨_,l,_⟩:=KG Y;obtain⟨o,u,v,w,g⟩:=MX Y;refine⟨aAq (BD _) (by lia),λfs b d=>?_⟩;exact aAq (G.PZ (sH a λv e=>N3.mpr e) (fO _) b d λP f=>g P (N3.mp f)) (by decide)
def FS {C:List G.V}(h:C≠[]):∃u∈C,X3 (.lst (C.map vd)) (.int (-1))=.ok (vd u):=by
 have a:0<C.length:=Nat.pos_of_ne_zero λz=>h (aDh z);refine⟨C.getD (C.length-1) 0,DS (by lia),bT ?_⟩;have e:(-1+(C.length:Int)).toNat=C.length-1:=by lia
 unfold nQ zH;rw[aAh,ic (by decide),h9 (by lia),e];show(C.map vd)[C.length-1]?=_;rw[aAI,getD_at (by lia)];rfl
def RU (x:Int):yA (.int x) (.int 0)=.ok (.bl (decide (x≠0))):=by
 by_cases q:x=0
 .rw[q];rfl
 .simp[q]
def MU:List D->R D:=xj λl=>iO (QD (l≠[]/\X8 900 l)<|.int (G.t9 l))
def KB {l:List G.V}(h:l≠[])(hz:X8 900 l):MU [.lst (l.map vd)]=.ok (.int (G.t9 l)):=(tO _ l []).trans (dN ⟨h,hz⟩)
def pJ {r:R Out}{ρ:Ev}{F:Ev->R Out}{J:Ev->Prop}(a:r=.ok (.nx ρ))(b:∃ρ2,F ρ=.ok (.nx ρ2)/\J ρ2):∃ρ2,B8 r F=.ok (.nx ρ2)/\J ρ2:=by rw[a];exact b
def sj {J:Ev->Prop}{r:R Out}{F:Ev->R Out}(I:Ev->Prop)(a:∃ρ,r=.ok (.nx ρ)/\I ρ)(b:∀ρ,I ρ->∃ρ2,F ρ=.ok (.nx ρ2)/\J ρ2):∃ρ2,B8 r F=.ok (.nx ρ2)/\J ρ2:=by obtain⟨ρ,e,i⟩:=a;rw[e];exact b ρ i
def LR {a b:Int}(h:b<a):VE (.int a) (.int b)=.ok (.bl true):=iu (λx=>R.ok (D.bl x)) (decide_eq_true h)
def VW {a b:Int}(h:¬b<a):VE (.int a) (.int b)=.ok (.bl false):=iu (λx=>R.ok (D.bl x)) (decide_eq_false h)
def VA {f g k:Ev->R D}{ρ:Ev}{a b c:D}(d:f ρ=.ok a)(e:g ρ=.ok b)(h:k ρ=.ok c):l9 f (l9 g (l9 k R3)) ρ=.ok [a,b,c]:=by unfold l9;rw[d];show(R.bind (l9 g (l9 k R3) ρ) _)=_;rw[eI e h];rfl
def vJ (v:G.V):Nat->Int
 |0=>v.x
 |1=>v.y
 |_=>v.z
def c3 (v:G.V):List Int:=[v.x,v.y,v.z]
def EO (v:G.V){j:Nat}(h:j<3):X3 (wl v) (.int (j:Int))=.ok (.int (vJ v j)):=by rcases(show j=0\/j=1\/j=2 by lia)with rfl|rfl|rfl<;>rfl
def UP {n:Nat}{v:G.V}(h:Sz n v)(j:Nat):bits (vJ v j)<=n:=by
 unfold vJ;split
 .exact h.1
 .exact h.2.1
 .exact h.2.2
def XZ {ρ:Ev}{i:Nat}{l:List D}{d:D}(h:ρ[i]?=some (.o l))(a:l.length<=30000):uL i ρ d=.ok (.nx (ρ.set i (.o (l++[d])))):=by unfold uL;rw[h];exact h9 (aCq a (by decide))
def FN {α β:Type}{d:D->Ev->R Ev}{fe:Ev->R D}{ρ:Ev}(rep:α->D)(b:β->D)(g:α->β)(l:List α)(e:l.length<=30000)(h:∀a∈l,∃ρ1,d (rep a) ρ=.ok ρ1/\fe ρ1=.ok (b (g a))):(if(l.map rep).length<=sizeLine then A0 d (λ_=>.ok true) fe ρ (l.map rep)else .bad)=.ok ((l.map g).map b):=by rw[h9 (aAq (by rw[aAh];exact e) (by decide)),xO rep b g l h]
def wK {ρ:Ev}{i:Nat}{l:List D}{d:D}(h:ρ[i]?=some (.o l))(b:0<l.length):ID i ρ (.int (-1)) d=.ok (.nx (ρ.set i (.o (l.set (l.length-1) d)))):=by
 have e:(-1+(l.length:Int)).toNat=l.length-1:=by lia
 have a:zH l.length (-1)=some (l.length-1):=by unfold zH;rw[ic (by decide),h9 (by lia),e]
 unfold ID;rw[h];show(match zH l.length (-1)with|some j=>R.ok (Out.nx<|ρ.set i<|.o (l.set j d))|none=>.bad)=_;rw[a]
def HK {l:List G.V}{cF cN:bp}(b:l≠[])(d:G.k8 l):M1 cF cN [.lst (l.map vd)]=none:=by
 cases q:M1 cF cN [.lst (l.map vd)]with
 |none=>rfl
 |some C=>
  rcases rZ q with⟨e,_⟩|⟨f,e,_,_,a,_⟩
  .exact absurd (List.map_eq_nil_iff.mp e) b
  .rw[<-(List.map_inj_right λ_ _ h=>oG h).mp e]at a;exact absurd d a
def QE (l:List G.V):Bool:=decide (G.t9 l<3)
def VI {l:List G.V}(h:G.k8 l):QE l=false:=decide_eq_false (by rw[KR h];decide)
def BB {j:List G.V}(h:¬G.k8 j):G.t9 j<3:=by
 have a:=G.xQ j;have b:G.t9 j≠3:=λe=>h (G.jL e)
 lia
def MC {l:List G.V}(h:¬G.k8 l):QE l=true:=decide_eq_true (BB h)
def jA:List D->R D:=oV λa=>xj λl=>iO (QD ((a=0\/a=1)/\l≠[]/\X8 900 l/\(G.k8 l->LU (l6 l)))<|.bl (QE l))
def nJ {a:Int}{l:List G.V}(b:a=0\/a=1)(h:l≠[])(hz:X8 900 l)(d:G.k8 l->LU (l6 l)):jA [.int a,.lst (l.map vd)]=.ok (.bl (QE l)):=(tO _ l []).trans (dN ⟨b,h,hz,d⟩)
def uX:List D->R D:=xj λl=>iO (QD (l≠[]/\X8 900 l/\¬G.k8 l)<|.bl false)
def JP {l:List G.V}(h:l≠[])(hz:X8 900 l)(a:¬G.k8 l):uX [.lst (l.map vd)]=.ok (.bl false):=(tO _ l []).trans (dN ⟨h,hz,a⟩)
def dz (l:List G.V)(k:Nat):EM (.lst (l.map vd)) none (some (k:Int))=.ok (.lst ((l.take k).map vd)):=by
 rw[aGp];have h:=XC (l.map vd) 0 k (aAG _);have e:EM (.lst (l.map vd)) none (some (k:Int))=EM (.lst (l.map vd)) (some ((0:Nat):Int)) (some (k:Int)):=by show R.ok (D.lst<|cutD (l.map vd) none<|some (k:Int))=R.ok (D.lst<|cutD (l.map vd) (some 0)<|some (k:Int));unfold cutD;rw[HT.sIx_none];rfl
 rw[e,h];rfl
def YV {Y:List D}(h:BW Y):AT [.lst Y]=.ok (.lst ((lD Y).map vd)):=dN h
def lP:List D->R D:=zG λY=>iO (QD (Y.length<=63/\bV 1048576 Y)<|.bl true)
end M
namespace K11
open PySem L2 DL M
def top (i:Nat):dm:=PySem.Challenge.pw_stakebodies_k11_dimension.main.body.getD i (.Pass ⟨0,0,0,0⟩)
abbrev X0:dm:=top 5
abbrev qI:List Str:=["P", "Q"]
def oH:FnScope qI ["P", "Q"] (c6 X0):=K3
abbrev fW:dm:=top 6
abbrev CD:List Str:=["u", "v"]
def xG:FnScope CD ["u", "v"] (c6 fW):=K3
abbrev bG:dm:=top 7
abbrev vE:List Str:=["u", "v"]
def pS:FnScope vE ["u", "v"] (c6 bG):=K3
abbrev P1:dm:=top 8
abbrev jX:List Str:=["numbers", "divisor", "number", "rest", "further"]
def iG:FnScope jX ["numbers"] (c6 P1):=K3
abbrev R4:dm:=top 9
abbrev lF:List Str:=["P", "Q", "R", "cross", "divisor", "upright"]
def jB:FnScope lF ["P", "Q", "R"] (c6 R4):=K3
abbrev iQ:dm:=top 10
abbrev GJ:List Str:=["plane", "P", "height"]
def zK:FnScope GJ ["plane", "P"] (c6 iQ):=K3
abbrev O8:dm:=top 13
abbrev jW:List Str:=["ways", "way"]
def iC:FnScope jW ["ways"] (c6 O8):=K3
abbrev A2:dm:=top 14
abbrev M6:List Str:=["points", "ways", "along", "upright"]
def R7:FnScope M6 ["points"] (c6 A2):=K3
abbrev P9:dm:=top 15
abbrev qG:List Str:=["points"]
def V3:FnScope qG ["points"] (c6 P9):=K3
abbrev W3:dm:=top 16
abbrev kL:List Str:=["plane", "points"]
def vC:FnScope kL ["plane", "points"] (c6 W3):=K3
abbrev X9:dm:=top 17
abbrev qH:List Str:=["pair", "points", "along", "upright", "outermost", "P", "way"]
def mJ:FnScope qH ["pair", "points"] (c6 X9):=K3
abbrev Z9:dm:=top 18
abbrev uE:List Str:=["points", "least", "upward", "touched"]
def qB:FnScope uE ["points"] (c6 Z9):=K3
abbrev iW:dm:=top 19
abbrev FZ:List Str:=["upright", "P", "Q", "R"]
def AD:FnScope FZ ["upright", "P", "Q", "R"] (c6 iW):=K3
abbrev aW:dm:=top 20
abbrev vL:List Str:=["upright", "points", "chain", "P"]
def pR:FnScope vL ["upright", "points"] (c6 aW):=K3
abbrev jN:dm:=top 21
abbrev IV:List Str:=["upright", "points", "there", "back"]
def BR:FnScope IV ["upright", "points"] (c6 jN):=K3
abbrev X6:dm:=top 22
abbrev qJ:List Str:=["ring"]
def nV:FnScope qJ ["ring"] (c6 X6):=K3
abbrev aQ:dm:=top 23
abbrev vO:List Str:=["first", "about", "touched_by", "faces", "walked", "waiting", "pair", "plane", "ring", "step"]
def eF:FnScope vO ["first", "about", "touched_by"] (c6 aQ):=K3
abbrev G4:dm:=top 24
abbrev fJ:List Str:=["points", "spread", "about", "touched_by"]
def W4:FnScope fJ ["points"] (c6 G4):=K3
abbrev bF:dm:=top 25
abbrev uV:List Str:=["faces", "corners", "plane", "ring"]
def pY:FnScope uV ["faces"] (c6 bF):=K3
abbrev dH:dm:=top 26
abbrev IN:List Str:=["points"]
def fA:FnScope IN ["points"] (c6 dH):=K3
abbrev jH:dm:=top 27
abbrev HX:List Str:=["points"]
def BS:FnScope HX ["points"] (c6 jH):=K3
abbrev bP:dm:=top 29
abbrev xB:List Str:=["script", "k"]
def vI:FnScope xB ["script", "k"] (c6 bP):=K3
abbrev fZ:dm:=top 30
abbrev AF:List Str:=["one", "other"]
def zD:FnScope AF ["one", "other"] (c6 fZ):=K3
abbrev aL:dm:=top 31
abbrev uQ:List Str:=["u", "v"]
def pQ:FnScope uQ ["u", "v"] (c6 aL):=K3
abbrev V1:dm:=top 32
abbrev oK:List Str:=["u", "v"]
def kZ:FnScope oK ["u", "v"] (c6 V1):=K3
abbrev kE:dm:=top 33
abbrev IL:List Str:=["script", "k", "total", "cell"]
def zP:FnScope IL ["script", "k"] (c6 kE):=K3
abbrev J2:dm:=top 34
abbrev Y6:List Str:=["script", "k", "wide", "by"]
def gT:FnScope Y6 ["script", "k", "wide"] (c6 J2):=K3
abbrev u7:dm:=top 35
abbrev C1:List Str:=["script", "shape", "wide", "ways", "found", "k", "point", "j", "times"]
def iB:FnScope C1 ["script"] (c6 u7):=K3
abbrev K4:dm:=top 36
abbrev U5:List Str:=["points", "ways", "crosses"]
def xC:FnScope U5 ["points"] (c6 K4):=K3
abbrev V4:dm:=top 37
abbrev oJ:List Str:=["ask", "points", "told", "e"]
def lB:FnScope oJ ["ask", "points"] (c6 V4):=K3
abbrev gP:dm:=top 38
abbrev kq:List Str:=["script", "points", "k", "handed", "found", "flat"]
def MF:FnScope kq ["script"] (c6 gP):=K3
def bS:dm:=(p5 G4).getD 2 (.Pass ⟨0,0,0,0⟩)
abbrev FQ:Str:= "faces_of.<locals>.about"
def J7:dm:=(p5 G4).getD 3 (.Pass ⟨0,0,0,0⟩)
abbrev gK:Str:= "faces_of.<locals>.touched_by"
def tbK:List (Pos×Str):=[(DE bS,FQ),(DE J7,gK)]
section
variable [Tabs]
variable{P:cp} {w:cu} {K:jb} {mg:W6} {base:cy}
variable{ae af aa:bp}
def n9 (g:dR K mg "way_between" X0):v9 P w K mg base 1 "way_between" 2 o5:=by
 refine' m8 (k:=0) (F:=_) g oH (λf i j l=>?b) λe d m h=>?_
 case b=>refine' (d7<|j0<|YS (d9 G0 (PD.pb<|i7 (b9 1) c9)<|PD.pb<|i7 (b9 0) c9) (d9 G0 (PD.pb<|i7 (b9 1) c9)<|PD.pb<|i7 (b9 0) c9)<|d9 G0 (PD.pb<|i7 (b9 1) c9)<|PD.pb<|i7 (b9 0) c9)
 replace h:=F9 h;obtain⟨a,b,c,e,rfl,h⟩:=h;replace h:=F9 h;obtain⟨n,o,p,e,rfl,h⟩:=h;replace h:=y8 h;obtain⟨rfl,h⟩:=h;exact h
def C8 (g:dR K mg "cross_of" fW):v9 P w K mg base 1 "cross_of" 2 w5:=by
 refine' m8 (k:=0) (F:=_) g xG (λp q r s=>?b) λe d t h=>?_
 case b=>refine' (d7<|j0<|YS (d9 G0 (PD.pb<|d9 o8 (PD.pb<|i7 (b9 0) c9)<|PD.pb<|i7 (b9 1) c9)<|PD.pb<|d9 o8 (PD.pb<|i7 (b9 0) c9)<|PD.pb<|i7 (b9 1) c9) (d9 G0 (PD.pb<|d9 o8 (PD.pb<|i7 (b9 0) c9)<|PD.pb<|i7 (b9 1) c9)<|PD.pb<|d9 o8 (PD.pb<|i7 (b9 0) c9)<|PD.pb<|i7 (b9 1) c9)<|d9 G0 (PD.pb<|d9 o8 (PD.pb<|i7 (b9 0) c9)<|PD.pb<|i7 (b9 1) c9)<|PD.pb<|d9 o8 (PD.pb<|i7 (b9 0) c9)<|PD.pb<|i7 (b9 1) c9)
 replace h:=F9 h;obtain⟨a,b,c,e,rfl,h⟩:=h;replace h:=F9 h;obtain⟨u,v,x,e,rfl,h⟩:=h;replace h:=y8 h;obtain⟨rfl,h⟩:=h;split at h
 .rename_i o;obtain⟨⟨f,i,j⟩,l,m,n⟩:=o;rw[<-h];simp[j4,j3 (o9.of i n),j3 (o9.of j m),j3 (o9.of j l),j3 (o9.of f n),j3 (o9.of f m),j3 (o9.of i l)]
 .cases h
def y7 (g:dR K mg "product_of" bG):v9 P w K mg base 1 "product_of" 2 o6:=by
 refine' m8 (k:=0) (F:=_) g pS (λp q r s=>?b) λe d u h=>?_
 case b=>refine' (d7<|j0<|d9 y6 (PD.pb<|d9 y6 (PD.pb<|d9 o8 (PD.pb<|i7 (b9 0) c9)<|PD.pb<|i7 (b9 1) c9)<|PD.pb<|d9 o8 (PD.pb<|i7 (b9 0) c9)<|PD.pb<|i7 (b9 1) c9)<|PD.pb<|d9 o8 (PD.pb<|i7 (b9 0) c9)<|PD.pb<|i7 (b9 1) c9)
 replace h:=VV h;obtain⟨a,b,c,t,e,rfl,h⟩:=h;replace h:=F9 h;obtain⟨v,x,y,e,rfl,h⟩:=h;replace h:=y8 h;obtain⟨rfl,h⟩:=h;split at h
 .rename_i f;obtain⟨⟨i,j,l⟩,m,n,o⟩:=f;rw[<-h];simp[j4,VB,VH,VG,j3 (o9.of i m),j3 (o9.of j n),j3 (o9.of l o)]
 .cases h
def O7 (s:mg "abs"=none)(g:dR K mg "common_divisor" P1):v9 P w K mg base 1 "common_divisor" 1 G8:=by
 refine' m8 (k:=0) (F:=_) g iG (λJ y L i=>?b) λu d N h=>?_
 case b=>
  refine' (c7 (j6 1 c9 i)
   (c7 (P7 aBu rfl (TQ<|d6 0) (C3 2 i) (c7 (j6 3 (IZ YT<|b9 2) i)
   (d7 (jC (rq 3) aBu (k7 (bM y) (b9 3) J4) (c7 (j6 4 (d9 U7 (b9 1)<|b9 3) i)
   (c7 (j6 1 (d6 3) i)
   (d7<|j6 3 (d6 4) i)))))))
   (d7<|j0<|d6 1)))
 replace h:=F9 h;obtain⟨a,b,c,u,rfl,h⟩:=h;replace h:=y8 h;obtain⟨rfl,h⟩:=h;rw[<-h];simp only[j4,aAp,aDw,aAY,aCC];simp only[bI,cR,R.aa0,IM,B9,aAv,aBr,aEc,aEd,aCF,aCG,aCc,aCd];refine gM (λrest ρ=>∃(g:Nat) (n r f:Sl),ρ=[.v (.tup [.int a,.int b,.int c]),.v (.int g),n,r,f]/\∃e:List Int,rest=e.map D.int/\e.foldl (λg n=>Nat.gcd g n.natAbs) g=G.x9 ⟨a,b,c⟩) ?_ ⟨0,_,_,_,rfl,[a,b,c],rfl,by simp[G.x9]⟩ ?_
 .rintro d u ρ ⟨g,n,r,f,rfl,e,l,j⟩;match e,l,j with
  |x::e,l,j=>
   injection l with A B;subst A B;simp only[fM,aCc,aCd,V8,aI,bL,kS,R.aa0,WR,B9];have C:(if x<0 then-x else x)=(x.natAbs:Int):=by split<;>lia
   rw[C];refine wZ (λm ρ=>∃(p q:Nat) (f:Sl),ρ=[.v (.tup [.int a,.int b,.int c]),.v (.int p),.v (.int x),.v (.int q),f]/\q<m/\Nat.gcd p q=Nat.gcd g x.natAbs) ?_ (by rintro ρ ⟨p,q,f,_,h,_⟩;lia) ⟨g,x.natAbs,f,rfl,by show x.natAbs<((x.natAbs:Int).natAbs)+2;lia,rfl⟩ ?_
   .rintro m ρ ⟨p,q,f,rfl,E,t⟩;by_cases o:(q:Int)=0
    .exact .inl (by simp[o])
    .have H:q≠0:=by lia
     refine .inr ⟨by simp[H],_,?_,q,p%q,Sl.v (.int ((p%q:Nat):Int)),rfl,?_,?_⟩
     .have em:fL (.int (p:Int)) (.int (q:Int))=.ok (.int ((p%q:Nat):Int)):=by rw[vZ o,Int.fmod_eq_emod_of_nonneg _ (by lia)];rfl
      simp[em]
     .have:=aFe p (show 0<q by lia)
      lia
     .rw[Nat.gcd_comm,<-Nat.gcd_rec,Nat.gcd_comm];exact t
   .rintro m ρ ⟨p,q,f,rfl,E,t⟩ I;have o:q=0:=by
     by_cases z:q=0
     .exact z
     .simp[z]at I
    subst o;refine⟨p,_,_,_,rfl,e,rfl,?_⟩;rw[<-j,aFJ,<-t,Nat.gcd_zero_right]
 .rintro ρ ⟨g,n,r,f,rfl,e,l,j⟩;have:e=[]:=by simpa using l.symm
  subst this;simp at j;simp[j]
def S1 (C8:v9 P w K mg base 1 "cross_of" 2 w5)(n9:v9 P w K mg base 1 "way_between" 2 o5)(O7:v9 P w K mg base 1 "common_divisor" 1 G8)(y7:v9 P w K mg base 1 "product_of" 2 o6)(g:dR K mg "plane_through" R4):v9 P w K mg base 2 "plane_through" 3 R5:=by
 refine' m8 (k:=1) (F:=_) g jB (λl Y gi s=>?b) λA d hl h=>?_
 case b=>
  refine' (c7 (j6 3 (dS C8 l (dS n9 l (d6 0)<|d6 1)<|dS n9 l (d6 0)<|d6 2) s)
   (c7 (j6 4 (sF O7 l<|d6 3) s)
   (c7 (A5 (k7 (U8 Y) (b9 4) J4) (d7 iS) p7)
   (c7 (j6 5 (YS (d9 L9 (PD.pb<|i7 (b9 3) c9)<|b9 4) (d9 L9 (PD.pb<|i7 (b9 3) c9)<|b9 4)<|d9 L9 (PD.pb<|i7 (b9 3) c9)<|b9 4) s)
   (d7<|j0<|zN<|i5 (i7 (b9 5) c9)<|i5 (i7 (b9 5) c9)<|i5 (i7 (b9 5) c9)<|i5 (dS y7 l (d6 5)<|d6 0) l5)))))
 replace h:=F9 h;obtain⟨a,b,c,A,rfl,h⟩:=h;replace h:=F9 h;obtain⟨d,e,f,A,rfl,h⟩:=h;replace h:=F9 h;obtain⟨g,J,i,A,rfl,h⟩:=h;replace h:=y8 h;obtain⟨rfl,h⟩:=h
 .skip
  split at h
  .rename_i hz;obtain⟨⟨p,q,r⟩,n⟩:=hz;rw[<-h];obtain⟨P,B⟩:∃P:G.V,P=⟨a,b,c⟩:=⟨_,rfl⟩;obtain⟨Q,E⟩:∃P:G.V,P=⟨d,e,f⟩:=⟨_,rfl⟩;obtain⟨j,H⟩:∃P:G.V,P=⟨g,J,i⟩:=⟨_,rfl⟩;rw[<-B]at p n;rw[<-E]at q n;rw[<-H]at r n;have vP:(.tup [.int a,.int b,.int c]:D)=vd P:=by rw[B]
   have vQ:(.tup [.int d,.int e,.int f]:D)=vd Q:=by rw[E]
   have vR:(.tup [.int g,.int J,.int i]:D)=vd j:=by rw[H]
   rw[vP,vQ,vR,<-B,<-E,<-H];have o:=(q.sub p).cr (r.sub p);have c1:=bO (u:=Q-P) (v:=j-P) (q.sub p).mono (r.sub p).mono;obtain⟨L,g1,g2⟩:=G.jM n;have m:((G.x9 (G.cr (Q-P)<|j-P):Nat):Int)≠0:=by lia
   have gb:xM ((G.x9 (G.cr (Q-P)<|j-P):Nat):Int):=⟨m,C4 (GI o)⟩;have dv:=zZ (G.cr (Q-P)<|j-P);have pl:G.j7 P Q j=(G.jU (G.cr (Q-P)<|j-P) (G.x9<|G.cr (Q-P)<|j-P),G.c5 (G.jU (G.cr (Q-P)<|j-P)<|G.x9<|G.cr (Q-P)<|j-P) P):=rfl;rw[pl];generalize hC:G.cr (Q-P) (j-P)=C at*
   have sn:Sz 2003 (G.jU C<|G.x9 C):=by have N:=bits_fdiv (b:=(G.x9 C:Int)) o.1;have O:=bits_fdiv (b:=(G.x9 C:Int)) o.2.1;have T:=bits_fdiv (b:=(G.x9 C:Int)) o.2.2;rw[mU L]at N O T;exact⟨N,O,T⟩
   have d1:∀t:Int,Z5 (.int t) (.int (G.x9 C:Nat))=.ok (.int (t/(G.x9 C:Nat))):=λt=>by rw[rB gb,mU L]
   have U:=gZ (u:=G.jU C (G.x9 C)) (v:=P) sn.mono p.mono;have e0:(((G.x9 C:Nat):Int)==0)=false:=by simpa using m
   simp only[G.jU]at U;have I:o6 [.tup [.int (C.x/(G.x9 C:Nat)),.int (C.y/(G.x9 C:Nat)),.int (C.z/(G.x9 C:Nat))],vd P]=_:=U;simp[j4,c1,dv,e0,d1,I,G.jU]
  .cases h
def iV (g:dR K mg "side_of" iQ):v9 P w K mg base 1 "side_of" 2 Y8:=by
 refine' m8 (k:=0) (F:=_) g zK (λv A B s=>?b) λq d C h=>?_
 case b=>
  refine' (c7 (j6 2 (d9 G0 (PD.pb<|d9 y6 (PD.pb<|d9 y6 (PD.pb<|d9 o8 (PD.pb<|i7 (b9 0) c9)<|PD.pb<|i7 (b9 1) c9)<|PD.pb<|d9 o8 (PD.pb<|i7 (b9 0) c9)<|PD.pb<|i7 (b9 1) c9)<|PD.pb<|d9 o8 (PD.pb<|i7 (b9 0) c9)<|PD.pb<|i7 (b9 1) c9)<|PD.pb<|i7 (b9 0) c9) s)
   (c7 (A5 (k7 pL (b9 2) J4) (d7<|j0 c9) p7)
   (c7 (A5 (k7 sM (b9 2) J4) (d7<|j0<|aH c9) p7)
   (d7<|j0 c9))))
 replace h:=VZ h;obtain⟨a,b,c,d,q,rfl,h⟩:=h;replace h:=F9 h;obtain⟨x,y,z,q,rfl,h⟩:=h;replace h:=y8 h;obtain⟨rfl,h⟩:=h
 .skip
  split at h
  .rename_i u;obtain⟨⟨e,f,i⟩,j,l,m⟩:=u;rw[<-h];obtain⟨t,r⟩:∃t,a*x+b*y+c*z-d=t:=⟨_,rfl⟩;have o:OV (.int (a*x+b*y+c*z)) (.int d)=.ok (.int t):=by rw[<-r];rfl
   rw[r];unfold sgn;by_cases p:0<t
   .simp[-lL,j4,j3 (o9.of e j),j3 (o9.of f l),j3 (o9.of i m),p,o]
   .by_cases n:t<0
    .simp[-lL,j4,j3 (o9.of e j),j3 (o9.of f l),j3 (o9.of i m),p,n,o]
    .simp[-lL,j4,j3 (o9.of e j),j3 (o9.of f l),j3 (o9.of i m),p,n,o]
  .cases h
def G7 (j:NE K mg "NO_WAY" [0,0,0])(g:dR K mg "first_real_way" O8):v9 P w K mg base 1 "first_real_way" 1 A1:=by
 refine' m8 (k:=0) (F:=_) g iC (λp l q m=>?b) λn d r h=>?_
 case b=>
  refine' (c7 (P7 aBu rfl (A3<|d6 0) (C3 1 m)<|d7<|A5 (k7 (bM l) (b9 1)<|PD.pb<|uS j) (d7<|j0<|d6 1) p7)
   (d7<|j0 CG))
 match n,h with
 |[.lst Y],h=>
  simp only[A1]at h;split at h
  .rename_i f i;rw[m9 i];rw[<-h];simp[j4];generalize Sl.v (D.lst<|aDo vd f)=a;generalize Sl.no=b;clear h i;induction f generalizing b with
   |nil=>rfl
   |cons v f o=>
    rw[aAp,G.A6];by_cases e:v=0
    .rw[S8 (ρ2:=[a,.v (vd v)]) rfl (by simp[-zW,ne0,e]),o];simp[e]
    .rw[tY (x:=vd v) rfl (by simp[-zW,ne0,e])];simp[e,CA]
  .cases h
def n8 (n9:v9 P w K mg base 1 "way_between" 2 o5)(G7:v9 P w K mg base 1 "first_real_way" 1 A1)(C8:v9 P w K mg base 1 "cross_of" 2 w5)(y7:v9 P w K mg base 1 "product_of" 2 o6)(cb:mg "len"=none)(L:mg "any"=none)(g:dR K mg "dimension_of" A2):v9 P w K mg base 2 "dimension_of" 1 m6:=by
 refine' m8 (k:=1) (F:=_) g R7 (λz hu gi O=>?b) λo d hl h=>?_
 case b=>
  refine' (c7 (A5 (k7 (U8 hu) (PD.pb<|IZ X4<|b9 0) J4) (d7 iS) p7)
   (c7 (JV 1 ["P"] ["points"] [0] O rfl (N8 (sc:=c6 A2) (N:=M6)) (A3<|d6 0) (QI λ_ _ _ _ _=>(dS n9 z (i7 (b9 1) c9)<|d6 0))<|λ_=>u4)
   (c7 (j6 2 (sF G7 z<|d6 1) O)
   (c7 (A5 (k7 MZ (b9 2)<|PD.pb CG) (d7<|j0 c9) p7)
   (c7 (j6 3 (sF G7 z<|P6 ["way"] ["along"] [2] rfl (N8 (sc:=c6 A2) (N:=M6)) (A3<|d6 1) (QI λ_ _ _ _ _=>(dS C8 z (d6 1)<|d6 0))<|λ_=>u4) O)
   (c7 (A5 (k7 MZ (b9 3)<|PD.pb CG) (d7<|j0 c9) p7)
   (c7 (A5 (uN<|IZ (WF rfl)<|PD.pb<|P6 ["way"] ["upright"] [3] rfl (N8 (sc:=c6 A2) (N:=M6)) (A3<|d6 1) (QI λ_ _ _ _ _=>(eZ (bM hu) (PD.pb<|dS y7 z (d6 1)<|d6 0) J4))<|λ_=>u4) (d7<|j0 c9) p7)
   (d7<|j0 c9))))))))
 match o,h with
 |[.lst Y],h=>
  simp only[m6]at h;split at h
  .rename_i j l;rw[m9 l];split at h
   .rename_i hz;rw[<-h];obtain⟨au,E⟩:=hz;match j,au with
    |p::r,_=>
    obtain⟨e,a⟩:∃e,(p::r).map vd=e:=⟨_,rfl⟩;have i0:X3 (.lst e) (.int 0)=.ok (vd p):=bT (by rw[aJ (by decide),<-a];rfl);have H:A0 (λd ρ=>R.ok (aEb ρ 0<|Sl.v d)) (λx=>R.ok true) (λρ=>(((vS 1 ρ).bind λx=>X3 x (D.int 0)).bind λd=>((bW 0 ρ).bind λd=>R.ok [d]).bind λo=>R.ok (d::o)).bind o5) [.no,.v (.lst e)] e=.ok (((p::r).map (· -p)).map vd):=by rw[aBJ];rw[show A0 _ _ _ _ e=A0 _ _ _ _ ((p::r).map vd)by rw[a]];refine dE vd _ _ λq m=>⟨[.v (vd q),Sl.v (.lst e)],rfl,?_⟩;show((X3 (.lst e)<|.int 0).bind _).bind _=_;rw[i0];rfl
    have l:∀w∈(p::r).map (· -p),Sz 1001 w:=λw l=>by obtain⟨q,m,rfl⟩:=aAo.mp l;exact(E.1 q m).sub (E.1 p (.head _))
    have I:(((p::r).map (· -p)).map vd).length<=sizeLine:=by rw[aAh,aAh];exact small E.2
    have J:e.length<=sizeLine:=by rw[<-a,aAh];exact small E.2
    have f:((e.length:Int)==0)=false:=by rw[<-a];simp;lia
    have t:=AE ((p::r).map (· -p));unfold G.t9;dsimp only;rw[a];generalize(p::r).map (· -p)=W at*
    have n:=λu=>AE (W.map<|G.cr u);cases Q:G.A6 W with
    |none=>rw[Q]at t;simp[j4,i8,J,f,H,t,CA,MV]
    |some s=>
     rw[Q]at t;obtain⟨hm,_⟩:=G.p8 Q;have A:=l s hm;have B:A0 (λd ρ=>R.ok (aEb ρ 0<|Sl.v d)) (λx=>R.ok true) (λρ=>((bW 1 ρ).bind λd=>((bW 0 ρ).bind λd=>R.ok [d]).bind λo=>R.ok (d::o)).bind w5) [.no,.v (vd s)] (W.map vd)=.ok ((W.map<|G.cr s).map vd):=by rw[aBJ];refine dE vd _ _ λq m=>⟨[.v (vd q),Sl.v (vd s)],rfl,?_⟩;show w5 [vd s,vd q]=_;exact bO A.mono (l q m).mono
     have n:=AE (W.map<|G.cr s);have eW:(W.map vd).length=W.length:=aAh ..;rw[eW]at I;cases C:G.A6 (W.map<|G.cr s)with
     |none=>rw[C]at n;simp only[aBJ]at B n;simp only[C];simp[j4,i8,J,f,H,t,CA,MV,I,B,n]
     |some i=>
      rw[C]at n;obtain⟨kl,_⟩:=G.p8 C;have T:Sz 2003 i:=by obtain⟨q,m,rfl⟩:=aAo.mp kl;exact(A.cr<|l q m).mono
      have c3:A0 (λd ρ=>R.ok (aEb ρ 0<|Sl.v d)) (λx=>R.ok true) (λρ=>(((bW 1 ρ).bind λd=>((bW 0 ρ).bind λd=>R.ok [d]).bind λo=>R.ok (d::o)).bind o6).bind λx=>yA x (D.int 0)) [.no,.v (vd i)] (W.map vd)=.ok ((W.map λw=>decide (G.c5 i w≠0)).map D.bl):=by rw[aBJ];refine dE vd _ _ λq m=>⟨[.v (vd q),Sl.v (vd i)],rfl,?_⟩;show(o6 [vd i,vd q]).bind _=_;rw[gZ T.mono (l q m).mono,R.aa0,ax];congr 2;rw[aDX];simp
      have y:=XR (W.map λw=>decide (G.c5 i w≠0));have U:(W.map λw=>decide (G.c5 i w≠0)).any id=W.any λw=>decide (G.c5 i w≠0):=by rw[List.any_map];rfl
      rw[U]at y;simp only[aBJ]at B n c3 y;simp only[C];generalize(λw=>decide (G.c5 i w≠0))=Bf at*
      cases hc:W.any Bf with
      |false=>rw[hc]at y;simp[j4,i8,J,f,H,t,CA,MV,I,B,n,c3,y]
      |true=>rw[hc]at y;simp[j4,i8,J,f,H,t,CA,MV,I,B,n,c3,y]
   .cases h
  .cases h
def S4 (o:mg "len"=none)(b:XCls K mg ae "NoPoints" aa)(g:dR K mg "dimension_of" A2):dU P w K mg base 2 "dimension_of" 1 (qT aa):=by
 obtain⟨f,p,i,d⟩:=g;refine' lX (k:=1) (G:=_) d R7 (d.binds λ_ _ _ _ _ _ j e=>match j,e with|[_],_=>rfl) i (λU A a s H E l=>?hb) ?hm
 case hb=>have m:=l.units;have q:=R7.nd;refine' (U3<|VR (k7 (U8 m) (PD.pb<|IZ X4<|b9 0) J4) (U3<|xR Y7 rfl b.ex PySem.F.excBase_ValueError b.nm<|i5 NU l5) rH)
 case hm=>
  intro n C e h;match n,h with
  |[.lst []],h=>rw[<-h];simp[j4,bq,qT]
def W7 (n8:v9 P w K mg base 2 "dimension_of" 1 m6)(g:dR K mg "refuse_flat" P9):v9 P w K mg base 3 "refuse_flat" 1 B4:=by
 refine' m8 (k:=2) (F:=_) g V3 (λf p q r=>?b) λi d s h=>?_
 case b=>refine' (d7<|A5 (k7 sM (PD.pb<|sF n8 f<|d6 0) J4) (d7 iS) p7)
 match i,h with
 |[.lst Y],h=>
  simp only[B4]at h;split at h
  .rename_i j l;rw[m9 l];split at h
   .rename_i m;rw[<-h];obtain⟨n,a⟩:=m;have o:j≠[]:=λe=>by subst e;cases a
    have e:=KU o n;rw[a]at e;simp[j4,e]
   .cases h
  .cases h
def U6 (n8:v9 P w K mg base 2 "dimension_of" 1 m6)(S4:dU P w K mg base 2 "dimension_of" 1 (qT aa))(d:XCls K mg ae "Flat" af)(g:dR K mg "refuse_flat" P9):dU P w K mg base 3 "refuse_flat" 1 (M1 af aa):=by
 obtain⟨f,u,n,i⟩:=g;refine' lX (k:=2) (G:=_) i V3 (i.binds λ_ _ _ _ _ _ o l=>match o,l with|[_],_=>rfl) n (λU A a s H E b=>?hb) ?hm
 case hb=>have v:=b.units;have x:=V3.nd;refine' (YA (U3 (XD (vG Y7 S4 (b.mono (by decide)) (i5 (d6 0) l5)<|t4 F8)))<|U3<|VR (k7 sM (PD.pb<|sF n8 b<|d6 0) J4) (U3<|xR Y7 rfl d.ex PySem.F.excBase_ValueError d.nm<|i5 NU l5) rH)
 case hm=>
  intro p C l h;match p,h with
  |[.lst Y],h=>
   rcases rZ h with⟨rfl,rfl⟩|⟨j,rfl,m,q,r,rfl⟩
   .simp[j4,mX,qT]
   .have e:=OB q m;have lt:=BB r;have lt':((G.t9 j:Nat):Int)<3:=by lia
    have t:qT aa [.lst (j.map vd)]=none:=by
     match j,m with
     |P::j,_=>rfl
    generalize((G.t9 j:Nat):Int)=y at*
    generalize j.map vd=L at*
    simp[j4,mX,t,e,lt',bq]
def F6 (iV:v9 P w K mg base 1 "side_of" 2 Y8)(g:dR K mg "points_on" W3):v9 P w K mg base 2 "points_on" 2 z7:=by
 refine' m8 (k:=1) (F:=_) g vC (λl m p q=>?b) λf d r h=>?_
 case b=>refine' (d7<|j0<|P6 ["P"] ["plane"] [0] rfl (N8 (sc:=c6 W3) (N:=kL)) (A3<|d6 1) (xw λ_ _ _ _ _=>⟨(k7 (U8 m) (PD.pb<|dS iV l (d6 1)<|d6 0) J4),(d6 0)⟩)<|λ_=>u4)
 replace h:=VZ h;obtain⟨a,b,c,d,f,rfl,h⟩:=h;replace h:=aE h;obtain⟨Y,f,rfl,h⟩:=h;replace h:=y8 h;obtain⟨rfl,h⟩:=h
 .skip
  split at h
  .rename_i j n;rw[m9 n];split at h
   .rename_i i;rw[<-h];have e:=cZ vd (G:=λd ρ=>R.ok (aEb ρ 0<|Sl.v d)) (ft:=λρ=>((((bW 1 ρ).bind λd=>((bW 0 ρ).bind λd=>R.ok [d]).bind λf=>R.ok (d::f)).bind Y8).bind λx=>AX x (D.int 0)).bind CI) (fe:=bW 0) (ρ:=[.no,.v (.tup [D.int a,D.int b,D.int c,D.int d])])
     (λX=>decide (G.c5 ⟨a,b,c⟩ X=d)) vd j λP o=>⟨[.v (vd P),Sl.v (D.tup [D.int a,D.int b,D.int c,D.int d])],rfl,by simp[TW i.1.mono (i.2.1 P o).mono,a1u,G.c5];exact decide_eq_decide.mpr (by lia),λ_=>rfl⟩
    simp[j4,i8,small i.2.2,e];rfl
   .cases h
  .cases h
def J6 (n9:v9 P w K mg base 1 "way_between" 2 o5)(y7:v9 P w K mg base 1 "product_of" 2 o6)(C8:v9 P w K mg base 1 "cross_of" 2 w5)(S1:v9 P w K mg base 2 "plane_through" 3 R5)(U:NE K mg "NO_WAY" [0,0,0])(g:dR K mg "plane_about" X9):v9 P w K mg base 3 "plane_about" 2 D9:=by
 refine' m8 (k:=2) (F:=_) g mJ (λs hu gi q=>?b) λJ d hl h=>?_
 case b=>
  refine' (c7 (j6 2 (dS n9 s (i7 (b9 0) c9)<|i7 (b9 0) c9) q)
   (c7 (j6 3 (uS U) q)
   (c7 (j6 4 (i7 (b9 0) c9) q)
   (c7 (P7 aBu rfl (A3<|d6 1) (C3 5 q) (c7 (j6 6 (dS n9 s (i7 (b9 0) c9)<|d6 5) q)
   (d7 (A5 (CS.pt<|pF (k7 (U8 hu) (b9 3)<|PD.pb<|uS U)<|lV<|k7 pL (PD.pb<|dS y7 s (d6 3)<|d6 6) J4) (c7 (j6 3 (dS C8 s (d6 2)<|d6 6) q)
   (d7<|j6 4 (d6 5) q)) p7))))
   (d7<|j0<|pc3 S1 s (i7 (b9 0) c9) (i7 (b9 0) c9)<|d6 4)))))
 replace h:=sV h;obtain⟨N,J,rfl,h⟩:=h;replace h:=aE h;obtain⟨Y,J,rfl,h⟩:=h;replace h:=y8 h;obtain⟨rfl,h⟩:=h;replace h:=F9 h;obtain⟨a,b,c,N,rfl,h⟩:=h;replace h:=F9 h;obtain⟨d,e,f,N,rfl,h⟩:=h;replace h:=y8 h;obtain⟨rfl,h⟩:=h
 .skip
  split at h
  .rename_i j hw;rw[m9 hw];split at h
   .rename_i hz;rw[<-h];obtain⟨r,H,hs,L⟩:=hz;have vA:(.tup [.int a,.int b,.int c]:D)=vd ⟨a,b,c⟩:=rfl;have vB:(.tup [.int d,.int e,.int f]:D)=vd ⟨d,e,f⟩:=rfl;rw[vA,vB];generalize(⟨a,b,c⟩:G.V)=A at*
    generalize(⟨d,e,f⟩:G.V)=B at*
    simp[j4];have z0:(.tup [.int 0,.int 0,.int 0]:D)=vd 0:=rfl;rw[z0];refine gM (λrest ρ=>∃(l i:G.V) (m:List G.V) (x y:Sl),ρ=[.v (.tup [vd A,vd B]),.v (.lst (aDo vd j)),.v (vd<|B-A),.v (vd l),.v (vd i),x,y]/\rest=m.map vd/\Sz 2003 l/\Sz 1000 i/\(∀X∈m,Sz 1000 X)/\G.F1 (B-A) A m l i=G.F1 (B-A) A j 0 A) ?_ ⟨0,A,j,_,_,rfl,rfl,⟨by decide,by decide,by decide⟩,r,hs.1,rfl⟩ ?_
    .rintro d J ρ ⟨l,i,m,x,y,rfl,t,O,Q,C,n⟩;match m,t with
     |P::m,t=>
      injection t with e3 e4;subst e3 e4;have T:=C P (.head _);have I:=T.sub r;have e0:=eq0 l;rw[show(.tup [.int 0,.int 0,.int 0]:D)=vd 0 from rfl]at e0;have c1:=bO (u:=B-A) (v:=P-A) (H.sub r).mono I.mono;have p1:=gZ (u:=l) (v:=P-A) O.mono I.mono;have w1:=LI A P;have i0:X3 (.tup [vd A,vd B]) (.int 0)=.ok (vd A):=rfl
      conv at n=>lhs;unfold G.F1
      simp only[fM,aCc,aCd,bL,kS,eJ,bI,R.aa0,i0,w1,B9,e0,FI,p1,pE];by_cases o:l=0
      .rw[h9 (.inl o)]at n;refine⟨_,?_,G.cr (B-A) (P-A),P,m,.v (vd P),.v (vd<|P-A),rfl,rfl,(((H.sub r).cr I).mono),T,λX E=>C X (.tail _ E),n⟩;rw[decide_eq_true o];simp only[if_true,R.aa0,c1,B9,aCc,aCd,eJ,bI]
      .rw[decide_eq_false o];by_cases p:0<G.c5 l (P-A)
       .rw[h9 (.inr p)]at n;refine⟨_,?_,G.cr (B-A) (P-A),P,m,.v (vd P),.v (vd<|P-A),rfl,rfl,(((H.sub r).cr I).mono),T,λX E=>C X (.tail _ E),n⟩;rw[decide_eq_true p];simp only[if_true,aAu,if_false,R.aa0,c1,B9,aCc,aCd,eJ,bI]
       .rw[ic (λz=>z.elim o p)]at n;refine⟨_,?_,l,i,m,.v (vd P),.v (vd<|P-A),rfl,rfl,O,Q,λX E=>C X (.tail _ E),n⟩;rw[decide_eq_false p];simp only[aAu,if_false,R.aa0]
    .rintro ρ ⟨l,i,m,x,y,rfl,t,O,Q,C,n⟩;have:m=[]:=by simpa using t.symm
     subst this;have n:(l,i)=G.F1 (B-A) A j 0 A:=n;have eo:(G.F1 (B-A) A j 0 A).2=i:=by rw[<-n]
     unfold G.b8 at L⊢;rw[eo]at L⊢;have pl:=MG ⟨r,H,Q⟩ (RO L);simp[pl]
   .cases h
  .cases h
def aO (F6:v9 P w K mg base 2 "points_on" 2 z7)(J6:v9 P w K mg base 3 "plane_about" 2 D9)(n8:v9 P w K mg base 2 "dimension_of" 1 m6)(o:mg "min"=none)(g:dR K mg "first_pair" Z9):v9 P w K mg base 8 "first_pair" 1 G6:=by
 refine' m8 (k:=7) (F:=_) g qB (λf B gi p=>?b) λC d hl h=>?_
 case b=>
  have q:=f.ae7 (by decide);refine' (c7 (j6 1 (yJ (UC rfl q)<|t7 (b9 0) A9) p)
   (c7 (j6 2 (yx (d6 1)<|YS (i7 (b9 1) c9) (i7 (b9 1) c9)<|d9 y6 (PD.pb<|i7 (b9 1) c9) J4) p)
   (c7 (j6 3 (dS F6 f (dS J6 f (d6 2)<|d6 0)<|d6 0) p)
   (c7 (A5 (k7 (U8 B) (PD.pb<|sF n8 f<|d6 3) J4) (d7<|j0<|d6 2) p7)
   (d7<|j0<|yx (i7 (b9 3) c9)<|i7 (b9 3) c9)))))
 match C,h with
 |[.lst Y],h=>
  simp only[G6]at h;split at h
  .rename_i m j E;rw[m9 E];split at h
   .rename_i a;rw[<-h];have z:=WI a.good.ord;have i:X8 1000 (m::j):=a.sz.mono;have l:Sz 900 m:=a.sz.1 m (.head _);obtain⟨H,I,J,N,O⟩:=G.yT a.good.solid a.good.mem a.good.least;have s:=V2 l.mono (OU l) i H;have t:=vW l.mono (OU l) i;rw[nj]at s;have A:=iF (d:=(G.b8 m (m+G.kk) (m::j)).2) t.mono i;obtain⟨x,y,r,e⟩:=NW I N O;have Q:=OJ (n:=(G.b8 m (m+G.kk) (m::j)).1) (d:=(G.b8 m (m+G.kk) (m::j)).2) i;have u:=KU (j:=G.w6 (G.b8 m (m+G.kk) (m::j)).1 (G.b8 m (m+G.kk) (m::j)).2 (m::j)) (by rw[e];simp) Q;have T:X3 (.lst ((G.w6 (G.b8 m (m+G.kk) (m::j)).1 (G.b8 m (m+G.kk) (m::j)).2 (m::j)).map vd)) (.int 0)=.ok (vd x):=bT (by rw[e];exact iw _ _);have U:X3 (.lst ((G.w6 (G.b8 m (m+G.kk) (m::j)).1 (G.b8 m (m+G.kk) (m::j)).2 (m::j)).map vd)) (.int 1)=.ok (vd y):=bT (by rw[e];exact fy _ _ _);unfold G.f9;dsimp only;by_cases v:G.t9 (G.w6 (G.b8 m (m+G.kk) (m::j)).1 (G.b8 m (m+G.kk) (m::j)).2 (m::j))=2
    .rw[h9 v];rw[v]at u;generalize(m::j).map vd=L at*
     generalize(G.w6 (G.b8 m (m+G.kk) (m::j)).1 (G.b8 m (m+G.kk) (m::j)).2 (m::j)).map vd=L2 at*
     generalize(G.b8 m (m+G.kk) (m::j)).1=pn at*
     generalize(G.b8 m (m+G.kk) (m::j)).2=pm at*
     simp[j4,z,s,A,u,G.kk]
    .rw[ic v];have e0:(G.w6 (G.b8 m (m+G.kk) (m::j)).1 (G.b8 m (m+G.kk) (m::j)).2 (m::j)).getD 0 0=x:=by rw[e];rfl
     have e1:(G.w6 (G.b8 m (m+G.kk) (m::j)).1 (G.b8 m (m+G.kk) (m::j)).2 (m::j)).getD 1 0=y:=by rw[e];rfl
     rw[e0,e1];have hb:((G.t9 (G.w6 (G.b8 m (m+G.kk) (m::j)).1 (G.b8 m (m+G.kk) (m::j)).2 (m::j)):Int)==2)=false:=by rw[beq_eq_false_iff_ne];lia
     generalize(m::j).map vd=L at*
     generalize(G.w6 (G.b8 m (m+G.kk) (m::j)).1 (G.b8 m (m+G.kk) (m::j)).2 (m::j)).map vd=L2 at*
     generalize(G.t9 (G.w6 (G.b8 m (m+G.kk) (m::j)).1 (G.b8 m (m+G.kk) (m::j)).2 (m::j)):Int)=dd at*
     generalize(G.b8 m (m+G.kk) (m::j)).1=pn at*
     generalize(G.b8 m (m+G.kk) (m::j)).2=pm at*
     simp[j4,z,s,A,u,hb,T,U]
   .cases h
  .cases h
def kD (y7:v9 P w K mg base 1 "product_of" 2 o6)(C8:v9 P w K mg base 1 "cross_of" 2 w5)(n9:v9 P w K mg base 1 "way_between" 2 o5)(g:dR K mg "turn_of" iW):v9 P w K mg base 2 "turn_of" 4 cV:=by
 refine' m8 (k:=1) (F:=_) g AD (λm A B C=>?b) λn d E h=>?_
 case b=>refine' (d7<|j0<|dS y7 m (d6 0)<|dS C8 m (dS n9 m (d6 1)<|d6 2)<|dS n9 m (d6 2)<|d6 3)
 replace h:=F9 h;obtain⟨a,b,c,n,rfl,h⟩:=h;replace h:=F9 h;obtain⟨d,e,f,n,rfl,h⟩:=h;replace h:=F9 h;obtain⟨g,o,i,n,rfl,h⟩:=h;replace h:=F9 h;obtain⟨j,k,l,n,rfl,h⟩:=h;replace h:=y8 h;obtain⟨rfl,h⟩:=h
 .skip
  split at h
  .rename_i y;obtain⟨p,q,r,s⟩:=y;rw[<-h];have t:=bO (u:=⟨g,o,i⟩-⟨d,e,f⟩) (v:=⟨j,k,l⟩-⟨g,o,i⟩) (r.sub q).mono (s.sub r).mono;have x:=gZ (u:=⟨a,b,c⟩) (v:=G.cr (⟨g,o,i⟩-⟨d,e,f⟩) (⟨j,k,l⟩-⟨g,o,i⟩)) p.mono ((r.sub q).cr (s.sub r)).mono;simp only[vd,G.JC,G.PU,G.JT,G.UM,G.SU,G.UE]at t x;have z:∀a b c d e f:Int,o5 [.tup [.int a,.int b,.int c],.tup [.int d,.int e,.int f]]=.ok (.tup [.int (d-a),.int (e-b),.int (f-c)]):=λ_ _ _ _ _ _=>rfl;simp[j4,z,t,x,G.turn,G.i4]
  .cases h
def T6 (kD:v9 P w K mg base 2 "turn_of" 4 cV)(cb:mg "len"=none)(g:dR K mg "left_chain" aW):v9 P w K mg base 3 "left_chain" 2 T4:=by
 refine' m8 (k:=2) (F:=_) g pR (λhr hu gi T=>?b) λl d J h=>?_
 case b=>
  refine' (c7 (cW 2 (pM l5) T)
   (c7 (P7 aBu rfl (A3<|d6 1) (C3 3 T) (c7 (jC (λ_=>1001) aBu (CS.pt<|uG (k7 pL (PD.pb<|IZ X4<|b9 2) J4)<|oA<|k7 qw (PD.pb<|pc4 kD hr (d6 0) (i7 (b9 2)<|aH c9) (i7 (b9 2)<|aH c9)<|d6 3) J4)<|d7<|SY 2)
   (d7<|Z7 2<|d6 3)))
   (d7<|tJ 2<|j0<|d6 2)))
 replace h:=F9 h;obtain⟨a,b,c,l,rfl,h⟩:=h;replace h:=aE h;obtain⟨Y,l,rfl,h⟩:=h;replace h:=y8 h;obtain⟨rfl,h⟩:=h
 .skip
  split at h
  .rename_i j hw;rw[m9 hw];split at h
   .rename_i L;rw[<-h];obtain⟨U,hs⟩:=L;have vn:(.tup [.int a,.int b,.int c]:D)=vd ⟨a,b,c⟩:=rfl;rw[vn];generalize(⟨a,b,c⟩:G.V)=n at*
    simp[j4];refine gM (λrest ρ=>∃(c i:List G.V) (x:Sl),ρ=[.v (vd n),.v (.lst (aDo vd j)),.o (c.reverse.map vd),x]/\rest=i.map vd/\(∀X∈c,Sz 1000 X)/\(∀X∈i,Sz 1000 X)/\c.length+i.length<=1000/\i.foldl (λc P=>P::G.W2 n P c) c=G.v5 n j) ?_ ⟨[],j,_,rfl,rfl,λX p=>by(cases p),hs.1,by simpa using hs.2,rfl⟩ ?_
    .rintro d l ρ ⟨c,i,x,rfl,u,sc,N,J,y⟩;match i,u with
     |P::i,u=>
      injection u with e3 e4;subst e3 e4;have O:=N P (.head _);simp only[aAv]at J;simp only[fM,aCc,aCd];refine Exists.elim (wZ (n:=1001) (ρ:=[.v (vd n),.v (.lst (aDo vd j)),.o (c.reverse.map vd),.v (vd P)]) (Post:=λρ=>∃e,ρ=[.v (vd n),.v (.lst (aDo vd j)),.o (e.reverse.map vd),.v (vd P)]/\(∀X∈e,Sz 1000 X)/\e.length<=c.length/\e=G.W2 n P c)
       (c:=zQ (λρ=>((((vS 2 ρ).bind λd=>R.ok [d]).bind GZ).bind λx=>VE x (D.int 1)).bind CI) λρ=>((((bW 0 ρ).bind λd=>(((vS 2 ρ).bind λx=>X3 x (D.int (-2))).bind λd=>(((vS 2 ρ).bind λx=>X3 x (D.int (-1))).bind λd=>((bW 3 ρ).bind λd=>R.ok [d]).bind λl=>R.ok (d::l)).bind λl=>R.ok (d::l)).bind λl=>R.ok (d::l)).bind cV).bind λx=>lw x (D.int 0)).bind CI) (F:=λρ=>(CH 2 ρ).bind λz=>R.ok (Out.nx z.snd))
       (λm ρ=>∃e,ρ=[.v (vd n),.v (.lst (aDo vd j)),.o (e.reverse.map vd),.v (vd P)]/\(∀X∈e,Sz 1000 X)/\e.length<=c.length/\e.length<m/\G.W2 n P e=G.W2 n P c) ?_ (by rintro ρ ⟨e,_,_,_,h,_⟩;lia) ⟨c,rfl,sc,aAi _,by lia,rfl⟩ ?_) ?_
      .rintro m ρ ⟨e,rfl,sub,q,s,f⟩;match e,sub,q,s,f with
       |[],_,_,_,_=>exact .inl (by simp)
       |[a],_,_,_,_=>exact .inl (by simp)
       |b::a::r,sub,q,s,f=>
        have t:(b::a::r).reverse.map vd=r.reverse.map vd++[vd a,vd b]:=by simp
        have B:X3 (.lst ((b::a::r).reverse.map vd)) (.int (-1))=.ok (vd b):=bT (by rw[t];exact UR _ _ _);have C:X3 (.lst ((b::a::r).reverse.map vd)) (.int (-2))=.ok (vd a):=bT (by rw[t];exact US _ _ _);have E:=DZ U (sub a<|.tail _ (.head _)) (sub b<|.head _) O;have H:(1:Int)<(aDo vd (b::a::r).reverse).length:=by rw[aAh,aCE];simp;lia
        by_cases Q:G.turn n a b P<=0
        .refine .inr ⟨?_,[.v (vd n),.v (.lst (aDo vd j)),.o ((a::r).reverse.map vd),.v (vd P)],?_,a::r,rfl,λX p=>sub X (.tail _ p),?_,?_,?_⟩
         .simp only[uO,bL,CQ,R.aa0,BJ,pE,decide_eq_true H,FI,if_true,bI,eJ,B,C,E,AS,decide_eq_true Q]
         .show(match(aDo vd (b::a::r).reverse)[(aDo vd (b::a::r).reverse).length-1]? with|some d=>_|none=>_:R (D×Ev)).bind _=_;rw[t];simp
         .simp only[aAv]at q⊢;lia
         .simp only[aAv]at s⊢;lia
         .rw[<-f]
          conv=>rhs;unfold G.W2
          rw[h9 Q]
        .refine .inl ?_;simp only[uO,bL,CQ,R.aa0,BJ,pE,decide_eq_true H,FI,if_true,bI,eJ,B,C,E,AS,decide_eq_false Q]
      .rintro m ρ ⟨e,rfl,sub,q,s,f⟩ I;refine⟨e,rfl,sub,q,?_⟩;match e,sub,q,s,f,I with
       |[],_,_,_,f,_=>exact f
       |[a],_,_,_,f,_=>exact f
       |b::a::r,sub,q,s,f,I=>
        have t:(b::a::r).reverse.map vd=r.reverse.map vd++[vd a,vd b]:=by simp
        have B:X3 (.lst ((b::a::r).reverse.map vd)) (.int (-1))=.ok (vd b):=bT (by rw[t];exact UR _ _ _);have C:X3 (.lst ((b::a::r).reverse.map vd)) (.int (-2))=.ok (vd a):=bT (by rw[t];exact US _ _ _);have E:=DZ U (sub a<|.tail _ (.head _)) (sub b<|.head _) O;have H:(1:Int)<(aDo vd (b::a::r).reverse).length:=by rw[aAh,aCE];simp;lia
        simp only[uO,bL,CQ,R.aa0,BJ,pE,decide_eq_true H,FI,if_true,bI,eJ,B,C,E,AS,JW,decide_eq_false_iff_not]at I;rw[<-f]
        conv=>rhs;unfold G.W2
        rw[ic I]
      .rintro ρ2 ⟨ew,e,rfl,sub,q,A⟩;refine⟨[.v (vd n),.v (.lst (aDo vd j)),.o ((P::e).reverse.map vd),.v (vd P)],?_,P::e,i,_,rfl,rfl,?_,λX p=>N X (.tail _ p),?_,?_⟩
       .rw[ew];have L:(aDo vd e.reverse).length<sizeLine:=by rw[aAh,aCE];exact aCq (show e.length<=1000 by lia) (by decide)
        simp only[B9,eJ,bI,R.aa0];show(if(aDo vd e.reverse).length<sizeLine then _ else _)=_;rw[h9 L];simp
       .intro X p;rcases aAd.mp p with rfl|p
        .exact O
        .exact sub X p
       .simp;lia
       .rw[<-y,aFJ,A]
    .rintro ρ ⟨c,i,x,rfl,u,sc,N,J,y⟩;have:i=[]:=by simpa using u.symm
     subst this;have y:c=G.v5 n j:=y;subst y;simp[vM]
   .cases h
  .cases h
def kA (T6:v9 P w K mg base 3 "left_chain" 2 T4)(z:mg "list"=none)(A:mg "reversed"=none)(g:dR K mg "ring_of" jN):v9 P w K mg base 4 "ring_of" 2 O9:=by
 refine' m8 (k:=3) (F:=_) g BR (λf B C i=>?b) λm d E h=>?_
 case b=>
  refine' (c7 (j6 2 (dS T6 f (d6 0)<|d6 1) i)
   (c7 (j6 3 (dS T6 f (d6 0)<|PF.pd<|BG (b9 1) rfl) i)
   (d7<|j0<|d9 y6 (PD.pb<|kR (b9 2) R0<|G3<|aH c9)<|PD.pb<|kR (b9 3) R0<|G3<|aH c9)))
 replace h:=F9 h;obtain⟨a,b,c,m,rfl,h⟩:=h;replace h:=aE h;obtain⟨Y,m,rfl,h⟩:=h;replace h:=y8 h;obtain⟨rfl,h⟩:=h
 .skip
  split at h
  .rename_i j q;rw[m9 q];split at h
   .rename_i r;rw[<-h];obtain⟨o,e⟩:=r;have s:(.tup [.int a,.int b,.int c]:D)=vd ⟨a,b,c⟩:=rfl;rw[s];generalize(⟨a,b,c⟩:G.V)=n at*
    have t:=UU o e;have u:X8 1000 j.reverse:=e.sub (λP v=>by simpa using v) (by simp);have p:=UU o u;rw[aFx (l:=j)]at p;have H:=rT n j;have x:=rT n j.reverse;rw[aCE]at x;have y:yE (.lst ((G.v5 n j).reverse.map vd).dropLast) (.lst ((G.v5 n j.reverse).reverse.map vd).dropLast)=.ok (.lst ((G.t6 n j).map vd)):=by rw[FG (by simp only[aFY,aAh,aCE];exact aAq (show _<=2000 by have:=e.2;lia) (by decide))];unfold G.t6;rw[aBO,List.map_dropLast,List.map_dropLast]
    simp[-aFx,j4,t,p,SJ,y,pj]
   .cases h
  .cases h
def W9 (n:mg "list"=none)(a:mg "zip"=none)(g:dR K mg "pairs_round" X6):v9 P w K mg base 1 "pairs_round" 1 z6:=by
 refine' m8 (k:=0) (F:=_) g nV (λo p q r=>?b) λi d s h=>?_
 case b=>refine' (d7<|j0<|PF.pd<|CN (b9 0) (PD.pb<|d9 y6 (PD.pb<|kR (b9 0) (G3 c9) R0)<|PD.pb<|kR (b9 0) R0<|G3 c9) rfl)
 match i,h with
 |[.lst Y],h=>
  simp only[z6]at h;split at h
  .rename_i j l;rw[m9 l];split at h
   .rename_i t;rw[<-h];have m:yE (.lst (j.map vd).tail) (.lst ((j.map vd).take 1))=.ok (.lst ((j.tail++j.take 1).map vd)):=by rw[FG (by simp only[List.length_tail,aBP,aAh];exact NF (by lia))];rw[aBO,List.map_tail,aGp]
    have e:(j.map vd).length=((j.tail++j.take 1).map vd).length:=by
     simp only[aAh,aAK,List.length_tail,aBP]
     lia
    have f:SF [.lst (j.map vd),.lst ((j.tail++j.take 1).map vd)]=.ok ((G.W5 j).map G5):=by show(if _ then _ else _)=_;rw[h9 e,rJ (β:=Unit)];rfl
    simp[-aBO,-List.map_tail,-aGp,j4,QK,XS,m,f]
   .cases h
  .cases h
def aP (J6:v9 P w K mg base 3 "plane_about" 2 D9)(kA:v9 P w K mg base 4 "ring_of" 2 O9)(W9:v9 P w K mg base 1 "pairs_round" 1 z6)(C:mg "len"=none)(I:mg "sorted"=none)(g:dR K mg "faces_from" aQ):SG P w K mg base 8 3 "faces_from" G9:=by
 obtain⟨f,J,r,n⟩:=g;refine' UA (k:=7) (F:=_) n eF rfl (n.binds λ_ _ _ _ _ _ t u=>match t,u with|[_,_,_],_=>rfl) r (λU A e s H E a=>?hb) ?hm
 case hb=>
  have L:=a.units;have o:=a.ae9;have i:=a.ae7 (by decide);have b:=eF.nd;refine' (c7 (cW 3 (pM l5) b)
   (c7 (MN 4 b)
   (c7 (cW 5 (pM<|i5 (d6 0) l5) b)
   (c7 (jC (λ_=>5000) aBu (k7 pL (PD.pb<|IZ X4<|b9 5) J4) (c7 (BP 6 5 b)
   (d7 (A5 (GB 4 (d6 6) o) (c7 (j6 7 (dS J6 a (d6 6) (yB 1 (k:=3) (Φ:=JB P w K mg base 3 1) rfl (i5 (i7 (b9 6) c9) l5) (t4 F8) (a.mono (by decide)))) b)
   (c7 (j6 8 (dS kA a (kR (b9 7) R0<|G3 c9) (yB 2 (k:=3) (Φ:=JB P w K mg base 3 1) rfl (i5 (d6 7) l5) (t4 F8) (a.mono (by decide)))) b)
   (c7 (Z7 3<|yx (d6 7)<|d6 8)
   (d7 (P7 aBu rfl (A3<|sF W9 a<|d6 8) (C3 9 b) (c7 (zM 4 eU (d6 9) o)
   (d7<|Z7 5<|yx (i7 (b9 9) c9)<|i7 (b9 9) c9))))))) p7))))
   (d7<|j0<|PF.pd<|zR (b9 3) rfl i)))))
 case hm=>
  intro d N O Q h;simp only[G9]at h;split at h
  .rename_i Y v;split at h
   .rename_i m j x;split at h
    .rename_i l;rw[<-h];obtain⟨l,y,z,p,q⟩:=l;rw[m9 x]at p q;subst z p q;have B:(1:Nat)<=sizeLine:=by decide
     simp only[iU,bI,V8,aI,R.aa0,aAv,aBr,aEj,B,if_true,B9];exact uk (Φ:=JB P w K mg base 3 1) l y
    .cases h
   .cases h
  .cases h
def sG:Nst:=⟨"about",FQ,E9 bS,p5 bS,c6 bS,DE bS,["corner"],[],["spread"],[1],(λρ=>(bW 1 ρ).bind λd=>.ok (.rt d)),J9,2⟩
def cO:Nst:=⟨"touched_by",gK,E9 J7,p5 J7,c6 J7,DE J7,["plane"],[],["spread"],[1],(λρ=>((l9 (bW 0) (l9 (bW 1) R3) ρ).bind z7).bind λd=>.ok (.rt d)),D2,3⟩
def IR {f:bp}{U:av}{A:cq}{a:List Env}{s:bb}{H:Hp}{E:XK}:NstOk (TX P w K mg base fJ "faces_of" (c6 G4) f U A a s H E) 2 sG where
 sc:=⟨rfl,rfl,rfl,by decide+kernel,by decide+kernel,by decide+kernel,λx h=>ES h,by decide+kernel⟩
 one:=rfl
 body:=λt k e A a s H l=>by have u:=l.units;exact(d7<|j0<|d6 1)
 mm:=by
  intro m n d b g h;match m,n,b,g,h with
  |[_],[_],_,_,h=>cases h;rfl
 bind:=λe o v k p q r=>match q,r with|[_],_=>rfl
 len:=rfl
 at_:=λi j x b g=>match i,b,g with
  |0,b,g=>by obtain rfl:1=j:=Option.some.inj b;obtain rfl:("spread":Str)=x:=Option.some.inj g;exact⟨rfl,rfl⟩
  |i+1,b,_=>nomatch(show(none:Option Nat)=some j from b)
 d0:=rfl
 k0:=rfl
 nm:=rfl
 lc:=.inl rfl
 st:=.inl rfl
 dbg:=by decide
 cdt:=by decide
def oE (F6:v9 P w K mg base 2 "points_on" 2 z7){f:bp}{U:av}{A:cq}{a:List Env}{s:bb}{H:Hp}{E:XK}:NstOk (TX P w K mg base fJ "faces_of" (c6 G4) f U A a s H E) 2 cO where
 sc:=⟨rfl,rfl,rfl,by decide+kernel,by decide+kernel,by decide+kernel,λx h=>ES h,by decide+kernel⟩
 one:=rfl
 body:=λy m g A a s H l=>by have z:=l.units;exact(d7<|j0<|dS F6 l (d6 0)<|d6 1)
 mm:=by
  intro n o d b k h;match n,o,b,k,h with
  |[w],[p],_,_,h=>have h:z7 [p,w]=.ok d:=h;show M9 (((l9 (bW 0) (l9 (bW 1) R3) [.v p,.v w]).bind z7).bind λd=>.ok (.rt d))=.ok d;have e:l9 (bW 0) (l9 (bW 1) R3) [.v p,.v w]=.ok [p,w]:=rfl;rw[e,R.aa0,h];rfl
 bind:=λg q B m r t u=>match t,u with|[_],_=>rfl
 len:=rfl
 at_:=λi j x b k=>match i,b,k with
  |0,b,k=>by obtain rfl:1=j:=Option.some.inj b;obtain rfl:("spread":Str)=x:=Option.some.inj k;exact⟨rfl,rfl⟩
  |i+1,b,_=>nomatch(show(none:Option Nat)=some j from b)
 d0:=rfl
 k0:=rfl
 nm:=rfl
 lc:=.inl rfl
 st:=.inl rfl
 dbg:=by decide
 cdt:=by decide
def V5 {y:bp}(F6:v9 P w K mg base 2 "points_on" 2 z7)(W7:v9 P w K mg base 3 "refuse_flat" 1 B4)(aO:v9 P w K mg base 8 "first_pair" 1 G6)(aP:SG P w K mg base 8 3 "faces_from" G9)(eu:mg "sorted"=none)(tf:mg "set"=none)(Q:gU mg base)(l:(y,tbK)∈Tabs.tbs)(g:YM K mg "faces_of" G4 y):v9 P w K mg base 9 "faces_of" 1 K5:=by
 obtain⟨f,fd,cd,T,U,z⟩:=g;refine' SE (k:=8) (F:=_) z W4 (z.fn.binds λ_ _ _ _ _ _ us B=>match us,B with|[_],_=>rfl) T (λA o s H E a=>?hb) ?hm
 case hb=>
  have hu:=a.units;have gi:=a.ae9;have p:=a.ae7 (by decide);have C:=W4.nd;refine' (c7 (oU<|sF W7 a<|d6 0)
   (c7 (j6 1 (PF.pd<|iA (b9 0) rfl p) C)
   (CW (n1:=sG) (n2:=cO) (clos1:=[("spread",s.heap.objs.size+1)]) (clos2:=[("spread",s.heap.objs.size+1)]) (tb:=tbK) IR (oE F6) ?co1 ?co2 ?hA Q rfl U l (by decide+kernel) (by decide+kernel) (by decide+kernel) (by decide+kernel) (by decide) C aP (a.mono (by decide)) (sF aO a<|d6 1) (λ_=>rfl))))
  case co1=>exact⟨rfl,rfl,rfl,λx c h=>h,λx q=>⟨_,by obtain rfl:x= "spread":=aAZ.mp q;rfl⟩⟩
  case co2=>exact⟨rfl,rfl,rfl,λx c h=>h,λx q=>⟨_,by obtain rfl:x= "spread":=aAZ.mp q;rfl⟩⟩
  case hA=>exact GF
 case hm=>
  intro t d B h;match t,h with
  |[.lst Y],h=>
   simp only[K5]at h;split at h
   .rename_i j hw;rw[m9 hw];split at h
    .rename_i hz;rw[<-h];obtain⟨I,J,i⟩:=hz;obtain⟨m,r,e,L⟩:=DM I J (aAq i.1 (by decide));have u:=UY (j:=j) (aAq i.1 (by decide));have fl:=RT (I.mono (n:=1000)) J;rw[e]at i u⊢;have N:=pz L;have O:=XI L i;obtain⟨b,eL⟩:∃b,(m::r).map vd=b:=⟨_,rfl⟩;rw[eL]at u N O;show M9 (B8 ((B4 [D.lst (j.map vd)]).bind λ_=>R.ok (Out.nx [.v (.lst (j.map vd)),.no,.no,.no])) _)=_;rw[fl,R.aa0,B9];show M9 (B8 (((tw<|.lst (j.map vd)).bind λt=>R.ok (D.lst t)).bind λd=>R.ok (Out.nx [.v (.lst (j.map vd)),.v d,.no,.no])) _)=_;rw[u,R.aa0,R.aa0,B9];show M9 (((G6 [D.lst b]).bind λd1=>(R.ok [D.lst b]).bind λw1=>(R.ok [D.lst b]).bind λw2=>G9 d1 (J9 w1) (D2 w2)).bind λd=>R.ok (Out.rt d))=_;rw[N,R.aa0,R.aa0,R.aa0,O];rfl
    .cases h
   .cases h
def Q9 {i:bp}(U6:dU P w K mg base 3 "refuse_flat" 1 (M1 af aa))(g:YM K mg "faces_of" G4 i):dU P w K mg base 9 "faces_of" 1 (M1 af aa):=by
 obtain⟨f,n,o,j,p,b⟩:=g;refine' lX (k:=8) (G:=_) b.fn W4 (b.fn.binds λ_ _ _ _ _ _ l d=>match l,d with|[_],_=>rfl) j (λU A a s H E e=>?hb) ?hm
 case hb=>have q:=e.units;have r:=W4.nd;refine' (U3 (SQ (vG Y7 U6 (e.mono (by decide)) (i5 (d6 0) l5)<|t4 F8)))
 case hm=>
  intro m C d h;match m,h with
  |[.lst Y],h=>simp[j4,mX,h]
def L7 (r:mg "sorted"=none)(s:mg "set"=none)(g:dR K mg "corners_in" bF):v9 P w K mg base 8 "corners_in" 1 C7:=by
 refine' m8 (k:=7) (F:=_) g pY (λl t u f=>?b) λm d x h=>?_
 case b=>
  have i:=l.ae7 (by decide);refine' (c7 (cW 1 (pM l5) f)
   (c7 (P7 aBu rfl (A3<|d6 0) (SN (n:=2) rfl<|sK (C3 2 f)<|sK (C3 3 f) NZ)<|d7<|AW 1<|d6 3)
   (d7<|j0<|PF.pd<|iA (b9 1) rfl i)))
 match m,h with
 |[.lst Y],h=>
  simp only[C7]at h;split at h
  .rename_i o p;split at h
   .rename_i j;rw[<-h];obtain⟨y,z,e⟩:=kG (a:=Sl.v (D.lst Y)) Y o [] Sl.no Sl.no p (by simpa using j.1);rw[aDw,aCC]at e;have q:=UY j.2;simp[j4,-List.map_flatten,e,q]
   .cases h
  .cases h
def Z6 (L7:v9 P w K mg base 8 "corners_in" 1 C7)(V5:v9 P w K mg base 9 "faces_of" 1 K5)(g:dR K mg "body_of" dH):v9 P w K mg base 10 "body_of" 1 N7:=by
 refine' m8 (k:=9) (F:=_) g fA (λf t u v=>?b) λn d x h=>?_
 case b=>refine' (d7<|j0<|sF L7 f<|sF V5 f<|d6 0)
 match n,h with
 |[.lst Y],h=>
  simp only[N7]at h;split at h
  .rename_i j o;rw[m9 o];split at h
   .rename_i p;rw[<-h];obtain⟨i,l,a⟩:=p;obtain⟨m,r,e,L⟩:=DM i l (aAq a.1 (by decide));have q:=wM i l a;have y:((B6<|l6 j).flatMap (G.f8<|l6 j)).length<=400/\(l6<|(B6<|l6 j).flatMap (G.f8<|l6 j)).length<=60:=by rw[e]at a⊢;exact FX L a
    have s:=CJ (j:=l6 j) (fs:=B6 (l6 j)) (by lia) (by lia);simp[j4,q,s,EU]
   .cases h
  .cases h
def eV (L7:v9 P w K mg base 8 "corners_in" 1 C7)(Q9:dU P w K mg base 9 "faces_of" 1 (M1 af aa))(g:dR K mg "body_of" dH):dU P w K mg base 10 "body_of" 1 (M1 af aa):=by
 obtain⟨f,m,i,b⟩:=g;refine' lX (k:=9) (G:=_) b fA (b.binds λ_ _ _ _ _ _ j d=>match j,d with|[_],_=>rfl) i (λU A a s H E e=>?hb) ?hm
 case hb=>have n:=e.units;have o:=fA.nd;refine' (U3 (WQ (RA L7 (vG Y7 Q9 (e.mono (by decide)) (i5 (d6 0) l5)<|t4 F8))))
 case hm=>
  intro l C d h;match l,h with
  |[.lst Y],h=>simp[j4,mX,h]
end
section
variable [Tabs]
variable{P:cp} {w:cu} {K:jb} {mg:W6} {base:cy}
variable{ae af aa:bp}
def jV (n8:v9 P w K mg base 2 "dimension_of" 1 m6)(Z6:v9 P w K mg base 10 "body_of" 1 N7)(q:mg "len"=none)(g:dR K mg "is_body" jH):v9 P w K mg base 11 "is_body" 1 uX:=by
 refine' m8 (k:=10) (F:=_) g BS (λa f r s=>?b) λj d t h=>?_
 case b=>
  refine' (c7 (A5 (CS.pt<|pF (k7 (U8 f) (PD.pb<|IZ X4<|b9 0) J4)<|lV<|k7 sM (PD.pb<|sF n8 a<|d6 0) J4) (d7<|j0 eU) p7)
   (d7<|j0<|eZ (U8 f) (PD.pb<|sF Z6 a<|d6 0)<|b9 0))
 replace h:=CO h;obtain⟨l,j,rfl,h⟩:=h;replace h:=y8 h;obtain⟨rfl,h⟩:=h;replace h:=fQ h;obtain⟨⟨i,m,o⟩,rfl⟩:=h;have e:=OB (m.mono (n:=1000)) i;have lt:=BB o;have lt':((G.t9 l:Nat):Int)<3:=by lia
 have p:¬(((l.map vd).length:Int)=0):=by
  rw[aAh];have:l.length≠0:=λz=>i (aDh z)
  lia
 generalize((G.t9 l:Nat):Int)=u at*
 generalize l.map vd=L at*
 simp[j4,p,e,lt']
end
section
variable [Tabs]
variable{P:cp} {w:cu} {K:jb} {mg:W6} {base:cy}
variable{ae af aa:bp}
def Q6 (o:mg "len"=none)(g:dR K mg "_law_cell" bP):v9 P w K mg base 1 "_law_cell" 2 iL:=by
 refine' m8 (k:=0) (F:=_) g vI (λp q r s=>?b) λj d t h=>?_
 case b=>
  refine' (c7 (A5 (k7 sM (b9 1)<|PD.pb<|IZ X4<|b9 0) (d7<|j0<|i7 (b9 0)<|d6 1) p7)
   (d7<|j0<|d9 y6 (PD.pb<|d9 y6 (PD.pb<|d9 o8 (PD.pb<|d9 o8 J4<|b9 1)<|b9 1)<|PD.pb<|d9 o8 J4<|b9 1) J4))
 match j,h with
 |[.lst Y,.int k],h=>
  simp only[iL]at h;split at h
  .rename_i l;obtain⟨m,u⟩:=l;rw[<-h];have a:bits k<=20:=u9 (by lia) (by lia);have f:bits (6*k)<=30:=u9 (by lia) (by lia);by_cases i:k<Y.length
   .have e:Y[k.toNat]?=some Y[k.toNat]:=aAj (by lia);have n:nQ Y k=some Y[k.toNat]:=by rw[aJ m,e]
    simp[j4,i,bT n,qX,e]
   .have e:Y[k.toNat]?=none:=aCm.mpr (by lia);simp[j4,i,qX,e,j3 (o9.of (show bits 6<=10 by decide) a),j3 (o9.of f a),j3 (o9.of (show bits 5<=10 by decide) a),M.yQ]
  .cases h
def fF (g:dR K mg "_law_way" fZ):v9 P w K mg base 1 "_law_way" 2 o5:=by
 refine' m8 (k:=0) (F:=_) g zD (λf i j l=>?b) λe d m h=>?_
 case b=>refine' (d7<|j0<|YS (d9 G0 (PD.pb<|i7 (b9 1) c9)<|PD.pb<|i7 (b9 0) c9) (d9 G0 (PD.pb<|i7 (b9 1) c9)<|PD.pb<|i7 (b9 0) c9)<|d9 G0 (PD.pb<|i7 (b9 1) c9)<|PD.pb<|i7 (b9 0) c9)
 replace h:=F9 h;obtain⟨a,b,c,e,rfl,h⟩:=h;replace h:=F9 h;obtain⟨n,o,p,e,rfl,h⟩:=h;replace h:=y8 h;obtain⟨rfl,h⟩:=h;exact h
def aT (g:dR K mg "_law_cross" aL):v9 P w K mg base 1 "_law_cross" 2 w5:=by
 refine' m8 (k:=0) (F:=_) g pQ (λp q r s=>?b) λe d t h=>?_
 case b=>refine' (d7<|j0<|YS (d9 G0 (PD.pb<|d9 o8 (PD.pb<|i7 (b9 0) c9)<|PD.pb<|i7 (b9 1) c9)<|PD.pb<|d9 o8 (PD.pb<|i7 (b9 0) c9)<|PD.pb<|i7 (b9 1) c9) (d9 G0 (PD.pb<|d9 o8 (PD.pb<|i7 (b9 0) c9)<|PD.pb<|i7 (b9 1) c9)<|PD.pb<|d9 o8 (PD.pb<|i7 (b9 0) c9)<|PD.pb<|i7 (b9 1) c9)<|d9 G0 (PD.pb<|d9 o8 (PD.pb<|i7 (b9 0) c9)<|PD.pb<|i7 (b9 1) c9)<|PD.pb<|d9 o8 (PD.pb<|i7 (b9 0) c9)<|PD.pb<|i7 (b9 1) c9)
 replace h:=F9 h;obtain⟨a,b,c,e,rfl,h⟩:=h;replace h:=F9 h;obtain⟨u,v,x,e,rfl,h⟩:=h;replace h:=y8 h;obtain⟨rfl,h⟩:=h;split at h
 .rename_i o;obtain⟨⟨f,i,j⟩,l,m,n⟩:=o;rw[<-h];simp[j4,j3 (o9.of i n),j3 (o9.of j m),j3 (o9.of j l),j3 (o9.of f n),j3 (o9.of f m),j3 (o9.of i l)]
 .cases h
def U1 (g:dR K mg "_law_product" V1):v9 P w K mg base 1 "_law_product" 2 o6:=by
 refine' m8 (k:=0) (F:=_) g kZ (λp q r s=>?b) λe d u h=>?_
 case b=>refine' (d7<|j0<|d9 y6 (PD.pb<|d9 y6 (PD.pb<|d9 o8 (PD.pb<|i7 (b9 0) c9)<|PD.pb<|i7 (b9 1) c9)<|PD.pb<|d9 o8 (PD.pb<|i7 (b9 0) c9)<|PD.pb<|i7 (b9 1) c9)<|PD.pb<|d9 o8 (PD.pb<|i7 (b9 0) c9)<|PD.pb<|i7 (b9 1) c9)
 replace h:=VV h;obtain⟨a,b,c,t,e,rfl,h⟩:=h;replace h:=F9 h;obtain⟨v,x,y,e,rfl,h⟩:=h;replace h:=y8 h;obtain⟨rfl,h⟩:=h;split at h
 .rename_i f;obtain⟨⟨i,j,l⟩,m,n,o⟩:=f;rw[<-h];simp[j4,VB,VH,VG,j3 (o9.of i m),j3 (o9.of j n),j3 (o9.of l o)]
 .cases h
def Y4 (g:dR K mg "_law_by" kE):v9 P w K mg base 1 "_law_by" 2 HI:=by
 refine' m8 (k:=0) (F:=_) g zP (λz A B j=>?b) λl d C h=>?_
 case b=>
  refine' (c7 (j6 2 c9 j)
   (c7 (P7 aBu rfl (A3<|XE (b9 0) (G3<|d9 y6 J4<|PD.pb<|d9 U7 (b9 1) J4) (G3 c9)<|G3 c9) (C3 3 j)<|d7<|j6 2 (d9 y6 (b9 2)<|PD.pb<|d9 L9 (b9 3)<|PD.pb<|d9 y6 J4<|PD.pb<|d9 L9 (b9 1) J4) j)
   (d7<|j0<|d9 y6 (b9 2)<|PD.pb<|d9 o8 (b9 1)<|b9 1)))
 replace h:=aE h;obtain⟨Y,l,rfl,h⟩:=h;replace h:=M2 h;obtain⟨k,l,rfl,h⟩:=h;replace h:=y8 h;obtain⟨rfl,h⟩:=h;replace h:=fQ h;obtain⟨⟨m,E,H⟩,rfl⟩:=h;obtain⟨n,I⟩:=NG (k:=k) m.1;have o:fL (.int k) (.int 5)=.ok (.int (k.fmod 5)):=L8 (by decide);have p:Z5 (.int k) (.int 5)=.ok (.int (k.fdiv 5)):=N1 (by decide) (by decide);have J:0<=k.fdiv 5/\k.fdiv 5<=200:=by rw[aEP _ (by decide)];lia
 have q:∀c:Int,Z5 (.int c) (.int (1+k.fdiv 5))=.ok (.int (c.fdiv<|1+k.fdiv 5)):=λc=>N1 (by lia) (by lia);have bk:bits k<=10:=u9 (by lia) (by lia);have kk:=j3 (o9.of bk bk);have r:ZC (some<|2+k.fmod 5) (some 63) (some 5) (.lst Y)=.ok (.lst ((RI Y k).map D.int)):=by rw[<-n];exact h9 ⟨by simp,aAq (PP m.2) (by decide)⟩
 unfold JA;generalize RI Y k=i at*
 simp only[j4,aAp,aDw,aAY,aCC,aAv,aBr,aEc,aEd,aCF,aCG];refine w9 (ρ:=[.v (.lst Y),.v (.int k),.v (.int 0),.no]) rfl ?_;refine nE (x:=i.map D.int) (by have s:∀x:Int,toI (.int x)=.ok (some x):=λ_=>rfl;simp-implicitDefEqProofs only[bL,kS,cR,R.aa0,o,gI,s,r,IH]) ?_
 refine gM (λrest ρ=>∃(a:List Int) (t:Int) (x:Sl),rest=a.map D.int/\ρ=[.v (.lst Y),.v (.int k),.v (.int t),x]/\t+(a.map λc=>c.fdiv (1+k.fdiv 5)).sum=(i.map λc=>c.fdiv (1+k.fdiv 5)).sum) ?_ ⟨i,0,_,rfl,rfl,Int.zero_add _⟩ ?_
 .rintro d l ρ ⟨a,t,x,f,rfl,e⟩;match a,f,e with
  |c::a,f,e=>
   injection f with u y;subst u;refine TU (ρ':=[.v (.lst Y),.v (.int k),.v (.int t),.v (.int c)]) rfl ⟨[.v (.lst Y),.v (.int k),.v (.int (t+c.fdiv (1+k.fdiv 5))),.v (.int c)],?_,a,_,_,y,rfl,?_⟩
   .simp-implicitDefEqProofs only[bL,kS,cR,R.aa0,p,gI,q,aCc,aCd]
   .rw[aAp,aBF]at e;lia
 .rintro ρ ⟨a,t,x,f,rfl,e⟩;have:a=[]:=by simpa using f.symm
  subst this;have e:t+0=(i.map λc=>c.fdiv (1+k.fdiv 5)).sum:=e;rw[aFF]at e;rw[<-e];simp-implicitDefEqProofs only[bL,kS,R.aa0,kk,gI];rfl
def J1 (Y4:v9 P w K mg base 1 "_law_by" 2 HI)(C:mg "int"=none)(E:mg "range"=none)(g:dR K mg "_law_drawn_way" J2):v9 P w K mg base 2 "_law_drawn_way" 3 OW:=by
 refine' m8 (k:=1) (F:=_) g gT (λi H I l=>?b) λa d J h=>?_
 case b=>
  refine' (c7 (j6 3 (i7 (PD.pb<|aV<|i5 c9<|i5 c9 l5)<|N9 JN<|t7 (PD.pb<|eZ pL (b9 2) J4) A9) l)
   (d7<|j0<|P6 ["j"] ["wide", "by", "script", "k"] [2,3,0,1] rfl (N8 (sc:=c6 J2) (N:=Y6)) (O6<|t7 J4 A9) (QI λ_ _ _ _ _=>(d9 G0 (PD.pb<|d9 U7 (PD.pb<|d9 o8 (PD.pb<|dS Y4 i (d6 3)<|d9 y6 (PD.pb<|d9 o8 J4<|b9 4)<|b9 0)<|b9 2)<|b9 1)<|PD.pb<|d9 L9 (b9 1) J4))<|λ_=>u4))
 replace h:=aE h;obtain⟨Y,a,rfl,h⟩:=h;replace h:=M2 h;obtain⟨k,a,rfl,h⟩:=h;replace h:=M2 h;obtain⟨w,a,rfl,h⟩:=h;replace h:=y8 h;obtain⟨rfl,h⟩:=h;replace h:=fQ h;obtain⟨⟨e,L,O,m⟩,rfl⟩:=h;obtain⟨n,Q⟩:=m.pos;have o:∀x:Int,fL (.int x) (.int w)=.ok (.int (x.fmod w)):=λx=>L8 n;have p:Z5 (.int w) (.int 2)=.ok (.int (w.fdiv 2)):=N1 (by decide) (by decide);have bk:bits k<=10:=u9 (by lia) (by lia);have r:CP (.int 3) (.int k)=.ok (.int (3*k)):=j3 (o9.of (show bits 3<=5 by decide) bk);have s:X3 (.lst [.int 1,.int 40009]) (.int (if decide (w>10000)=true then 1 else 0))=.ok (.int (bw w)):=by
  unfold bw;by_cases q:10000<w
  .rw[h9 q,h9 (decide_eq_true q)];rfl
  .rw[ic q,ic (by simpa using q)];rfl
 have t:bits (bw w)<=20:=by unfold bw;split<;>decide
 have u:∀j:Nat,j<3->HI [.lst Y,.int (3*k+(j:Int))]=.ok (.int (JA Y<|3*k+(j:Int)))/\CP (.int (JA Y<|3*k+(j:Int))) (.int (bw w))=.ok (.int (JA Y (3*k+(j:Int))*bw w)):=λj f=>⟨UX e (by lia) (by lia),j3 (o9.of (OD e (by lia) (by lia)) t)⟩;have y:IQ [.int 1,.int 40009]=.ok (.lst [.int 1,.int 40009]):=rfl;simp only[j4,aAp,aDw,aAY,aCC,aAv,aBr,aEc,aEd,aCF,aCG];refine w9 (by simp-implicitDefEqProofs only[V8,aI,bL,kS,cR,R.aa0,y,pE,KE,s,aCc,aCd];rfl) ?_;have z:fY [.int 3]=.ok ((aAU 3).map λ(j:Nat)=>D.int (j:Int)):=rfl;simp-implicitDefEqProofs only[V8,aI,cR,R.aa0,z];rw[lJ (λ(j:Nat)=>D.int (j:Int)) D.int (cw Y k w) (aAU 3) (by decide) λj f=>⟨[.v (.int (j:Int)),.v (.int w),.v (.int (bw w)),.v (.lst Y),.v (.int k)],rfl,?_⟩]
 .rfl
 .obtain⟨A,B⟩:=u j (aBm.mp f);simp-implicitDefEqProofs only[V8,aI,bL,kS,eJ,bI,cR,R.aa0,r,gI,A,B,o,p,lL];rfl
def N6 (Q6:v9 P w K mg base 1 "_law_cell" 2 iL)(J1:v9 P w K mg base 2 "_law_drawn_way" 3 OW)(Y4:v9 P w K mg base 1 "_law_by" 2 HI)(ie:mg "range"=none)(cb:mg "len"=none)(ua:mg "tuple"=none)(g:dR K mg "_law_points_by" u7):v9 P w K mg base 3 "_law_points_by" 1 AT:=by
 refine' m8 (k:=2) (F:=_) g iB (λL hu gi H=>?b) λds d hl h=>?_
 case b=>
  refine' (c7 (j6 1 (dS Q6 L (d6 0) c9) H)
   (c7 (j6 2 (i7 (PD.pb<|aV<|i5 c9<|i5 c9<|i5 (d9 y6 (PD.pb<|d9 o8 J4<|PD.pb<|d9 PL J4 J4) J4)<|i5 (d9 y6 (PD.pb<|d9 o8 J4<|PD.pb<|d9 PL J4 J4) J4) l5)<|d9 U7 (PD.pb<|d9 L9 (b9 1) J4) J4) H)
   (c7 (cW 3 (FM ["k"] ["script", "wide"] [0,2] rfl (N8 (sc:=c6 u7) (N:=C1)) (O6<|t7 (PD.pb<|d9 U7 (b9 1) J4) A9) (QI λ_ _ _ _ _=>(pc3 J1 L (d6 1) (d6 0)<|d6 2))<|λ_=>u4) H)
   (c7 (A5 (CS.pt<|uG (k7 (U8 hu) (PD.pb<|d9 U7 (PD.pb<|d9 L9 (b9 1) J4) J4) J4)<|oA<|k7 pL (PD.pb<|IZ X4<|b9 3) J4) (d7<|GK 3 (P6 ["number"] ["shape"] [1] rfl (N8 (sc:=c6 u7) (N:=C1)) (A3<|i7 (b9 3) c9) (QI λ_ _ _ _ _=>(d9 o8 (PD.pb<|d9 G0 (PD.pb<|d9 U7 (PD.pb<|d9 L9 (b9 1) J4) J4) J4)<|b9 0))<|λ_=>u4)<|aH c9) p7)
   (c7 (A5 (CS.pt<|uG (k7 (U8 hu) (PD.pb<|d9 U7 (PD.pb<|d9 L9 (b9 1) J4) J4) J4)<|oA<|k7 pL (PD.pb<|IZ X4<|b9 3) J4) (d7<|CK 3 (FM ["j"] ["ways"] [3] rfl (N8 (sc:=c6 u7) (N:=C1)) (O6<|t7 J4 A9) (QI λ_ _ _ _ _=>(d9 G0 (PD.pb<|i7 (PD.pb<|i7 (b9 1) c9)<|d6 0)<|PD.pb<|d9 o8 J4<|PD.pb<|i7 (PD.pb<|i7 (b9 1) c9)<|d6 0))<|λ_=>u4)<|aH c9) p7)
   (c7 (cW 4 (pM l5) H)
   (c7 (P7 aBu rfl (O6<|t7 (PD.pb<|d9 y6 J4<|PD.pb<|d9 U7 (PD.pb<|dS Q6 L (d6 0) c9)<|PD.pb<|i7 (PD.pb<|aV<|i5 c9<|i5 c9<|i5 c9<|i5 c9 l5)<|d9 U7 (PD.pb<|d9 L9 (PD.pb<|dS Q6 L (d6 0) c9) J4) J4) A9) (C3 5 H) (c7 (j6 6 (pc3 J1 L (d6 0) c9<|d6 2) H)
   (c7 (P7 aBu rfl (O6<|t7 (PD.pb<|IZ X4<|b9 3) A9) (C3 7 H) (c7 (j6 8 (d9 G0 (PD.pb<|d9 U7 (PD.pb<|dS Y4 L (d6 0)<|d9 y6 (PD.pb<|d9 y6 J4<|PD.pb<|d9 o8 J4<|b9 5)<|b9 7) J4) J4) H)
   (d7<|tJ 3<|j6 6 (P6 ["i"] ["point", "times", "ways", "j"] [6,8,3,7] rfl (N8 (sc:=c6 u7) (N:=C1)) (O6<|t7 J4 A9) (QI λ_ _ _ _ _=>(d9 y6 (PD.pb<|i7 (b9 1)<|d6 0)<|PD.pb<|d9 o8 (b9 2)<|PD.pb<|i7 (PD.pb<|i7 (b9 3)<|d6 4)<|d6 0))<|λ_=>u4) H)))
   (d7<|Z7 4<|N9 JI<|t7 (b9 6) A9))))
   (d7<|tJ 4<|j0<|d6 4))))))))
 replace h:=aE h;obtain⟨Y,ds,rfl,h⟩:=h;replace h:=y8 h;obtain⟨rfl,h⟩:=h;replace h:=fQ h;obtain⟨E,rfl⟩:=h;obtain⟨c1,b1⟩:=WB E.1 1 (by decide) (by decide);obtain⟨c0,b0⟩:=WB E.1 0 (by decide) (by decide);obtain⟨s,O⟩:∃s,cJ Y 1=s:=⟨_,rfl⟩;obtain⟨w,ew⟩:∃w,wI s=w:=⟨_,rfl⟩;have hw:WO w:=by rw[<-ew];exact LB s
 rw[O]at c1 b1;have d4:Z5 (.int s) (.int 4)=.ok (.int (s.fdiv 4)):=N1 (by decide) (by decide);have m4:fL (.int (s.fdiv 4)) (.int 4)=.ok (.int ((s.fdiv 4).fmod 4)):=L8 (by decide);have f4:=F3 (a:=s.fdiv 4) (b:=4) (by decide);have ixw:X3 (.lst [.int 7,.int 2001,.int 2000000001,.int 20000000000000000000000000000000000000001]) (.int ((s.fdiv 4).fmod 4))=.ok (.int w):=by rw[<-ew];unfold wI;rcases(show(s.fdiv 4).fmod 4=0\/(s.fdiv 4).fmod 4=1\/(s.fdiv 4).fmod 4=2\/(s.fdiv 4).fmod 4=3 by lia)with e|e|e|e<;>rw[e]<;>rfl
 have ms:fL (.int s) (.int 4)=.ok (.int (s.fmod 4)):=L8 (by decide);have fs:=F3 (a:=s) (b:=4) (by decide);have rn:fY [.int (s.fmod 4)]=.ok ((aAU (s.fmod 4).toNat).map λ(k:Nat)=>D.int (k:Int)):=by rw[<-jq (n:=(s.fmod 4).toNat) (by lia),show(((s.fmod 4).toNat:Nat):Int)=s.fmod 4 by lia]
 obtain⟨w0l,w0e,Q⟩:=vF Y;obtain⟨w1l,T⟩:=JF Y;obtain⟨w2l,w2z⟩:=BA Y;have e0:lI Y=(aAU (s.fmod 4).toNat).map λ(k:Nat)=>QC Y (k:Int) w:=by unfold lI;rw[O,ew]
 have m:Z5 (.int s) (.int 16)=.ok (.int (s.fdiv 16)):=N1 (by decide) (by decide);have I:fL (.int (s.fdiv 16)) (.int 3)=.ok (.int ((s.fdiv 16).fmod 3)):=L8 (by decide);have U:Z5 (.int s) (.int 48)=.ok (.int (s.fdiv 48)):=N1 (by decide) (by decide);have m5:fL (.int (s.fdiv 48)) (.int 5)=.ok (.int ((s.fdiv 48).fmod 5)):=L8 (by decide);have r:∀(f:List G.V) (i:Nat),i<f.length->X3 (.lst (f.map wl)) (.int (i:Int))=.ok (wl<|f.getD i 0):=λf i E=>bT (by rw[aJ (by lia),aBT,aAI,getD_at E];rfl);have tb:bits ((s.fdiv 48).fmod 5-2)<=10:=C4 (bits_sub (n:=5) (sI (by decide) (by decide)) (by decide));simp only[j4,aAp,aDw,aAY,aCC,aAv,aBr,aEc,aEd,aCF,aCG];refine w9 (ρ:=[.v (.lst Y),.v (.int s),.no,.no,.no,.no,.no,.no,.no]) (j8 (j8 (eI rfl rfl) c1) rfl) ?_;refine w9 (ρ:=[.v (.lst Y),.v (.int s),.v (.int w),.no,.no,.no,.no,.no,.no]) (j8 (j8 (x:=.lst [.int 7,.int 2001,.int 2000000001,.int 20000000000000000000000000000000000000001]) rfl<|j8 (j8 (j8 rfl<|j8 rfl d4)<|j8 rfl m4) ixw) rfl) ?_;refine w9 (ρ:=[.v (.lst Y),.v (.int s),.v (.int w),.o ((lI Y).map wl),.no,.no,.no,.no,.no]) ?_ ?_
 .refine j8 (x:=(lI Y).map wl) (j8 (x:=(aAU (s.fmod 4).toNat).map λ(k:Nat)=>D.int (k:Int)) (j8 (S6<|j8 rfl<|j8 rfl ms) rn) ?_) rfl;rw[FN (λ(j:Nat)=>D.int (j:Int)) wl (λ(j:Nat)=>QC Y (j:Int) w) (aAU (s.fmod 4).toNat) (by rw[aDB];lia) λj hj=>⟨[.v (.int (j:Int)),.v (.lst Y),.v (.int w)],rfl,j8 (VA rfl rfl rfl) (KW E (by lia) (by have:=aBm.mp hj;lia) hw)⟩,e0]
 have t:=tZ wl (lI Y);have B:=tZ wl (pN Y);refine w9 (ρ:=[.v (.lst Y),.v (.int s),.v (.int w),.o ((pN Y).map wl),.no,.no,.no,.no,.no]) ?_ ?_
 .unfold pN;rw[O];by_cases C:(s.fdiv 16).fmod 3=1
  .by_cases q2:1<(lI Y).length
   .rw[h9 ⟨C,q2⟩];have i0:=r (lI Y) 0 (by lia);have z0:=aG Q 0;refine Eq.trans (vK (lK (j8 (j8 (j8 (j8 rfl<|j8 rfl m)<|j8 rfl I)<|j8 rfl<|tM C) rfl) (j8 (j8 (j8 (S6 rfl) t) (j8 rfl (LR (a:=((lI Y).length:Int)) (b:=1) (by lia)))) rfl))) ?_;generalize(lI Y).getD 0 0=v at*
    refine j8 (x:=wl (((s.fdiv 48).fmod 5-2)*v)) (j8 (x:=[v.x,v.y,v.z].map D.int) (j8 (j8 rfl<|j8 rfl i0) rfl) ?_) (j8 (x:=.int (-1)) rfl ?_)
    .rw[lJ D.int D.int (λx=>((s.fdiv 48).fmod 5-2)*x) [v.x,v.y,v.z] (show 3<=30000 by decide) λx hx=>⟨[.v (.int x),.v (.int s)],rfl,?_⟩]
     .rfl
     .refine j8 (j8 (j8 (j8 rfl<|j8 rfl U)<|j8 rfl m5) rfl) (j8 rfl<|j3<|o9.of tb<|show bits x<=160 from ?_);simp only[aAd,aAN,or_false]at hx;rcases hx with rfl|rfl|rfl
      .exact z0.1
      .exact z0.2.1
      .exact z0.2.2
    .rw[wK (l:=(lI Y).map wl) rfl (by rw[aAh];lia),aAh,List.map_set];rfl
   .rw[ic λz=>q2 z.2];exact gE (lK (j8 (j8 (j8 (j8 rfl<|j8 rfl m)<|j8 rfl I)<|j8 rfl<|tM C) rfl) (j8 (j8 (j8 (S6 rfl) t) (j8 rfl (VW (a:=((lI Y).length:Int)) (b:=1) (by lia)))) rfl))
  .rw[ic λz=>C z.1];exact gE (LA<|j8 (j8 (j8 (j8 rfl<|j8 rfl m)<|j8 rfl I)<|j8 rfl<|VY C) rfl)
 refine w9 (ρ:=[.v (.lst Y),.v (.int s),.v (.int w),.o ((nP Y).map wl),.no,.no,.no,.no,.no]) ?_ ?_
 .unfold nP;rw[O];by_cases C:(s.fdiv 16).fmod 3=2
  .by_cases q2:2<(pN Y).length
   .rw[h9 ⟨C,q2⟩];have i0:=r (pN Y) 0 (by lia);have i1:=r (pN Y) 1 (by lia);have z1:=aG T 1;refine Eq.trans (vK (lK (j8 (j8 (j8 (j8 rfl<|j8 rfl m)<|j8 rfl I)<|j8 rfl<|tM C) rfl) (j8 (j8 (j8 (S6 rfl) B) (j8 rfl (LR (a:=((pN Y).length:Int)) (b:=2) (by lia)))) rfl))) ?_;generalize(pN Y).getD 0 0=v at*
    generalize(pN Y).getD 1 0=u at*
    refine j8 (x:=(c3<|v-(2:Int)*u).map D.int) (j8 (x:=(aAU 3).map λ(j:Nat)=>D.int (j:Int)) rfl ?_) ((h9 (by rfl)).trans (j8 (x:=.int (-1)) rfl ?_))
    .rw[FN (λ(j:Nat)=>D.int (j:Int)) D.int (λj=>vJ v j-2*vJ u j) (aAU 3) (by decide) λj hj=>⟨[.v (.int (j:Int)),.v (.lst ((pN Y).map wl))],rfl,?_⟩]
     .rfl
     .exact j8 (j8 (j8 rfl<|j8 rfl i0)<|j8 rfl<|EO v<|aBm.mp hj) (j8 (j8 rfl (j8 (j8 (j8 rfl<|j8 rfl i1)<|j8 rfl<|EO u<|aBm.mp hj) (j3 (o9.of (show bits 2<=5 by decide)<|UP z1 j)))) rfl)
    .rw[wK (l:=(pN Y).map wl) rfl (by rw[aAh];lia),aAh,List.map_set];rfl
   .rw[ic λz=>q2 z.2];exact gE (lK (j8 (j8 (j8 (j8 rfl<|j8 rfl m)<|j8 rfl I)<|j8 rfl<|tM C) rfl) (j8 (j8 (j8 (S6 rfl) B) (j8 rfl (VW (a:=((pN Y).length:Int)) (b:=2) (by lia)))) rfl))
  .rw[ic λz=>C z.1];exact gE (LA<|j8 (j8 (j8 (j8 rfl<|j8 rfl m)<|j8 rfl I)<|j8 rfl<|VY C) rfl)
 have l2:(nP Y).length<=3:=by lia
 have len2:=tZ wl (nP Y);unfold lD;obtain⟨n1,n2,n3,n4⟩:=VN Y;have ixws:=r (nP Y);have WZ:=aG w2z;have pt0:∀k,pW Y (nP Y) k 0=QC Y 3 w:=λk=>by show QC Y 3 (wI<|cJ Y 1)=_;rw[O,ew]
 have ptS:∀k j,pW Y (nP Y) k (j+1)=LQ (pW Y (nP Y) k j) (rN Y k j) ((nP Y).getD j 0):=λ_ _=>rfl;clear t B Q T r e0 w0e m I U m5 tb;generalize nP Y=f at*
 refine w9 (ρ:=[.v (.lst Y),.v (.int s),.v (.int w),.o (f.map wl),.o [],.no,.no,.no,.no]) rfl ?_;have d360:Z5 (.int (cJ Y 0)) (.int 360)=.ok (.int ((cJ Y 0).fdiv 360)):=N1 (by decide) (by decide);have m360:fL (.int ((cJ Y 0).fdiv 360)) (.int 4)=.ok (.int (((cJ Y 0).fdiv 360).fmod 4)):=L8 (by decide);have f360:=F3 (a:=(cJ Y 0).fdiv 360) (b:=4) (by decide);have ix9:X3 (.lst [.int 9,.int 9,.int 9,.int 40]) (.int (((cJ Y 0).fdiv 360).fmod 4))=.ok (.int (mI<|cJ Y 0)):=by unfold mI;rcases(show((cJ Y 0).fdiv 360).fmod 4=0\/((cJ Y 0).fdiv 360).fmod 4=1\/((cJ Y 0).fdiv 360).fmod 4=2\/((cJ Y 0).fdiv 360).fmod 4=3 by lia)with e|e|e|e<;>rw[e]<;>rfl
 have mq:fL (.int (cJ Y 0)) (.int (mI<|cJ Y 0))=.ok (.int ((cJ Y 0).fmod (mI<|cJ Y 0))):=L8 n4;have rm:=UV (n:=nI Y) (by lia);rw[n3]at rm;refine nE (x:=bY 0 (nI Y)) (j8 (S6<|j8 rfl<|j8 (j8 (j8 (eI rfl rfl) c0)<|j8 (j8 (x:=.lst [.int 9,.int 9,.int 9,.int 40]) rfl<|j8 (j8 (j8 (j8 (eI rfl rfl) c0)<|j8 rfl d360)<|j8 rfl m360) ix9) mq) rfl) rm) ?_;refine EI (λk ρ=>∃W x5 x6 q p:Sl,ρ=[.v (.lst Y),.v (.int s),.v (.int w),W,.o (((aAU k).map λk=>pW Y f k f.length).map vd),x5,x6,q,p]/\(W=.o (f.map wl)\/W=.v (.lst (f.map wl)))) ?_ ⟨_,_,_,_,_,rfl,.inl rfl⟩ ?_
 .rintro k k1 k2 ρ ⟨W,x5,x6,q,p,rfl,J⟩;generalize hA:((aAU k).map λk=>pW Y f k f.length).map vd=A;have lA:A.length<=30000:=by rw[<-hA,aAh,aAh,aDB];lia
  have eW:vS 0 [W]=.ok (.lst (f.map wl)):=by rcases J with rfl|rfl<;>rfl
  refine TU (ρ':=[.v (.lst Y),.v (.int s),.v (.int w),W,.o A,.v (.int (k:Int)),x6,q,p]) rfl ?_;refine pJ (ρ:=[.v (.lst Y),.v (.int s),.v (.int w),W,.o A,.v (.int (k:Int)),.v (wl<|QC Y 3 w),q,p]) (j8 (j8 (VA rfl rfl rfl) (KW E (by decide) (by decide) hw)) rfl) ?_;refine sj (λρ=>∃W q p:Sl,ρ=[.v (.lst Y),.v (.int s),.v (.int w),W,.o A,.v (.int (k:Int)),.v (wl<|pW Y f k f.length),q,p]/\(W=.o (f.map wl)\/W=.v (.lst (f.map wl)))) (a1y (x:=bY 0 f.length) (j8 (S6<|j8 (S6 eW) len2) (UV (by lia))) (XT (λj ρ=>∃W q p:Sl,ρ=[.v (.lst Y),.v (.int s),.v (.int w),W,.o A,.v (.int (k:Int)),.v (wl<|pW Y f k j),q,p]/\(W=.o (f.map wl)\/W=.v (.lst (f.map wl)))) ?_ ⟨W,q,p,by rw[pt0],J⟩ λρ' hρ=>by rw[aEj]at hρ;exact hρ)) ?_
  .rintro j j1 j2 ρ ⟨W,q,p,rfl,J⟩;have by1:=UX E (k:=12+3*(k:Int)+(j:Int)) (by lia) (by lia);have k3:CP (.int 3) (.int (k:Int))=.ok (.int (3*(k:Int))):=j3 (o9.of (show bits 3<=5 by decide) (show bits (k:Int)<=10 from u9 (by lia) (by lia)));have m4:fL (.int (JA Y<|12+3*(k:Int)+(j:Int))) (.int 4)=.ok (.int ((JA Y<|12+3*(k:Int)+(j:Int)).fmod 4)):=L8 (by decide);refine TU (ρ':=[.v (.lst Y),.v (.int s),.v (.int w),W,.o A,.v (.int (k:Int)),.v (wl<|pW Y f k j),.v (.int (j:Int)),p]) rfl ?_;refine pJ (ρ:=[.v (.lst Y),.v (.int s),.v (.int w),W,.o A,.v (.int (k:Int)),.v (wl<|pW Y f k j),.v (.int (j:Int)),.v (.int (rN Y k j))]) (j8 (j8 (j8 (j8 (eI rfl<|j8 (j8 rfl<|j8 (j8 rfl<|j8 rfl k3) rfl)<|j8 rfl rfl) by1)<|j8 rfl m4) rfl) rfl) ?_;have ij:=ixws j (by lia);have tr:=lO Y k j;have tb:bits (rN Y k j)<=3:=u9 (by lia) (by lia);have eD:vM 3 [.v (.lst Y),.v (.int s),.v (.int w),W,.o A,.v (.int (k:Int)),.v (wl<|pW Y f k j),.v (.int (j:Int)),.v (.int (rN Y k j))]=[.v (.lst Y),.v (.int s),.v (.int w),.v (.lst (f.map wl)),.o A,.v (.int (k:Int)),.v (wl<|pW Y f k j),.v (.int (j:Int)),.v (.int (rN Y k j))]:=by rcases J with rfl|rfl<;>rfl
   rw[eD];refine⟨[.v (.lst Y),.v (.int s),.v (.int w),.v (.lst (f.map wl)),.o A,.v (.int (k:Int)),.v (wl<|pW Y f k<|j+1),.v (.int (j:Int)),.v (.int (rN Y k j))],j8 (x:=wl (pW Y f k<|j+1)) (j8 (x:=(aAU 3).map λ(i:Nat)=>D.int (i:Int)) rfl ?_) rfl,_,_,_,rfl,.inr rfl⟩;rw[lJ (λ(i:Nat)=>D.int (i:Int)) D.int (λi=>vJ (pW Y f k j) i+rN Y k j*vJ (f.getD j 0) i) (aAU 3) (by decide) λi E=>⟨[.v (.int (i:Int)),.v (wl<|pW Y f k j),.v (.int (rN Y k j)),.v (.lst (f.map wl)),.v (.int (j:Int))],rfl,?_⟩,ptS]
   .rfl
   .exact j8 (j8 rfl<|j8 rfl<|EO _<|aBm.mp E) (j8 (j8 rfl<|j8 (j8 (j8 rfl<|j8 rfl ij)<|j8 rfl<|EO _<|aBm.mp E)<|j3<|o9.of tb<|UP (WZ j) i) rfl)
  .rintro ρ ⟨W,q,p,rfl,J⟩;refine⟨_,j8 (x:=vd (pW Y f k f.length)) rfl (XZ (l:=A) rfl lA),W,.v (.int (k:Int)),.v (wl<|pW Y f k f.length),q,p,?_,J⟩;rw[List.range_succ,aBO,aBO,hA];rfl
 .rintro ρ ⟨W,x5,x6,q,p,rfl,J⟩;rw[aEj];rfl
def bB (fF:v9 P w K mg base 1 "_law_way" 2 o5)(aT:v9 P w K mg base 1 "_law_cross" 2 w5)(U1:v9 P w K mg base 1 "_law_product" 2 o6)(me:mg "int"=none)(g:dR K mg "_law_due" K4):v9 P w K mg base 2 "_law_due" 1 MU:=by
 refine' m8 (k:=1) (F:=_) g xC (λE j gi H=>?b) λds d hl h=>?_
 case b=>
  refine' (c7 (j6 1 (P6 ["one"] ["points"] [0] rfl (N8 (sc:=c6 K4) (N:=U5)) (A3<|d6 0) (xw λ_ _ _ _ _=>⟨(k7 (bM j) (b9 0)<|PD.pb<|i7 (b9 1) c9),(dS fF E (i7 (b9 1) c9)<|d6 0)⟩)<|λ_=>u4) H)
   (c7 (A5 (k7 (U8 j) (b9 1)<|PD.pb<|aV l5) (d7<|j0 c9) p7)
   (c7 (j6 2 (P6 ["way"] ["ways"] [1] rfl (N8 (sc:=c6 K4) (N:=U5)) (A3<|d6 1) (QI λ_ _ _ _ _=>(dS aT E (i7 (b9 1)<|aH c9)<|d6 0))<|λ_=>u4) H)
   (c7 (j6 2 (P6 ["crossed"] [] [] rfl (N8 (sc:=c6 K4) (N:=U5)) (A3<|d6 2) (xw λ_ _ _ _ _=>⟨(k7 (bM j) (b9 0)<|PD.pb<|YS c9 c9 c9),(d6 0)⟩)<|λ_=>u4) H)
   (c7 (A5 (k7 (U8 j) (b9 2)<|PD.pb<|aV l5) (d7<|j0 c9) p7)
   (d7<|j0<|d9 y6 J4<|PD.pb<|N9 JN<|t7 (PD.pb<|eZ (bM j) (PD.pb<|P6 ["way"] ["crosses"] [2] rfl (N8 (sc:=c6 K4) (N:=U5)) (A3<|d6 1) (xw λ_ _ _ _ _=>⟨(k7 (bM j) (PD.pb<|dS U1 E (i7 (b9 1)<|aH c9)<|d6 0) J4),(d6 0)⟩)<|λ_=>u4)<|PD.pb<|aV l5) A9))))))
 replace h:=CO h;obtain⟨l,ds,rfl,h⟩:=h;replace h:=y8 h;obtain⟨rfl,h⟩:=h;replace h:=fQ h;obtain⟨⟨hn,I⟩,rfl⟩:=h;obtain⟨p,ps,rfl⟩:∃p ps,l=p::ps:=by
  cases l with
  |nil=>exact absurd rfl hn
  |cons p ps=>exact⟨p,ps,rfl⟩
 have i0:X3 (.lst ((p::ps).map vd)) (.int 0)=.ok (vd p):=ZD (i:=0) rfl;have len:=I.2;have sw:∀X∈p::ps,Sz 901 (X-p):=λX a=>(I.1 X a).sub (I.1 p (.head _));generalize m:p::ps=l at*
 have pl:p∈l:=by rw[<-m];exact .head _
 generalize J:(l.filter λX=>decide (X≠p)).map (λX=>X-p)=W;have o:∀u,u∈W↔∃X∈l,X≠p/\u=X-p:=λu=>by
  rw[<-J,aAo];constructor
  .rintro⟨X,a,rfl⟩;rw[aAx,decide_eq_true_eq]at a;exact⟨X,a.1,a.2,rfl⟩
  .rintro⟨X,a,n,rfl⟩;exact⟨X,aAx.mpr ⟨a,decide_eq_true n⟩,rfl⟩
 have lW:W.length<=1000:=by rw[<-J,aAh];exact aAq (aDr _ _) len
 have t:∀u∈W,Sz 901 u:=λu j=>by obtain⟨X,a,_,rfl⟩:=(o u).mp j;exact sw X a
 have A:∀V:List G.V,AX (.lst (V.map vd)) (.lst [])=.ok (.bl (decide (V=[]))):=λV=>WX V [];have y:IQ []=.ok (.lst []):=rfl;simp only[j4,aAp,aDw,aAY,aCC,aAv,aBr,aEc,aEd,aCF,aCG];refine w9 (ρ:=[.v (.lst (l.map vd)),.v (.lst (W.map vd)),.no]) ?_ ?_
 .refine j8 (x:=.lst (W.map vd)) (j8 (x:=l.map vd) rfl ?_) rfl;rw[uP vd (λX=>decide (X≠p)) (λX=>vd (X-p)) l (by lia) λX a=>⟨[.v (vd X),.v (.lst (l.map vd))],rfl,j8 (j8 rfl<|j8 i0<|VO X p) rfl,j8 (eI i0 rfl) (LI p X)⟩,<-J,aBJ];rfl
 by_cases B:W=[]
 .have z:G.t9 l=0:=by rw[<-m];refine G.a0r λX a=>aCR λn=>?_;have:X-p∈W:=(o _).mpr ⟨X,by rw[<-m];exact a,n,rfl⟩;rw[B]at this;cases this
  rw[z];exact yX (vK (j8 (j8 rfl (j8 y ((A W).trans (by rw[decide_eq_true B])))) rfl))
 refine w9 (ρ:=[.v (.lst (l.map vd)),.v (.lst (W.map vd)),.no]) (gE (j8 (j8 rfl (j8 y ((A W).trans (by rw[decide_eq_false B])))) rfl)) ?_;obtain⟨u,L,lu⟩:=FS B;obtain⟨X,a,nX,O⟩:=(o u).mp L;refine w9 (ρ:=[.v (.lst (l.map vd)),.v (.lst (W.map vd)),.v (.lst ((W.map<|G.cr u).map vd))]) ?_ ?_
 .refine j8 (x:=.lst ((W.map<|G.cr u).map vd)) (j8 (x:=W.map vd) rfl ?_) rfl;rw[lJ vd vd (G.cr u) W (by lia) λw f=>⟨[.v (vd w),.v (.lst (W.map vd))],rfl,j8 (eI lu rfl) (bO (t u L).mono (t w f).mono)⟩]
 generalize Q:(W.map<|G.cr u).filter (λc=>decide (c≠0))=C;have mC:∀c,c∈C↔c≠0/\∃w∈W,c=G.cr u w:=λc=>by rw[<-Q,aAx,decide_eq_true_eq,aAo];exact⟨λ⟨⟨w,f,e⟩,n⟩=>⟨n,w,f,e.symm⟩,λ⟨n,w,f,e⟩=>⟨⟨w,f,e.symm⟩,n⟩⟩
 have lC:C.length<=1000:=by rw[<-Q];exact aAq (aDr _ _) (by rw[aAh];exact lW)
 have s:qD [.int 0,.int 0,.int 0]=.ok (vd 0):=rfl;refine w9 (ρ:=[.v (.lst (l.map vd)),.v (.lst (W.map vd)),.v (.lst (C.map vd))]) ?_ ?_
 .refine j8 (x:=.lst (C.map vd)) (j8 (x:=(W.map<|G.cr u).map vd) rfl ?_) rfl;rw[uP vd (λc=>decide (c≠0)) vd (W.map<|G.cr u) (by rw[aAh];lia) λc hc=>⟨[.v (vd c)],rfl,j8 (j8 rfl<|j8 s<|VO c 0) rfl,rfl⟩,Q]
 by_cases c0:C=[]
 .have z:G.t9 l=1:=by rw[<-m]at a⊢;refine G.a0s a nX λY U=>aCR λn=>?_;have nY:Y≠p:=λe=>n (by rw[e,G.n6];apply G.ext<;>simp);have:G.cr u (Y-p)∈C:=(mC _).mpr ⟨by rw[O];exact n,Y-p,(o _).mpr ⟨Y,by rw[<-m];exact U,nY,rfl⟩,rfl⟩;rw[c0]at this;cases this
  rw[z];exact yX (vK (j8 (j8 rfl (j8 y ((A C).trans (by rw[decide_eq_true c0])))) rfl))
 refine w9 (ρ:=[.v (.lst (l.map vd)),.v (.lst (W.map vd)),.v (.lst (C.map vd))]) (gE (j8 (j8 rfl (j8 y ((A C).trans (by rw[decide_eq_false c0])))) rfl)) ?_;obtain⟨c,cC,lc⟩:=FS c0;obtain⟨nc,v,hv,ec⟩:=(mC c).mp cC;obtain⟨Y,U,nY,eY⟩:=(o v).mp hv;have sc:Sz 2000 c:=by rw[ec];exact((t u L).cr (t v hv)).mono
 generalize hT:W.filter (λw=>decide (G.c5 c w≠0))=T;have mT:∀w,w∈T↔w∈W/\G.c5 c w≠0:=λw=>by rw[<-hT,aAx,decide_eq_true_eq]
 have r:=G.uw (p:=p) (ps:=ps) (X:=X) (Y:=Y) (by rw[m];exact a) (by rw[m];exact U) (by rw[<-O,<-eY,<-ec];exact nc);rw[m,<-O,<-eY,<-ec]at r;have eT:yA (.lst (T.map vd)) (.lst [])=.ok (.bl (decide (T≠[]))):=by unfold yA;rw[h9 ⟨iD T,iD []⟩,show u0 (.lst (T.map vd)) (.lst [])=decide (T=[])from uM T []];simp
 have e3:(2:Int)+(if decide (T≠[])=true then 1 else 0)=(G.t9 l:Int):=by
  by_cases s:T=[]
  .rw[r.2 λZ hZ=>aCR λn=>?_,decide_eq_false (λq=>q s)];rfl;have nZ:Z≠p:=λe=>n (by rw[e,G.n6];simp[G.c5]);have:Z-p∈T:=(mT _).mpr ⟨(o _).mpr ⟨Z,hZ,nZ,rfl⟩,n⟩;rw[s]at this;cases this
  .obtain⟨w,f⟩:=List.exists_mem_of_ne_nil T s;obtain⟨f,n⟩:=(mT w).mp f;obtain⟨Z,hZ,_,rfl⟩:=(o w).mp f;rw[r.1 ⟨Z,hZ,n⟩,decide_eq_true s];rfl
 rw[<-e3];have cl:gO (.lst (W.map vd))=.ok (W.map vd):=rfl;have ng:YH (.int 1)=.ok (.int (-1)):=rfl;simp-implicitDefEqProofs only[V8,aI,eJ,bI,cR,R.aa0,cl,y];rw[uP vd (λw=>decide (G.c5 c w≠0)) vd W (by lia) λw f=>⟨[.v (vd w),.v (.lst (C.map vd))],rfl,by simp-implicitDefEqProofs only[V8,aI,bL,kS,eJ,bI,cR,R.aa0,ng,lc,gZ (sc.mono (n:=50000000)) ((t w f).mono (n:=50000000)),RU,CI],rfl⟩,hT];simp-implicitDefEqProofs only[R.aa0,eT,KE,gI];rfl
def L6 (Z6:v9 P w K mg base 10 "body_of" 1 N7)(V5:v9 P w K mg base 9 "faces_of" 1 K5)(u:mg "isinstance"=none)(eV:dU P w K mg base 10 "body_of" 1 (M1 af aa))(Q9:dU P w K mg base 9 "faces_of" 1 (M1 af aa))(v:XCls K mg ae "BodyError" ae)(x:XCls K mg ae "Flat" af)(H:XCls K mg ae "NoPoints" aa)(I:mg "NoPoints"=some (.ref aa))(J:mg "Flat"=some (.ref af))(e:PySem.W.kitOne K (.ref af) (.ref aa)=some false)(m:PySem.W.kitOne K (.ref aa) (.ref aa)=some true)(j:PySem.W.kitOne K (.ref af) (.ref af)=some true)(o:PySem.W.kitOne K (.ref aa) (.ref af)=some false)(g:dR K mg "_law_refused" V4):v9 P w K mg base 11 "_law_refused" 2 jA:=by
 refine' m8 (k:=10) (F:=_) g lB (λq r U s=>?b) λy d Y h=>?_
 case b=>
  refine' (c7 (j6 2 (aV<|i5 eU<|i5 eU l5) s)
   (c7 (TK 3 (xU af aa) s rfl rfl rfl (JU x H) v.ex (by decide) v.nm (d7<|A5 (k7 (U8 r) (b9 0) J4) (d7<|oU<|sF Z6 q<|d6 1)<|d7<|oU<|sF V5 q<|d6 1) (by exact(YZ (k7 (U8 r) (b9 0) J4) (xW (FC eV (q.mono (by decide)) (i5 (d6 1) l5)<|t4 F8)) (xW (FC Q9 (q.mono (by decide)) (i5 (d6 1) l5)<|t4 F8)))) (by intro _;exact(d7<|j6 2 (aV<|i5 (EH (K:=K) (i:=3) J u)<|i5 (EH (K:=K) (i:=3) I u) l5) s)))
   (d7<|j0<|eZ (U8 r) (b9 2)<|PD.pb<|aV<|i5 eU<|i5 eU l5)))
 replace h:=M2 h;obtain⟨a,y,rfl,h⟩:=h;replace h:=CO h;obtain⟨l,y,rfl,h⟩:=h;replace h:=y8 h;obtain⟨rfl,h⟩:=h;replace h:=fQ h;obtain⟨⟨z,A,t,E⟩,rfl⟩:=h;have N:=x.ok;have O:xU af aa (.ref af)=true:=by simp[xU]
 by_cases p:G.k8 l
 .have b:=TD t p (E p);have f:=wM t p (E p);have Q:=HK (cF:=af) (cN:=aa) A p;rw[VI p];generalize l.map vd=L at*
  generalize(EU l).map vd=B at*
  generalize(B6<|l6 l).map (l7<|l6 l)=C at*
  rcases z with rfl|rfl<;>simp[j4,QX,bq,mX,Q,b,f,sizeLine,IQ,show AX (.lst [.bl false,.bl false]) (.lst [.bl true,.bl false])=.ok (.bl false)from rfl]
 .have T:=HZ (cF:=af) (cN:=aa) (t.mono (n:=1000)) A p;rw[MC p];generalize l.map vd=L at*
  rcases z with rfl|rfl<;>simp[j4,QX,bq,mX,T,O,xq,N,j,e,unset,sizeLine,IQ,show AX (.lst [.bl true,.bl false]) (.lst [.bl true,.bl false])=.ok (.bl true)from rfl]
section
seal PySem.eval
def o_law {f:bp}{fd:dA}(N6:v9 P w K mg base 3 "_law_points_by" 1 AT)(n8:v9 P w K mg base 2 "dimension_of" 1 m6)(bB:v9 P w K mg base 2 "_law_due" 1 MU)(L6:v9 P w K mg base 11 "_law_refused" 2 jA)(jV:v9 P w K mg base 11 "is_body" 1 uX)(ie:mg "range"=none)(cb:mg "len"=none)(je:mg "list"=none)(bf:mg "isinstance"=none)(xp:mg "bool"=none)(me:mg "int"=none)(Q:Fun K "law" "law" gP f fd):FnOk P w K mg base tW 12 f fd ["script"] (az K 1 lP):=by
 refine' fnD (k:=11) (F:=_) Q MF (λU A y s H E g=>?b) λds d I h=>?_
 case b=>
  have u:=g.units;have gi:=g.ae9;have m:=MF.nd;refine' (c7 (j6 1 (sF N6 g<|d6 0) m)
   (c7 (P7 aBu rfl (O6<|t7 J4<|t7 (PD.pb<|d9 y6 (PD.pb<|IZ X4<|b9 1) J4) A9) (C3 2 m) (c7 (j6 3 (N9 lU<|t7 (PD.pb<|kR (b9 1) R0<|G3<|d6 2) A9) m)
   (c7 (j6 4 (sF n8 g<|d6 3) m)
   (c7 (A5 (CS.pt<|pF (QZ<|uN<|KS RP<|b9 4)<|pF (uN<|KS NQ<|b9 4)<|lV<|k7 (bM u) (b9 4)<|PD.pb<|sF bB g<|kR (b9 1) R0<|G3<|d6 2) (d7<|j0 eU) p7)
   (d7<|A5 (k7 (bM u) (b9 3)<|PD.pb<|kR (b9 1) R0<|G3<|d6 2) (d7<|j0 eU) p7)))))
   (c7 (j6 5 (eZ sM (PD.pb<|sF bB g<|d6 1) J4) m)
   (c7 (A5 (CS.pt<|pF (k7 (bM u) (PD.pb<|dS L6 g c9<|N9 lU<|t7 (b9 1) A9)<|b9 5)<|lV<|k7 (bM u) (PD.pb<|dS L6 g c9<|N9 lU<|t7 (b9 1) A9)<|b9 5) (d7<|j0 eU) p7)
   (d7<|j0<|jx (aq<|d6 5)<|YD<|eZ ZT (PD.pb<|sF jV g<|N9 lU<|t7 (b9 1) A9)<|PD.pb eU)))))
 replace h:=aE h;obtain⟨Y,ds,rfl,h⟩:=h;replace h:=y8 h;obtain⟨rfl,h⟩:=h;replace h:=fQ h;obtain⟨⟨I,hi⟩,rfl⟩:=h;have PT:=YV ⟨hi,I⟩;obtain⟨sz,len,ne⟩:=KG Y;have o:=SM Y;generalize lD Y=l at*
 have p:X8 900 l:=⟨λP z=>(sz P z).mono,by lia⟩;simp only[j4,aAp,aDw,aAY,aCC,aAv,aBr,aEc,aEd,aCF,aCG];refine w9 (ρ:=[.v (.lst Y),.v (.lst (l.map vd)),.no,.no,.no,.no]) (j8 (j8 (S6 rfl) PT) rfl) ?_;refine nE (x:=bY 1 l.length) (j8 (eI rfl<|j8 (j8 (S6 rfl)<|tZ vd l) rfl) (a1p (a:=1) (b:=l.length+1) (by decide) (by lia))) ?_;refine EI (λ_ ρ=>∃r j i:Sl,ρ=[.v (.lst Y),.v (.lst (l.map vd)),r,j,i,.no]) ?_ ⟨_,_,_,rfl⟩ ?_
 .rintro k k1 k2 ρ ⟨r,j,i,rfl⟩;have T:=dz l k;have J:X8 900 (l.take k):=⟨λP z=>p.1 P (aFU z),by have:=List.length_take_le k l;lia⟩;have N:l.take k≠[]:=λe=>by
   rcases List.take_eq_nil_iff.mp e with e|e
   .lia
   .exact ne e
  have B:=KB N J;have di:=OB (J.mono (n:=1000)) N;generalize l.take k=t at*
  refine TU (ρ':=[.v (.lst Y),.v (.lst (l.map vd)),.v (.int (k:Int)),j,i,.no]) rfl ?_;refine pJ (ρ:=[.v (.lst Y),.v (.lst (l.map vd)),.v (.int (k:Int)),.v (.lst (t.map vd)),i,.no]) (j8 (j8 (S6 T) rfl) rfl) ?_;refine pJ (ρ:=[.v (.lst Y),.v (.lst (l.map vd)),.v (.int (k:Int)),.v (.lst (t.map vd)),.v (.int (G.t9 t)),.no]) (j8 (j8 (S6 rfl) di) rfl) ?_;refine pJ (ρ:=[.v (.lst Y),.v (.lst (l.map vd)),.v (.int (k:Int)),.v (.lst (t.map vd)),.v (.int (G.t9 t)),.no]) (gE<|JE (YU rfl)<|JE rfl<|j8 (j8 rfl<|j8 (j8 (S6 T) B)<|rj _) rfl) ?_;exact⟨_,gE (j8 (j8 rfl<|j8 T<|sS<|iD t) rfl),_,_,_,rfl⟩
 .rintro ρ ⟨r,j,i,rfl⟩;have B:=KB ne p;have lt:jz (.int (G.t9 l)) (.int 3)=.ok (.bl (QE l)):=by
   show R.ok (D.bl<|decide ((G.t9 l:Int)<3))=_;unfold QE;by_cases q:G.t9 l<3
   .rw[decide_eq_true q,decide_eq_true (show(G.t9 l:Int)<3 by lia)]
   .rw[decide_eq_false q,decide_eq_false (show¬(G.t9 l:Int)<3 by lia)]
  have O:yA (.bl (QE l)) (.bl (QE l))=.ok (.bl false):=sS (aAG 40);refine w9 (ρ:=[.v (.lst Y),.v (.lst (l.map vd)),r,j,i,.v (.bl (QE l))]) (j8 (j8 (j8 (S6 rfl) B)<|j8 rfl lt) rfl) ?_;refine w9 (ρ:=[.v (.lst Y),.v (.lst (l.map vd)),r,j,i,.v (.bl (QE l))]) (gE<|JE (j8 (j8 (j8 (eI rfl<|j8 (S6 rfl) rfl)<|nJ (.inl rfl) ne p o)<|j8 rfl O) rfl)<|j8 (j8 (j8 (eI rfl<|j8 (S6 rfl) rfl)<|nJ (.inr rfl) ne p o)<|j8 rfl O) rfl) ?_;by_cases C:G.k8 l
  .rw[VI C];rfl
  .rw[MC C];have ib:=JP ne p C;generalize l.map vd=L at*
   simp[ib,mj]
end
end
end K11
section
namespace K11
open PySem L2 DL M
def truth (ns:List Int)(a:ns.length<=63)(b:∀x∈ns,aAW x<=1048576):lP [.lst (ns.map D.int)]=.ok (.bl true):=by unfold lP;exact h9 ⟨by simpa using a,QN b⟩
section
variable [Tabs]
def all_mk {l:PySem.W.OpenLaw}{w:cu}{K:jb}{h:cy}{mg:W6}{fa f30 Pt:bp}(X:K.In h)(G:h.Ns cf mg)(hfa:mg "law"=some (.ref fa))
  (g0:Got K "way_between" X0)
  (g1:Got K "cross_of" fW)
  (g2:Got K "product_of" bG)
  (g3:Got K "common_divisor" P1)
  (g4:Got K "plane_through" R4)
  (g5:Got K "side_of" iQ)
  (g6:Got K "first_real_way" O8)
  (g7:Got K "dimension_of" A2)
  (g8:Got K "refuse_flat" P9)
  (g9:Got K "points_on" W3)
  (g10:Got K "plane_about" X9)
  (g11:Got K "first_pair" Z9)
  (g12:Got K "turn_of" iW)
  (g13:Got K "left_chain" aW)
  (g14:Got K "ring_of" jN)
  (g15:Got K "pairs_round" X6)
  (g16:Got K "faces_from" aQ)
  (g17:QL K "faces_of" G4 Pt)
  (g18:Got K "corners_in" bF)
  (g19:Got K "body_of" dH)
  (g20:Got K "is_body" jH)
  (g21:Got K "_law_cell" bP)
  (g22:Got K "_law_way" fZ)
  (g23:Got K "_law_cross" aL)
  (g24:Got K "_law_product" V1)
  (g25:Got K "_law_by" kE)
  (g26:Got K "_law_drawn_way" J2)
  (g27:Got K "_law_points_by" u7)
  (g28:Got K "_law_due" K4)
  (g29:Got K "_law_refused" V4)
  {od30 an30:Option bp} {sl30:Array (Option av)} {oc30 kV30 dc30 pm30 cd30 ct30:av}
  (a30:PySem.W.nsIn K cf "law"=some (some (.ref f30))) (l30:K.lookup f30=some ⟨oc30,od30,.func (PySem.W.fnOf "law" "law" (E9 gP) (p5 gP) (c6 gP) .none kV30 dc30 pm30 an30 cd30 ct30),sl30⟩) (e30:PySem.W.codeIn K cd30 "law"=true) (k30:PySem.W.keepIn K (.ref f30)=true)
  (z_abs:PySem.W.nsIn K cf "abs"=some none)
  (z_len:PySem.W.nsIn K cf "len"=some none)
  (z_any:PySem.W.nsIn K cf "any"=some none)
  (z_min:PySem.W.nsIn K cf "min"=some none)
  (z_list:PySem.W.nsIn K cf "list"=some none)
  (z_reversed:PySem.W.nsIn K cf "reversed"=some none)
  (z_zip:PySem.W.nsIn K cf "zip"=some none)
  (z_sorted:PySem.W.nsIn K cf "sorted"=some none)
  (z_set:PySem.W.nsIn K cf "set"=some none)
  (z_int:PySem.W.nsIn K cf "int"=some none)
  (z_range:PySem.W.nsIn K cf "range"=some none)
  (z_tuple:PySem.W.nsIn K cf "tuple"=some none)
  (t:PySem.W.nsIn K cf "isinstance"=some none)
  (z_bool:PySem.W.nsIn K cf "bool"=some none)
  {mh:bp} {dd_NO_WAY:Option bp} {tk0_NO_WAY tk1_NO_WAY tk2_NO_WAY:Tok} {nn_NO_WAY:Nat} {ss_NO_WAY:Array (Option av)}
  (ca_NO_WAY:PySem.W.nsIn K cf "NO_WAY"=some (some (.ref mh))) (cl_NO_WAY:K.lookup mh=some ⟨.type "tuple",dd_NO_WAY,.seq #[.int 0 tk0_NO_WAY,.int 0 tk1_NO_WAY,.int 0 tk2_NO_WAY] nn_NO_WAY,ss_NO_WAY⟩)
  (nt:(Pt,tbK)∈Tabs.tbs)
  {aa af ae:bp} {N cd_Flat u:ClassData}
  (n_NoPoints:PySem.W.nsIn K cf "NoPoints"=some (some (.ref aa)))
  (n_Flat:PySem.W.nsIn K cf "Flat"=some (some (.ref af)))
  (O:PySem.W.nsIn K cf "BodyError"=some (some (.ref ae)))
  (e_NoPoints:PySem.W.excIn K aa gj "ValueError.__new__"=true) (Q:PySem.W.clsIn K aa=some N) (T:PySem.W.mroIn K aa (.type "object")=some true) (U:PySem.W.mroIn K aa (.type "BaseException")=some true)
  (Y:PySem.W.findIn K (.ref aa) "__class__"=some (some (.builtin "object.__class__"))) (h5_NoPoints:PySem.W.findIn K (.ref aa) "__getattribute__"=some (some (.builtin "BaseException.__getattribute__"))) (h6_NoPoints:PySem.W.findIn K (.ref aa) "__getattr__"=some none) (s_NoPoints:PySem.W.mroIn K aa (.ref ae)=some true)
  (e_Flat:PySem.W.excIn K af gj "ValueError.__new__"=true) (h1_Flat:PySem.W.clsIn K af=some cd_Flat) (h2_Flat:PySem.W.mroIn K af (.type "object")=some true) (h3_Flat:PySem.W.mroIn K af (.type "BaseException")=some true)
  (h4_Flat:PySem.W.findIn K (.ref af) "__class__"=some (some (.builtin "object.__class__"))) (h5_Flat:PySem.W.findIn K (.ref af) "__getattribute__"=some (some (.builtin "BaseException.__getattribute__"))) (h6_Flat:PySem.W.findIn K (.ref af) "__getattr__"=some none) (s_Flat:PySem.W.mroIn K af (.ref ae)=some true)
  (e_BodyError:PySem.W.excIn K ae gj "ValueError.__new__"=true) (y:PySem.W.clsIn K ae=some u) (z:PySem.W.mroIn K ae (.type "object")=some true) (A:PySem.W.mroIn K ae (.type "BaseException")=some true)
  (B:PySem.W.findIn K (.ref ae) "__class__"=some (some (.builtin "object.__class__"))) (C:PySem.W.findIn K (.ref ae) "__getattribute__"=some (some (.builtin "BaseException.__getattribute__"))) (E:PySem.W.findIn K (.ref ae) "__getattr__"=some none) (s_BodyError:PySem.W.mroIn K ae (.ref ae)=some true)
  (i:PySem.W.kitOne K (.ref af) (.ref aa)=some false)
  (a:PySem.W.kitOne K (.ref aa) (.ref aa)=some true)
  (i_Flat_Flat:PySem.W.kitOne K (.ref af) (.ref af)=some true)
  (j:PySem.W.kitOne K (.ref aa) (.ref af)=some false)
  (truth:∀ns:List Int,ns.length<=63->(∀x∈ns,aAW x<=1048576)->lP [.lst (ns.map D.int)]=.ok (.bl true)):
  ∃fd:dA,(∀(s:bb) (v:av),BindsTo s fd ⟨[v],[]⟩ [("script",v)])/\∀base:cy,K.In base->base.Ns cf mg->gU mg base->FnOk l.prog w K mg base tW 12 fa fd ["script"] (tL K):=by
 have e:=hfa.symm.trans (PySem.W.mg_of X G a30);cases e;have b_abs:=PySem.W.mg_none_of X G z_abs;have cb:=PySem.W.mg_none_of X G z_len;have b_any:=PySem.W.mg_none_of X G z_any;have b_min:=PySem.W.mg_none_of X G z_min;have je:=PySem.W.mg_none_of X G z_list;have jv:=PySem.W.mg_none_of X G z_reversed;have b_zip:=PySem.W.mg_none_of X G z_zip;have eu:=PySem.W.mg_none_of X G z_sorted;have tf:=PySem.W.mg_none_of X G z_set;have me:=PySem.W.mg_none_of X G z_int;have ie:=PySem.W.mg_none_of X G z_range;have ua:=PySem.W.mg_none_of X G z_tuple;have bf:=PySem.W.mg_none_of X G t;have xp:=PySem.W.mg_none_of X G z_bool;have gc:=PySem.W.mg_of X G n_NoPoints;have nv:=PySem.W.mg_of X G n_Flat;have k_BodyError:=PySem.W.mg_of X G O;have df:NE K mg "NO_WAY" [0,0,0]:=XQ (PySem.W.mg_of X G ca_NO_WAY) cl_NO_WAY;have bo:XCls K mg ae "NoPoints" aa:=tU gc e_NoPoints Q T U Y h5_NoPoints h6_NoPoints s_NoPoints;have ia:XCls K mg ae "Flat" af:=tU nv e_Flat h1_Flat h2_Flat h3_Flat h4_Flat h5_Flat h6_Flat s_Flat;have dh:XCls K mg ae "BodyError" ae:=tU k_BodyError e_BodyError y z A B C E s_BodyError;refine⟨PySem.W.fnOf "law" "law" (E9 gP) (p5 gP) (c6 gP) .none kV30 dc30 pm30 an30 cd30 ct30,λs v=>.of_eq rfl,λbase _ _ hB=>?_⟩;have bu:v9 l.prog w K mg base 1 "way_between" 2 o5:=n9 (g0.def X G);have gg:v9 l.prog w K mg base 1 "cross_of" 2 w5:=C8 (g1.def X G);have de:v9 l.prog w K mg base 1 "product_of" 2 o6:=y7 (g2.def X G);have b:v9 l.prog w K mg base 1 "common_divisor" 1 G8:=O7 b_abs (g3.def X G);have k:=S1 gg bu b de (g4.def X G);have r_side_of:v9 l.prog w K mg base 1 "side_of" 2 Y8:=iV (g5.def X G);have d:v9 l.prog w K mg base 1 "first_real_way" 1 A1:=G7 df (g6.def X G);have ba:v9 l.prog w K mg base 2 "dimension_of" 1 m6:=n8 bu d gg de cb b_any (g7.def X G);have m:dU l.prog w K mg base 2 "dimension_of" 1 (qT aa):=S4 cb bo (g7.def X G);have q:v9 l.prog w K mg base 3 "refuse_flat" 1 B4:=W7 ba (g8.def X G);have n:dU l.prog w K mg base 3 "refuse_flat" 1 (M1 af aa):=U6 ba m ia (g8.def X G);have jg:=F6 r_side_of (g9.def X G);have ip:=J6 bu de gg k df (g10.def X G);have H:=aO jg ip ba b_min (g11.def X G);have r_turn_of:=kD de gg bu (g12.def X G);have I:=T6 r_turn_of cb (g13.def X G);have r_ring_of:=kA I je jv (g14.def X G);have r:v9 l.prog w K mg base 1 "pairs_round" 1 z6:=W9 je b_zip (g15.def X G);have J:=aP ip r_ring_of r cb eu (g16.def X G);have ke:v9 l.prog w K mg base 9 "faces_of" 1 K5:=V5 jg q H J eu tf hB nt (g17.def X G);have jh:dU l.prog w K mg base 9 "faces_of" 1 (M1 af aa):=Q9 n (g17.def X G);have jc:v9 l.prog w K mg base 8 "corners_in" 1 C7:=L7 eu tf (g18.def X G);have mi:v9 l.prog w K mg base 10 "body_of" 1 N7:=Z6 jc ke (g19.def X G);have rx_body_of:dU l.prog w K mg base 10 "body_of" 1 (M1 af aa):=eV jc jh (g19.def X G);have r_is_body:=jV ba mi cb (g20.def X G);have r__law_cell:v9 l.prog w K mg base 1 "_law_cell" 2 iL:=Q6 cb (g21.def X G);have r__law_way:v9 l.prog w K mg base 1 "_law_way" 2 o5:=fF (g22.def X G);have L:v9 l.prog w K mg base 1 "_law_cross" 2 w5:=aT (g23.def X G);have o:v9 l.prog w K mg base 1 "_law_product" 2 o6:=U1 (g24.def X G);have ml:v9 l.prog w K mg base 1 "_law_by" 2 HI:=Y4 (g25.def X G);have f:=J1 ml me ie (g26.def X G);have g:=N6 r__law_cell f ml ie cb ua (g27.def X G);have r__law_due:=bB r__law_way L o me (g28.def X G);have p:=L6 mi ke bf rx_body_of jh dh ia bo gc nv i a i_Flat_Flat j (g29.def X G);exact RQ (o_law g ba r__law_due p r_is_body ie cb je bf xp me<|KA (st:=gP) l30 e30 k30) truth
end
end K11
namespace PySem.W.Fast
def tw3581308470871933501:=0
def tw6266238652101879723:=0
def tw930203807139222265:=0
def tw11072915520458517657:=0
def tw13108598722188397023:=0
def tw7887977254600604966:=0
def tw891827265356378612:=0
def tw9617537178905929477:=0
def tw18081759829196838653:=0
def tw14602763660858263825:=0
def tw13892464832707987943:=0
def tw7471627256565448778:=0
def tw10785672634875545412:=0
def tw14312637269291800135:=0
def tw8845656405313591216:=0
def tw9871610901610751469:=0
def tw2566573778925225279:=0
def tw952725320661971357:=0
def tw5772405503519379723:=0
def tw4247353071843822727:=0
def tw6854228994038854690:=0
def tw10836214000112047798:=0
def tw3732451841226548575:=0
def tw10137186148620041610:=0
def tw9533434567533921652:=0
def tw2527949122535299275:=0
def tw16796451759484640304:=0
def tw9774795593587022594:=0
def tw7064616734737390457:=0
def tw11602770552308470408:=0
def tw1838984230849112884:=0
def tw17839555108143350920:=0
def tw16785668014083345126:=0
def tw5982512901081965787:=0
def tw3145067391461783489:=0
def tw327507859875887112:=0
def tw7706706947835027688:=0
def tw2086761327474025413:=0
def tw14521712055977651072:=0
def tw11042882109676615907:=0
def tw14132351904647549676:=0
def tw8100791216532951055:=0
def tw4970014006586858162:=0
def tw7309409333243697618:=0
def tw809817882905582252:=0
def tw7097104547921582684:=0
def tw5559063902289228083:=0
def tw971775352229505116:=0
def tw8286350593178017404:=0
def tw10179925542775534966:=0
def tw15393447601149285624:=0
def tw1503867448505774177:=0
def tw7477506455304938375:=0
def tw16342634672659331022:=0
def tw1842025755925189479:=0
def tw6018295812791229197:=0
def tw9354772989718663652:=0
def tw6057787111283472754:=0
def tw10620777739595509205:=0
def tw4378866206847675199:=0
def tw17721329476019639670:=0
def tw12950618331797140909:=0
def tw9177643462900352948:=0
def tw7521744063532488886:=0
def tw13335334029807624223:=0
def tw16384819815783950362:=0
def tw17633834433772496662:=0
def tw16985800972827535213:=0
def tw17285714527750963387:=0
def tw12343715241794757179:=0
def tw18335395400420068671:=0
def tw8421553829721888266:=0
def tw11977096343962853157:=0
def tw608639996707519183:=0
def tw12332441265790813764:=0
def tw6492109954146143597:=0
def tw7673514476741519560:=0
def tw10752309436394342414:=0
def tw12264279022562695107:=0
def tw15604295120463835106:=0
def tw7806605571813948130:=0
def tw9026555127748347580:=0
def tw5230057693758253447:=0
def tw11851042006041388689:=0
def tw17760275741053438885:=0
def tw4193941633545883383:=0
def tw2382390349743365847:=0
def tw12760576698115933165:=0
def tw14664229588793890708:=0
def tw17115412587166113026:=0
def tw9156098183315014024:=0
def tw12052358134122030703:=0
def tw15824877777630224048:=0
def tw1137162223371763317:=0
def tw12644312321531153182:=0
def tw17932193969129063470:=0
def tw10196660634915886296:=0
def tw2318541152558423734:=0
def tw10103248595203232966:=0
def tw12570632194065096062:=0
def tw419405948457993674:=0
def tw10579201733956728111:=0
def tw6350052819180744625:=0
def tw4318302534835167843:=0
def tw14601258718044614031:=0
def tw17544001012323557588:=0
def tw3029402774602372339:=0
def tw1937030993904039617:=0
def tw1599882745438806321:=0
def tw12887273848010549807:=0
def tw15875670664752254909:=0
def tw2667117949948435507:=0
def tw447468178678622665:=0
def tw9775495742534905976:=0
def tw10905742602541598232:=0
def tw16649728075572656449:=0
def tw3237495357105769974:=0
def tw10559189483126798811:=0
def tw14491253251141577108:=0
def tw8606111738923542156:=0
def tw12113218887091910632:=0
def tw12720853489315646971:=0
def tw12789838915585904162:=0
def tw14008344629705397040:=0
def tw9758568482756680325:=0
def tw13781424040329864958:=0
def tw6879128349302529236:=0
def tw15045854510030708079:=0
def tw15211412359705411502:=0
def tw3570128683795734530:=0
def tw8020580493156790849:=0
def tw9778031730336219492:=0
def tw10495912318214811842:=0
def tw8156915678660226204:=0
def tw1570222781658092677:=0
def tw15957471675005686729:=0
def tw8767961544030765078:=0
def tw5742583181114315063:=0
def tw13159336007277137912:=0
def tw13776744381149361065:=0
def tw15077656885512810607:=0
def tw16190359290828396777:=0
def tw1633050847816005235:=0
def tw16795419381681463144:=0
def tw2502330784168146870:=0
def tw3971833754301910441:=0
def tw4348148592274599767:=0
def tw9100928689812392540:=0
def tw3600943362270742635:=0
def tw16053456165707786047:=0
def tw14428572985393548705:=0
def tw1910066110851252477:=0
def tw15829004316114860569:=0
def tw13603455853114576357:=0
def tw988984849830462587:=0
end PySem.W.Fast
open PySem PySem.W PyProof.Rows
set_option maxRecDepth 100000 in
theorem PySem.Challenge.cw_stakebodies_k11_dimension_holds : PySem.Challenge.rw_stakebodies_k11_dimension.Holds := by
 w_on;o_law;k_head;(case hw=>w_witness2)
 k_fill
 letI tabs9:DL.Tabs:=⟨[(169,K11.tbK)]⟩
 refine DL.QT (l:=PySem.Challenge.rw_stakebodies_k11_dimension) (k:=12) rfl rfl ⟨rfl,by decide,by decide⟩ (λw h Y=>⟨PySem.W.km_in_of Y,PySem.W.km_tabs_of Y⟩) (DL.RB (c:=173) (by k_mem) (λw=>by kernel_rfl)) (aAS.mpr ⟨aAN,aDi⟩) (λw=>by kernel_rfl) ?F
 case F=>
  intro w mg fa h KX G hmg;refine' K11.all_mk KX G hmg ?_ ?_ ?_ ?_ ?_ ?_ ?_ ?_ ?_ ?_ ?_ ?_ ?_ ?_ ?_ ?_ ?_ ?_ ?_ ?_ ?_ ?_ ?_ ?_ ?_ ?_ ?_ ?_ ?_ ?_ ?a30 ?l30 ?e30 ?k30 ?z_abs ?z_len ?z_any ?z_min ?z_list ?z_reversed ?z_zip ?z_sorted ?z_set ?z_int ?z_range ?z_tuple ?z_isinstance ?z_bool ?ca_NO_WAY ?cl_NO_WAY (aAZ.mpr rfl) ?n_NoPoints ?n_Flat ?n_BodyError ?e_NoPoints ?h1_NoPoints ?h2_NoPoints ?h3_NoPoints ?h4_NoPoints ?h5_NoPoints ?h6_NoPoints ?s_NoPoints ?e_Flat ?h1_Flat ?h2_Flat ?h3_Flat ?h4_Flat ?h5_Flat ?h6_Flat ?s_Flat ?e_BodyError ?h1_BodyError ?h2_BodyError ?h3_BodyError ?h4_BodyError ?h5_BodyError ?h6_BodyError ?s_BodyError ?i_Flat_NoPoints ?i_NoPoints_NoPoints ?i_Flat_Flat ?i_NoPoints_Flat K11.truth
  all_goals first|(refine' DL.ZU ?a ?l ?c ?k;(case a=>k_is);(case l=>k_is);(case c=>k_is);(case k=>k_is))|(refine' DL.UK ?a ?l ?c ?k rfl ?n;(case a=>k_is);(case l=>k_is);(case c=>k_is);(case k=>k_is);(case n=>kernel_rfl))|k_is|k_exc|kit_is|skip
end
