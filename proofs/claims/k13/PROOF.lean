import PyProof.Rows.All
import Wide.All
import OpenK.AllK
import Wide.FinOn
import Lean
import PyProof.EqAt
import PyProof.EqKinds
import PyProof.TupleCall
import PyProof.NeKinds
import KE.RegKIsAll
import PyProof.ExcClass3
import PySem.SetTable
import PySem.Value
import PyProof.Rows.SortShellK
import OpenK.KOwn
import KE.KNestM
import PyProof.Rows.StrWeight2
import KE.KRevSl
import PyProof.CollectIter
import PyProof.SetKind
import PyProof.Walks
import PyProof.ForAny
import PyProof.FactsAll.set_1
import PyProof.FactsAll.set_2
import PyProof.ZipIter
import KE.KRevIter
import PyProof.ListNew
import PyProof.ConsumeS
import KE.KIsAll
import PyProof.DictWalks
import KE.KDictList
import PySem.Challenge.RW_stakebodies_k13_corners_by_worths
set_option Elab.async false
set_option linter.all false
set_option backward.eqns.nonrecursive false
set_option maxRecDepth 100000
set_option maxHeartbeats 4000000
theorem jk{c:Prop}{h:Decidable c}(k:c){α:Sort _}{t e:α}:ite c t e=t:=if_pos k
theorem ka{c:Prop}{h:Decidable c}(k:¬c){α:Sort _}{t e:α}:ite c t e=e:=if_neg k
theorem kb{α:Sort _}{β:Sort _}{a b:α}(f:α->β)(h:a=b):f a=f b:=congrArg f h
abbrev kc:=PySem.W.Frag
abbrev kd:PySem.Str:="__debug__"
abbrev ku:PySem.Str:="__classdict__"
open PySem renaming Value → ai, starEach → av, wpAny → a5, Shared → a9, Addr → bb, model → bc, mainGlobals → be, Program → bt, Around → cp, World → cq, Heap → cv, Expr → cy, bootBuiltins → df, Stmt → dm, backTo → dq, cLine → dA, eval → d3, rawInt → d9, compareOp → ee, FuncData → ek, assignEach → et, cellsFrom → eQ, binaryOp → eR, NameKind → eY, swapsWith → eZ, foldedSetIterable → ff, argBest → fg, SetTable → fh, codeAmong → fo, pyNext → fT, holding → gh, codeAny → gn, IsPair → gr, swapsWithSole → gs, swappedStores → gv, attributeBase → gW, sysModules → hV, assign → h9, sliceBounds → ij, DictEntry → ik, numAt → i3, updateSeq → i4, behindInMarks → i5, Scope → i6, pickOrder → ja, wpAny_bind → aAa, wpAny_pure → aAb, wpAny_holding → aAK, wpAny_Call_Name_kw → aAL, wpAny_newObj_type → aAS, wpAny_call_entry → aBh, wpAny_specialOf → aBs, codeAny_builtin → aBu, wpAny_truthy_bool → aBG, wpAny_seqItems → aBN, plainId_quiet → aBQ, wpAny_callSpecial?_slot → aBY, wpAny_setField_rec → aCa, wpAny_updateSeq → aCc, wpAny_setState_of → aCj, builtinLookup_eq_fast → aCp, wpAny_forIn_list → aCu, wpAny_mono → aCF, wpAny_field → aCR, wpAny_passesOwn → aCX, wpAny_isInstance → aDi, wpAny_typeNameOfWhole_keyiter → aDj, wpAny_nextOf_list_item → aDm, wpAny_callSpecialIfBoundUnlessNone?_slot → aDq, typeLookup_type → aDx, wpAny_rule → aDz, wpAny_pyIter_list → aDB, codeAny_mono → aDP, wpAny_typeOf → aDQ, wpAny_attempt → aDU, wpAny_pyIter_slot → aDZ, wpAny_letGo → aEa, wpAny_execs_cons → aEn, wpAny_standAt → aEv, wpAny_execs_nil → aEz, wpAny_loadPart' → aEA, pushCells_keeps → aEB, wpAny_setEntries_of → aED, slot_dict_contains → aEW, isSubtype_type → aEZ, wpAny_tryCatch → aFa, wpAny_Assign_Name → aFf, slot_list_getitem → aFi, sizeLine_eq → aFm, noFill_tuple_add → aFt, beq_builtin_none → aFv, wpAny_askSetting → aFw, concat_meets → aFI, wpAny_newTuple → aFU, wpAny_runValue → aFW, wpAny_fieldsOf → aFX, wpAny_setField → aFY, isSubtype_stop → aFZ, wpAny_of_eq → aGg
open PySem.Heap renaming get?_push_of_some → aAc, lt_size → aAg, get?_push_size → aAo, get?_update_other → aAC, get?_update_self → aAZ, size_push → aBy, get?_none_of_le → aEu
open List renaming mem_cons → aAd, mem_cons_of_mem → aAe, length_map → aAf, getElem?_eq_getElem → aAh, size_toArray → aAm, mem_of_getElem? → aAn, mem_map → aAp, getD_eq_getElem?_getD → aAq, pairwise_cons → aAs, map_cons → aAv, length_cons → aAw, getElem?_eq_some_iff → aAx, getElem?_append_right → aAz, not_mem_nil → aAD, length_append → aAE, reverse_cons → aAF, getElem?_map → aAG, mem_append_right → aAH, nodup_cons → aAI, mem_append → aAN, getElem?_append_left → aAQ, mem_cons_self → aBa, lookup_cons → aBb, getElem_of_mem → aBc, mem_map_of_mem → aBf, getLast?_cons_cons → aBi, dropLast_concat → aBk, cons_append → aBl, mem_singleton → aBm, map_map → aBn, getElem?_replicate → aBq, mem_flatMap → aBr, all_eq_true → aBt, getElem?_zip_eq_some → aBv, range → aBw, getElem?_set_self → aBB, lookup_cons_self → aBD, pairwise_map → aBF, mem_append_left → aBH, set_cons_succ → aBI, set_cons_zero → aBJ, length_nil → aBL, getElem?_eq_none_iff → aBM, length_take → aBP, getElem_mem → aBR, length_reverse → aBS, mem_iff_getElem? → aBU, zip_cons_cons → aBV, mem_filterMap → aBW, mem_filter → aBX, map_append → aCd, forall_mem_cons → aCe, mem_reverse → aCf, nodup_iff_pairwise_ne → aCh, pairwise_iff_getElem → aCk, append_nil → aCn, length_replicate → aCo, length_drop → aCt, eq_nil_of_length_eq_zero → aCv, sum_cons → aCx, map → aCz, set → aCA, mem_range → aCB, filterMap_cons → aCH, take_of_length_le → aCK, getElem?_toArray → aCO, replicate → aCP, drop_eq_getElem_cons → aCS, mem_of_getLast? → aCT, mem_of_mem_drop → aCU, getElem?_set_ne → aCV, nodup_append → aCW, forIn_cons → aDb, pairwise_singleton → aDd, getElem?_cons_zero → aDe, getElem?_cons_succ → aDg, nodup_nil → aDk, filterMap_map → aDn, foldl_cons → aDt, nil_append → aDw, ext_getElem? → aDy, perm_ext_iff_of_nodup → aDC, any_eq_true → aDJ, length_pos_iff → aDL, replicate_succ → aDM, replicate_zero → aDN, of_mem_zip → aDS, length_pos_of_mem → aDY, forIn_nil → aEb, pairwise_reverse → aEd, map_nil → aEj, dropLast_eq_take → aEk, getElem?_eq_none → aEm, zipIdx_cons → aEp, getElem_map → aEq, map_reverse → aEr, mem_of_mem_take → aEt, map_congr_left → aEx, zipIdx_nil → aEC, exists_cons_of_ne_nil → aEH, head?_reverse → aEM, getLast?_cons → aEN, exists_mem_of_ne_nil → aEX, drop_zero → aEY, length_erase_of_mem → aFc, append_assoc → aFj, eraseIdx_cons_succ → aFn, drop_length → aFu, range_succ_eq_map → aFz, drop_eq_nil_of_le → aFC, take_append_drop → aFD, length_filter_le → aFK, mem_erase_of_ne → aFO, length_dropLast → aFQ, length → aGb, all_cons → aGj
open False renaming elim → aAi
open Nat renaming le_refl → aAj, ne_of_lt → aAl, le_trans → aAr, lt_of_lt_of_le → aAu, zero_le → aAY, lt_irrefl → aBg, lt_succ_of_lt → aBz, ne_of_gt → aCC, le_of_succ_le → aCG, lt_of_le_of_lt → aCN, lt_or_eq_of_le → aDo, le_of_lt → aDu, lt_succ_self → aDK, mod_lt → aDO, mul_le_mul → aEc, zero_add → aEf, le_of_eq → aEi, le_of_not_lt → aEo, lt_or_gt_of_ne → aEQ, le_of_lt_succ → aFe, reduceAdd → aFq, reduceSub → aFr, gcd_dvd_left → aFs, le_add_right → aFx, not_lt_zero → aFF, min_eq_left → aFG, gcd_comm → aFM, gcd → aGa, lt_trans → aGw, succ_pos → aGx
open Option.some renaming inj → aAk, injEq → aGp
open Bool renaming false_eq_true → aAt, and_eq_true → aAM, false_ne_true → aAP, eq_iff_iff → aDa, not_true → aDf, and_false → aFV
open Array renaming getElem?_eq_getElem → aAy, getElem?_toList → aAA, length_toList → aBd, getElem?_eq_none → aBC, getElem?_eq_some_iff → aCi, forIn_toList → aCr, replicate → aEy, perm_iff_toList_perm → aEK, getD → aFd, toList → aFH, getElem_toList → aFT, toList_append → aGf
open Int renaming mul_eq_zero → aAB, mul_le_mul_of_nonneg_right → aAR, mul_pos → aAT, mul_le_mul_of_nonneg_left → aAU, le_of_lt → aAW, mul_neg_of_pos_of_neg → aBj, toNat_natCast → aBA, mul_nonneg → aBK, le_refl → aCs, neg_mul_neg → aDr, lt_or_le → aDs, fmod_eq_emod_of_nonneg → aDE, eq_of_mul_eq_mul_left → aDF, mul_nonpos_of_nonneg_of_nonpos → aDR, mul_zero → aEe, mul_ediv_cancel' → aEs, toNat → aEE, mul_lt_mul_of_pos_left → aEI, le_of_mul_le_mul_right → aEJ, natAbs_eq_zero → aEO, ofNat_dvd_left → aEP, neg_nonneg_of_nonpos → aFb, mul_assoc → aFk, gcd → aGs, le_total → aGu, mul_comm → aGv
open PySem.Builtin.Tuple renaming tupleHashOf → aAJ, tupleExact → aCY, tupleItemsOf → aDD
open PySem.PassesOwn renaming never → aAO
open PySem.Builtin.Int renaming intBits → aAV
open PySem.Around renaming under_plainId → aAX, frames_deeper → aFP
open PyProof.Rows renaming callWith_type1 → aBe, callWith_builtin1 → aBo, wpS_bind → aBp, wpS_pure → aCl, slot_tuple_getitem → aCE, envOfC → aCJ, wpS_forRange → aEg, listItems_at → aEh, pairsOf_size → aER, assignInOrder_cons → aES, KK_mirror_equal → aFE, mirror_perm → aGc, wpS_reverse → aGd
open PySem.Obj renaming mapSeq → aBx, putSet → aEw
open Or renaming inr → aBE, inl → aCw
open PySem.Builtin.SmallTypes renaming nextOf → aBO, ownedTupleIsFree → aBT, ownedTupleHandOut → aDI
open PySem.NameKind renaming cell → aBZ
open PySem.Builtin.List renaming listExtendWith → aCb, listLengthHint → aCI, listItems → aCL, listTooLong → aCZ, listSameRef → aDc, listTouch → aFB
open Ne renaming symm → aCg
open ForInStep renaming yield → aCm
open PySem.Value renaming type → aCq, ref → aDv, bool → aDA, builtin → aGk, int → aGB
open PySem.Builtin.Range renaming rangeSize → aCy, small → aGe
open PySem.Str renaming ofString → aCD
open PySem.F renaming plain_min_loop → aCM, plain_extend_loop → aDh, slot_dict_keyiterator_next → aDp, slot_zip_next → aDX, entry_min_loop → aFy
open PySem.Builtin.Slice renaming slicePlaces → aCQ, sliceAdjust → aDG, sliceApplied → aEL
open Option renaming map_eq_some_iff → aDl, isSome_iff_exists → aFh
open PySem.SetTable renaming below → aDH, bits → aDT, fits → aGl, insertAt → aGt, tooFull → aGz
open PySem.SeqAt.EqAt renaming same → aDV, int_int → aEU, of_refs → aEV, int_tuple → aFR, tuple_int → aFS, int_str → aGh, str_int → aGi
open Classical renaming propDecidable → aDW
open PySem.Heap.SameBut renaming update → aEF, refl → aGr
open PySem.Builtin.Builtins renaming bindParams → aEG
open PySem.Calls renaming spliced_cons → aET, spliced_nil → aFg, callWith_builtin → aFA
open Prod renaming ext → aFl
open PySem.Moved renaming trans → aFo
open PySem.Builtin.Frozenset renaming slot0 → aFp
open List.cons renaming injEq → aFJ
open PySem.Builtin.Dict renaming showsAll → aFL
open List.Pairwise renaming filter → aFN, nil → aGm
open Sum renaming inl → aGn, inr → aGo
open True renaming intro → aGq
open PySem.pickOrder renaming go → aGy
open Array.Perm renaming refl → aGA
abbrev E8:=PySem.Value->PySem.Shared->Prop
abbrev O5:=List (PySem.Addr×PySem.Obj)
abbrev dG:=PySem.Str->Option PySem.Value
abbrev yG:=Bool->PySem.Shared->Prop
noncomputable section
namespace G
structure V where
 x:Int
 y:Int
 z:Int
deriving DecidableEq
instance:Add V:=⟨λu v=>⟨u.x+v.x,u.y+v.y,u.z+v.z⟩⟩
instance:Sub V:=⟨λu v=>⟨u.x-v.x,u.y-v.y,u.z-v.z⟩⟩
instance:Neg V:=⟨λu=>⟨-u.x,-u.y,-u.z⟩⟩
instance:HMul Int V V:=⟨λk u=>⟨k*u.x,k*u.y,k*u.z⟩⟩
instance:OfNat V 0:=⟨⟨0,0,0⟩⟩
@[simp]def a3j (u v:V):(u+v).x=u.x+v.x:=rfl
@[simp]def a3k (u v:V):(u+v).y=u.y+v.y:=rfl
@[simp]def a3i (u v:V):(u+v).z=u.z+v.z:=rfl
@[simp]def WM (u v:V):(u-v).x=u.x-v.x:=rfl
@[simp]def XV (u v:V):(u-v).y=u.y-v.y:=rfl
@[simp]def XU (u v:V):(u-v).z=u.z-v.z:=rfl
@[simp]def WP (u:V):(-u).x=-u.x:=rfl
@[simp]def WS (u:V):(-u).y=-u.y:=rfl
@[simp]def WU (u:V):(-u).z=-u.z:=rfl
@[simp]def MW (k:Int)(u:V):(k*u).x=k*u.x:=rfl
@[simp]def MK (k:Int)(u:V):(k*u).y=k*u.y:=rfl
@[simp]def MG (k:Int)(u:V):(k*u).z=k*u.z:=rfl
@[simp]def aW:(0:V).x=0:=rfl
@[simp]def aG:(0:V).y=0:=rfl
@[simp]def aX:(0:V).z=0:=rfl
def ext {u v:V}(a:u.x=v.x)(b:u.y=v.y)(c:u.z=v.z):u=v:=by cases u;cases v;simp_all
def qC {u v:V}:u=v↔u.x=v.x/\u.y=v.y/\u.z=v.z:=⟨λh=>by subst h;exact⟨rfl,rfl,rfl⟩,λ⟨a,b,c⟩=>ext a b c⟩
def c8 (u v:V):Int:=u.x*v.x+u.y*v.y+u.z*v.z
def cr (u v:V):V:=⟨u.y*v.z-u.z*v.y,u.z*v.x-u.x*v.z,u.x*v.y-u.y*v.x⟩
def f8 (a u v:V):Int:=c8 a (cr u v)
@[simp]def UW (u v:V):(cr u v).x=u.y*v.z-u.z*v.y:=rfl
@[simp]def VP (u v:V):(cr u v).y=u.z*v.x-u.x*v.z:=rfl
@[simp]def UI (u v:V):(cr u v).z=u.x*v.y-u.y*v.x:=rfl
def CA (a u v w:V):f8 a u v*w+f8 a v w*u+f8 a w u*v=f8 u v w*a:=by apply ext<;>simp[f8,c8]<;>grind
def LY (f a u v w:V):f8 a u v*c8 f w+f8 a v w*c8 f u+f8 a w u*c8 f v=f8 u v w*c8 f a:=by simp[f8,c8];grind
def k5 (a u v:V):f8 a v u=-f8 a u v:=by simp[f8,c8];grind
def C6 (a u:V):f8 a u u=0:=by simp[f8,c8];grind
def bF (a u v w:V):f8 a (u+v) w=f8 a u w+f8 a v w:=by simp[f8,c8];grind
def bE (a u v w:V):f8 a u (v+w)=f8 a u v+f8 a u w:=by simp[f8,c8];grind
def OR (a u v w:V):f8 a u (v-w)=f8 a u v-f8 a u w:=by simp[f8,c8];grind
def AW (a:V)(k:Int)(u v:V):f8 a u (k*v)=k*f8 a u v:=by simp[f8,c8];grind
def dR (u v:V):c8 u v=c8 v u:=by simp[c8];grind
def bO (f u v:V):c8 f (u+v)=c8 f u+c8 f v:=by simp[c8];grind
def d8 (f u v:V):c8 f (u-v)=c8 f u-c8 f v:=by simp[c8];grind
def u3 (f:V)(k:Int)(v:V):c8 f (k*v)=k*c8 f v:=by simp[c8];grind
def G6 (f:V)(k:Int)(v:V):c8 (k*f) v=k*c8 f v:=by simp[c8];grind
def N9 (f:V):c8 f 0=0:=by simp[c8]
def V2 (a u v:V):c8 (cr a u) v=f8 a u v:=by simp[f8,c8];grind
def y8 {u:V}(h:u≠0):0<c8 u u:=by
 have f:u.x≠0\/u.y≠0\/u.z≠0:=by
  by_cases a:u.x=0
  .by_cases b:u.y=0
   .by_cases c:u.z=0
    .exact absurd (ext a b c) h
    .exact .inr (.inr c)
   .exact .inr (.inl b)
  .exact .inl a
 have e:∀t:Int,0<=t*t:=λt=>by
  rcases aGu 0 t with q|q
  .exact aBK q q
  .have:=aBK (aFb q) (aFb q);rwa [aDr]at this
 have d:∀t:Int,t≠0->0<t*t:=λt g=>by
  have:=e t;have:t*t≠0:=λz=>by rcases aAB.mp z with q|q<;>exact g q
  omega
 have a:=e u.x;have b:=e u.y;have c:=e u.z;unfold c8;rcases f with q|q|q
 .have:=d _ q;omega
 .have:=d _ q;omega
 .have:=d _ q;omega
def y6 (h:n≠0)(a:c8 n u=0)(b:c8 n v=0)(c:c8 n w=0):f8 u v w=0:=by
 have e:f8 u v w*c8 n n=0:=by have:=LY n n u v w;rw[a,b,c]at this;simp at this;omega
 rcases aAB.mp e with q|q
 .exact q
 .have:=y8 h;omega
def v5 (v:V):(0:Int)*v=0:=ext (by simp) (by simp) (by simp)
def oO (v:V):v+0=v:=ext (by simp) (by simp) (by simp)
def gT (v:V):0+v=v:=ext (by simp) (by simp) (by simp)
structure Cone (Pos:V->Prop):Prop where
 add:∀{u v},Pos u->Pos v->Pos (u+v)
 mul:∀{k:Int} {u},0<k->Pos u->Pos (k*u)
 irr:¬Pos 0
section
variable{Pos:V->Prop} (C:Cone Pos)
include C
theorem Cone.comb {p q:Int}{u w:V}(a:0<p)(d:0<=q)(b:Pos w)(c:Pos u):Pos (p*w+q*u):=by
 by_cases h:q=0
 .subst h;rw[v5,oO];exact C.mul a b
 .exact C.add (C.mul a b) (C.mul (by lia) c)
theorem Cone.sgn {k:Int}{v:V}(b:Pos v)(h:Pos (k*v)):0<k:=by
 by_cases c:0<k
 .exact c
 .exfalso;by_cases d:k=0
  .subst d;rw[v5]at h;exact C.irr h
  .have a:=C.add h (C.mul (k:=-k) (by lia) b);have e:k*v+-k*v=0:=ext (by simp;grind) (by simp;grind) (by simp;grind);rw[e]at a;exact C.irr a
theorem Cone.tr {a u v w:V}(b:Pos u)(c:Pos v)(d:Pos w)(f:f8 u v w=0)(g:0<f8 a u v)(l:0<=f8 a v w):0<f8 a u w:=by
 refine C.sgn c (k:=f8 a u w) ?_;have e:f8 a u w*v=f8 a u v*w+f8 a v w*u:=by have h:=CA a u v w;rw[f,v5,k5 a u w]at h;have m:=kb V.x h;have n:=kb V.y h;have o:=kb V.z h;simp at m n o;exact ext (by simp;grind) (by simp;grind) (by simp;grind)
 rw[e];exact C.comb g l d b
theorem Cone.tr' {a u v w:V}(b:Pos u)(c:Pos v)(d:Pos w)(f:f8 u v w=0)(g:0<=f8 a u v)(l:0<f8 a v w):0<f8 a u w:=by
 refine C.sgn c (k:=f8 a u w) ?_;have e:f8 a u w*v=f8 a v w*u+f8 a u v*w:=by have h:=CA a u v w;rw[f,v5,k5 a u w]at h;have m:=kb V.x h;have n:=kb V.y h;have o:=kb V.z h;simp at m n o;exact ext (by simp;grind) (by simp;grind) (by simp;grind)
 rw[e];exact C.comb l g b d
end
structure ConeM (a:V)(Pos:V->Prop):Prop extends Cone Pos where
 inv:∀{u} (k:Int),Pos u->Pos (u+k*a)
def ConeM.tr {a:V}{Pos:V->Prop}(C:ConeM a Pos){u v w:V}(b:Pos u)(c:Pos v)(d:Pos w)(f:0<f8 a u v)(g:0<=f8 a v w):0<f8 a u w:=by
 refine C.sgn c (k:=f8 a u w) ?_;have e:f8 a u w*v=(f8 a u v*w+f8 a v w*u)+(-f8 u v w)*a:=by have h:=CA a u v w;rw[k5 a u w]at h;have l:=kb V.x h;have m:=kb V.y h;have n:=kb V.z h;simp at l m n;exact ext (by simp;grind) (by simp;grind) (by simp;grind)
 rw[e];exact C.inv _ (C.comb f g d b)
def f7 (w:V):Prop:=0<w.x\/(w.x=0/\(0<w.y\/(w.y=0/\0<w.z)))
instance(w:V):Decidable (f7 w):=inferInstanceAs (Decidable<|_\/_)
def z8:Cone f7 where
 add:=λ{u v} d e=>by unfold f7 at*;simp;lia
 mul:=λ{k u} a h=>by
  unfold f7 at*
  simp;rcases h with h|⟨h,b|⟨b,c⟩⟩
  .exact .inl (aAT a h)
  .exact .inr ⟨by rw[h];simp,.inl (aAT a b)⟩
  .exact .inr ⟨by rw[h];simp,.inr ⟨by rw[b];simp,aAT a c⟩⟩
 irr:=by unfold f7;simp
def M9 (w:V):Prop:=f7 (-w)
def DP:-(0:V)=0:=rfl
def bG:Cone M9 where
 add:=λ{u v} a b=>by have e:-(u+v)=-u+-v:=ext (by simp;lia) (by simp;lia) (by simp;lia);unfold M9 at*;rw[e];exact z8.add a b
 mul:=λ{k u} c h=>by have e:-(k*u)=k*(-u):=ext (by simp;grind) (by simp;grind) (by simp;grind);unfold M9 at*;rw[e];exact z8.mul c h
 irr:=by unfold M9;rw[DP];exact z8.irr
def TD (w:V):f7 w\/w=0\/M9 w:=by
 unfold M9 f7;rw[qC];simp
 lia
def x8 (v:V):v-v=0:=ext (by simp) (by simp) (by simp)
def fL (a u:V):f8 a u 0=0:=by simp[f8,c8]
def J9 (a u v:V):f8 a u (-v)=-f8 a u v:=by simp[f8,c8];grind
def bN (a u v:V):f8 a (-u) v=-f8 a u v:=by simp[f8,c8];grind
structure Row (n:V)(Pos:V->Prop)(T:V->Prop):Prop where
 cone:Cone Pos
 nz:n≠0
 pl:∀X Y,T X->T Y->c8 n (X-Y)=0
 tot:∀X Y,T X->T Y->X=Y\/Pos (X-Y)\/Pos (Y-X)
def Lft (n:V)(Pos:V->Prop)(a b X:V):Prop:=0<=f8 n (b-a) (X-a)/\(f8 n (b-a) (X-a)=0->(X=a\/Pos (X-a))/\(X=b\/Pos (b-X)))
def turn (n P Q R:V):Int:=f8 n (Q-P) (R-Q)
def Y9 (n P:V):List V->List V
 |b::a::r=>if turn n a b P<=0 then Y9 n P (a::r)else b::a::r
 |r=>r
def w6 (n:V)(ps:List V):List V:=ps.foldl (λc P=>P::Y9 n P c) []
def E9:List V->List (V×V)
 |b::a::r=>(a,b)::E9 (a::r)
 |_=>[]
def uE (n:V):List V->Prop
 |b::a::c::r=>0<f8 n (a-c) (b-a)/\uE n (a::c::r)
 |_=>True
def uE.tail (h:uE n (b::r)):uE n r:=by
 match r,h with
 |[],_=>trivial
 |[_],_=>trivial
 |_::_::_,h=>exact h.2
def Q1 (h:e∈E9 r):e∈E9 (b::r):=by
 match r,h with
 |a::r,h=>exact aAe _ h
section
variable{n:V} {Pos:V->Prop} {T:V->Prop} (F:Row n Pos T)
include F
structure ChOk (n:V)(Pos:V->Prop)(done:V->Prop)(c:List V):Prop where
 mem:∀X∈c,done X
 ed:∀e∈E9 c,Pos (e.2-e.1)/\∀X,done X->Lft n Pos e.1 e.2 X
 bend:uE n c
 last:∀X,done X->∀z,c.getLast?=some z->X=z\/Pos (X-z)
theorem Row.ac8 {done:V->Prop}(f:∀X,done X->T X)(p:Pos x)(s:c8 n x=0):∀(c:List V),(∀X∈c,done X)->(∀e∈E9 c,Pos (e.2-e.1))->uE n c->(∀b a r,c=b::a::r->0<f8 n (b-a) x)->∀e∈E9 c,0<f8 n (e.2-e.1) x
 |[],_,_,_,_,e,d=>by cases d
 |[_],_,_,_,_,e,d=>by cases d
 |[b,a],_,_,_,h,e,d=>by simp[E9]at d;subst d;exact h b a [] rfl
 |b::a::t::r,g,l,u,h,e,d=>by
  have k:=h b a _ rfl;rcases aAd.mp d with q|q
  .subst q;exact k
  .refine Row.ac8 f p s (a::t::r) (λX v=>g X (aAe _ v)) (λe d=>l e (Q1 d)) u.tail ?_ e q;intro z A B m;injection m with m o;injection o with o C;subst m o;have w:=l (t,a) (Q1 (by simp[E9]));have y:=l (a,b) (by simp[E9]);exact F.cone.tr w y p (y6 F.nz (F.pl _ _ (f _ (g _ (by simp))) (f _ (g _ (by simp)))) (F.pl _ _ (f _ (g _ (by simp))) (f _ (g _ (by simp)))) s) u.1 (aAW k)
theorem Row.weak (c:Pos u)(a:Pos v)(d:Pos w)(l:c8 n u=0)(m:c8 n v=0)(o:c8 n w=0)(p:0<=f8 n u v)(q:0<=f8 n v w):0<=f8 n u w:=by
 have b:=y6 F.nz l m o;by_cases r:0<f8 n u v
 .exact aAW (F.cone.tr c a d b r q)
 .by_cases s:0<f8 n v w
  .exact aAW (F.cone.tr' c a d b p s)
  .have t:f8 n u v=0:=by lia
   have A:f8 n v w=0:=by lia
   have h:=CA n u v w;rw[t,A,b,v5,v5,v5,gT,gT]at h;by_cases z:f8 n w u=0
   .rw[k5];lia
   .exfalso;have e:v=0:=by have f:=kb V.x h;have g:=kb V.y h;have k:=kb V.z h;simp at f g k;exact ext ((aAB.mp f).resolve_left z) ((aAB.mp g).resolve_left z) ((aAB.mp k).resolve_left z)
    rw[e]at a;exact F.cone.irr a
theorem Row.ad3 {done:V->Prop}(hd:∀X,done X->T X)(A:T P)(s:∀X,done X->Pos (P-X)):∀(c:List V),ChOk n Pos done c->c≠[]->
  (∀X q,c.head?=some q->done X->(X=q\/Pos (X-q))->0<=f8 n (P-q) (X-q))->
  ∃q r,Y9 n P c=q::r/\ChOk n Pos done (q::r)/\(∀X,done X->(X=q\/Pos (X-q))->0<=f8 n (P-q) (X-q))/\∀a B,r=a::B->0<turn n a q P
 |[],_,h,_=>absurd rfl h
 |[b],ok,_,t=>⟨b,[],rfl,ok,λX d h=>t X b rfl d h,λa B e=>by cases e⟩
 |b::a::r,ok,_,t=>by
  by_cases C:turn n a b P<=0
  .have e:Y9 n P (b::a::r)=Y9 n P (a::r):=by rw[Y9,jk C]
   rw[e];have k:=ok.mem b (by simp);have v:=ok.mem a (by simp);have U:=ok.ed (a,b) (by simp[E9]);refine Row.ad3 hd A s (a::r) ⟨λX d=>ok.mem X (aAe _ d),λe he=>ok.ed e (Q1 he),ok.bend.tail,λX d z w=>ok.last X d z (by rw[aBi];exact w)⟩ (by simp) ?_;intro X q hq d E;have H:a=q:=aAk hq;subst H;have hu:Pos (b-a):=U.1;have hp:Pos (P-b):=s b k;have Y:Pos (P-a):=s a v;have pu:c8 n (b-a)=0:=F.pl _ _ (hd _ k) (hd _ v);have pp:c8 n (P-b)=0:=F.pl _ _ A (hd _ k);have I:c8 n (P-a)=0:=F.pl _ _ A (hd _ v);unfold turn at C;have J:0<=f8 n (P-b) (b-a):=by rw[k5];lia
   rcases F.tot X b (hd X d) (hd b k)with z|z|z
   .
    subst z;have f:P-a=(P-X)+(X-a):=ext (by simp;lia) (by simp;lia) (by simp;lia);rw[f,bF,C6];lia
   .
    have L:=t X b rfl d (.inr z);have px:c8 n (X-b)=0:=F.pl _ _ (hd _ d) (hd _ k);have l:Pos (P-X):=s X d;have N:f8 n (P-a) (X-a)*(P-b)=f8 n (P-b) (X-b)*(P-a)+f8 n (P-b) (b-a)*(P-X):=by
     have m:=CA n (b-a) (X-b) (P-b);rw[y6 F.nz pu px pp,v5]at m;have f:P-a=(b-a)+(P-b):=ext (by simp;lia) (by simp;lia) (by simp;lia);have e2:X-a=(b-a)+(X-b):=ext (by simp;lia) (by simp;lia) (by simp;lia);have e3:P-X=(P-b)-(X-b):=ext (by simp;lia) (by simp;lia) (by simp;lia);rw[f,e2,e3];generalize b-a=u at*
     generalize X-b=x at*
     generalize P-b=p at*
     rw[bF,bE,bE,C6];have L:=kb V.x m;have hy:=kb V.y m;have w:=kb V.z m;rw[k5 n p x]at m L hy w;simp at L hy w;have s1:=k5 n p x;have s2:=k5 n p u;have s3:=k5 n u x;apply ext<;>simp<;>grind
    by_cases zz:0<=f8 n (P-a) (X-a)
    .exact zz
    .exfalso;have O:Pos ((-f8 n (P-a) (X-a))*(P-b)):=F.cone.mul (by lia) hp;have Q:Pos (-f8 n (P-a) (X-a)*(P-b)+(f8 n (P-b) (X-b)*(P-a)+f8 n (P-b) (b-a)*(P-X))):=by
      by_cases y1:f8 n (P-b) (X-b)=0
      .rw[y1,v5,gT];by_cases y2:f8 n (P-b) (b-a)=0
       .rw[y2,v5,oO];exact O
       .exact F.cone.add O (F.cone.mul (by lia) l)
      .exact F.cone.add O (F.cone.comb (by lia) J Y l)
     rw[<-N]at Q;have e0:-f8 n (P-a) (X-a)*(P-b)+f8 n (P-a) (X-a)*(P-b)=0:=by apply ext<;>simp<;>grind
     rw[e0]at Q;exact F.cone.irr Q
   .
    rcases E with g|g
    .subst g;rw[x8,fL];exact aCs _
    .have hl:=(U.2 X d).1;have o:0<=f8 n (P-a) (b-a):=by have f:P-a=(P-b)+(b-a):=ext (by simp;lia) (by simp;lia) (by simp;lia);rw[f,bF,C6];lia
     exact F.weak Y hu g I pu (F.pl _ _ (hd _ d)<|hd _ v) o hl
  .have e:Y9 n P (b::a::r)=b::a::r:=by rw[Y9,ka C]
   refine⟨b,a::r,e,ok,λX d h=>t X b rfl d h,λa' B e'=>?_⟩;injection e' with f _;subst f
   lia
theorem Row.push {done:V->Prop}(hd:∀X,done X->T X)(H:T P)(u:∀X,done X->Pos (P-X))(ok:ChOk n Pos done c)(L:c≠[])(N:∀X q,c.head?=some q->done X->X=q\/Pos (q-X)):
  ChOk n Pos (λX=>done X\/X=P) (P::Y9 n P c):=by
 obtain⟨q,r,e,f,w,l⟩:=F.ad3 hd H u c ok L (λX q w d h=>by
  rcases h with h|h
  .subst h;rw[x8,fL];exact aCs _
  .exfalso;rcases N X q w d with z|z
   .subst z;rw[x8]at h;exact F.cone.irr h
   .have:=F.cone.add h z;have x:X-q+(q-X)=0:=ext (by simp;lia) (by simp;lia) (by simp;lia);rw[x]at this;exact F.cone.irr this)
 rw[e];have o:=f.mem q (by simp);have k:Pos (P-q):=u q o;have p:c8 n (P-q)=0:=F.pl _ _ H (hd _ o);refine⟨λX d=>?_,λg A=>?_,?_,λX d z v=>?_⟩
 .rcases aAd.mp d with h|h
  .exact .inr h
  .exact .inl (f.mem X h)
 .rcases aAd.mp A with h|h
  .subst h;refine⟨k,λX d=>?_⟩;rcases d with d|d
   .rcases F.tot X q (hd _ d) (hd _ o)with z|z|z
    .subst z;exact⟨by rw[x8,fL];exact aCs _,λ_=>⟨.inl rfl,.inr k⟩⟩
    .exact⟨w X d (.inr z),λ_=>⟨.inr z,.inr (u X d)⟩⟩
    .
     have:0<f8 n (P-q) (X-q):=by
      match r,l,f with
      |[],_,f=>
       rcases f.last X d q rfl with y|y
       .subst y;rw[x8]at z;exact absurd z F.cone.irr
       .exfalso;have:=F.cone.add y z;have x:X-q+(q-X)=0:=ext (by simp;lia) (by simp;lia) (by simp;lia);rw[x]at this;exact F.cone.irr this
      |a::s,l,f=>
       have B:=l a s rfl;unfold turn at B;have O:=f.mem a (by simp);have I:=f.ed (a,q) (by simp[E9]);have J:=(I.2 X d).1;have t:X-a=(q-a)-(q-X):=ext (by simp;lia) (by simp;lia) (by simp;lia);dsimp only at J;rw[t,OR,C6]at J;have Q:0<=f8 n (q-X) (q-a):=by rw[k5];lia
       have:=F.cone.tr' (a:=n) z I.1 k (y6 F.nz (F.pl _ _ (hd _ o)<|hd _ d) (F.pl _ _ (hd _ o)<|hd _ O) p) Q B;have C:X-q=-(q-X):=ext (by simp;lia) (by simp;lia) (by simp;lia);rw[C,J9,k5];lia
     exact⟨aAW this,λz=>by dsimp only at z;lia⟩
   .subst d;exact⟨by rw[C6];exact aCs _,λ_=>⟨.inr k,.inl rfl⟩⟩
  .
   have m:=f.ed g h;refine⟨m.1,λX d=>?_⟩;rcases d with d|d
   .exact m.2 X d
   .subst d;have B:=F.ac8 hd k p (q::r) f.mem (λe A=>(f.ed e A).1) f.bend (λb a s U=>by injection U with t C;subst t;exact l a s C) g h
    have Y:=(m.2 q o).1;have:0<f8 n (g.2-g.1) (X-g.1):=by have t:X-g.1=(q-g.1)+(X-q):=ext (by simp;lia) (by simp;lia) (by simp;lia);rw[t,bE];lia
    exact⟨aAW this,λz=>by lia⟩
 .match r,l,f with
  |[],_,_=>trivial
  |a::s,l,f=>exact⟨l a s rfl,f.bend⟩
 .rcases d with d|d
  .exact f.last X d z (by rw[aBi]at v;exact v)
  .subst d;have E:(q::r).getLast?=some z:=by rw[aBi]at v;exact v
   exact .inr (u z<|f.mem z<|aCT E)
end
section
variable{n:V} {Pos:V->Prop} {T:V->Prop} (F:Row n Pos T)
include F
theorem ChOk.congr {done a:V->Prop}(ok:ChOk n Pos done c)(h:∀X,done X↔a X):ChOk n Pos a c:=
 ⟨λX b=>(h X).mp (ok.mem X b),λe d=>⟨(ok.ed e d).1,λX b=>(ok.ed e d).2 X ((h X).mpr b)⟩,ok.bend,λX b=>ok.last X ((h X).mpr b)⟩
theorem Row.fold:∀(rest:List V) (done:V->Prop) (c:List V),ChOk n Pos done c->c≠[]->(∀X q,c.head?=some q->done X->X=q\/Pos (q-X))->(∀X,done X->T X)->(∀X∈rest,T X)->
  (∀X Y,done X->Y∈rest->Pos (Y-X))->rest.Pairwise (λa b=>Pos (b-a))->
  ChOk n Pos (λX=>done X\/X∈rest) (rest.foldl (λc P=>P::Y9 n P c) c)/\rest.foldl (λc P=>P::Y9 n P c) c≠[]/\(∀X q,(rest.foldl (λc P=>P::Y9 n P c) c).head?=some q->(done X\/X∈rest)->X=q\/Pos (q-X))
 |[],done,c,ok,h,k,l,m,g,p=>⟨ChOk.congr F ok λX=>by simp,h,λX q f d=>by
   rcases d with d|d
   .exact k X q f d
   .cases d⟩
 |P::rest,done,c,ok,h,k,l,m,g,p=>by
  have r:=m P (by simp);have u:=F.push l r (λX d=>g X P d (by simp)) ok h k;have s:=aAs.mp p;obtain⟨v,w,x⟩:=Row.fold rest (λX=>done X\/X=P) (P::Y9 n P c) u (by simp) (λX q f d=>by
    have o:P=q:=aAk f;subst o;rcases d with d|d
    .exact .inr (g X P d (by simp))
    .exact .inl d) (λX d=>by
    rcases d with d|d
    .exact l X d
    .subst d;exact r) (λX d=>m X (aAe _ d)) (λX Y d t=>by
    rcases d with d|d
    .exact g X Y d (aAe _ t)
    .subst d;exact s.1 Y t) s.2
  have e:∀X,((done X\/X=P)\/X∈rest)↔(done X\/X∈P::rest):=λX=>by simp[or_assoc]
  exact⟨ChOk.congr F v e,w,λX q f d=>x X q f ((e X).mpr d)⟩
theorem Row.ac9 (l:ps≠[])(g:∀X∈ps,T X)(m:ps.Pairwise (λa b=>Pos (b-a))):
  ChOk n Pos (λX=>X∈ps) (w6 n ps)/\w6 n ps≠[]/\(∀X q,(w6 n ps).head?=some q->X∈ps->X=q\/Pos (q-X)):=by
 match ps,l with
 |p::rest,_=>
  have h:=aAs.mp m;have ok:ChOk n Pos (λX=>X=p) [p]:=⟨λX c=>by simpa using c,λe o=>by simp[E9]at o,trivial,λX c z k=>by simp at k;subst k;exact .inl c⟩
  obtain⟨r,s,t⟩:=F.fold rest (λX=>X=p) [p] ok (by simp) (λX q d c=>by have f:p=q:=aAk d;subst f;exact .inl c) (λX c=>by subst c;exact g _ (by simp)) (λX c=>g X (aAe _ c)) (λX Y c u=>by subst c;exact h.1 Y u) h.2
  have e:∀X,(X=p\/X∈rest)↔X∈p::rest:=λX=>by simp
  refine⟨ChOk.congr F r e,s,λX q d c=>t X q d ((e X).mpr c)⟩
end
def k7 (n:V)(a:List V):List V:=(w6 n a).reverse.dropLast++(w6 n a.reverse).reverse.dropLast
def t8:List V->List (V×V)
 |a::b::r=>(a,b)::t8 (b::r)
 |_=>[]
theorem nD:∀(l:List V) (a b:V),t8 (l++[a]++[b])=t8 (l++[a])++[(a,b)]
 |[],a,b=>rfl
 |[x],a,b=>rfl
 |x::y::l,a,b=>by have:=nD (y::l) a b;simp only[aBl,t8]at this⊢;rw[this]
theorem iN:∀c:List V,t8 c.reverse=(E9 c).reverse
 |[]=>rfl
 |[_]=>rfl
 |b::a::r=>by
  have d:=iN (a::r);rw[aAF,aAF]at*
  rw[nD,d,E9,aAF]
theorem mU:∀(l:List V) (a:V) (m:List V),t8 (l++a::m)=t8 (l++[a])++t8 (a::m)
 |[],a,m=>by cases m<;>rfl
 |[x],a,m=>rfl
 |x::y::l,a,m=>by have:=mU (y::l) a m;simp only[aBl,t8]at this⊢;rw[this]
def V8 (l:List V):List (V×V):=l.zip (l.tail++l.take 1)
theorem qD:∀(l:List V) (z:V),l.zip (l.tail++[z])=t8 (l++[z])
 |[],z=>rfl
 |[a],z=>rfl
 |a::b::r,z=>by have:=qD (b::r) z;simp only[List.tail_cons,aBl,t8,aBV]at this⊢;rw[this]
def Y1:V8 (a::l)=t8 (a::l++[a]):=qD (a::l) a
def PQ (k:w6 n a=M::c)(l:w6 n a.reverse=m::d)(g:(M::c).getLast?=some m)(o:(m::d).getLast?=some M)(p:c≠[]):
  V8 (k7 n a)=(E9 (w6 n a)).reverse++(E9 (w6 n a.reverse)).reverse:=by
 rw[<-iN,<-iN];unfold k7;rw[k,l,aAF,aAF,aBk,aBk];have b:∃e,c.reverse=m::e:=by
  have:c.getLast?=some m:=by
   match c,p with
   |x::c,_=>rw[aBi]at g;exact g
  rw[<-aEM]at this;match q:c.reverse,this with
  |x::r,this=>exact⟨r,by rw[show x=m from aAk this]⟩
 obtain⟨e,b⟩:=b;have f:∃h,d.reverse++[m]=M::h:=by
  have:(m::d).reverse.head?=some M:=by rw[aEM];exact o
  rw[aAF]at this;match q:d.reverse++[m],this with
  |x::r,this=>exact⟨r,by rw[show x=M from aAk this]⟩
 obtain⟨h,f⟩:=f;have s:c.reverse++d.reverse=m::(e++d.reverse):=by rw[b];rfl
 rw[s,Y1];have t:m::(e++d.reverse)++[m]=c.reverse++(d.reverse++[m]):=by rw[b];simp
 rw[t,f,mU]
def t7 (a b:V):-(a-b)=b-a:=ext (by simp;lia) (by simp;lia) (by simp;lia)
def t4:M9 (a-b)↔f7 (b-a):=by unfold M9;rw[t7]
def J2 (h:f7 (a-a)):False:=by rw[x8]at h;exact z8.irr h
def x9 (h:f7 (a-b))(h':f7 (b-a)):False:=by have:=z8.add h h';have c:a-b+(b-a)=0:=ext (by simp;lia) (by simp;lia) (by simp;lia);rw[c]at this;exact z8.irr this
def Q4 (a b:V):a=b\/f7 (a-b)\/f7 (b-a):=by
 rcases TD (a-b)with h|h|h
 .exact .inr (.inl h)
 .refine .inl (ext ?_ ?_ ?_)
  .have:=kb V.x h;simp at this;lia
  .have:=kb V.y h;simp at this;lia
  .have:=kb V.z h;simp at this;lia
 .exact .inr (.inr (t4.mp h))
def Btw (P Q X:V):Prop:=(f7 (Q-P)->(X=P\/f7 (X-P))/\(X=Q\/f7 (Q-X)))/\(f7 (P-Q)->(X=P\/f7 (P-X))/\(X=Q\/f7 (X-Q)))
structure EdgeOf (n:V)(T:V->Prop)(P Q:V):Prop where
 p:T P
 q:T Q
 ne:P≠Q
 left:∀X,T X->0<=f8 n (Q-P) (X-P)
 btw:∀X,T X->f8 n (Q-P) (X-P)=0->Btw P Q X
section
variable{n:V} {T:V->Prop}
def EdgeOf.next (h:EdgeOf n T P Q)(h':EdgeOf n T P R):Q=R:=by
 have m:=h.left R h'.q;have g:=h'.left Q h.q;rw[k5]at g;have k:f8 n (Q-P) (R-P)=0:=by lia
 have l:f8 n (R-P) (Q-P)=0:=by rw[k5];lia
 have d:=h.btw R h'.q k;have f:=h'.btw Q h.q l;rcases Q4 Q P with e|e|e
 .exact absurd e.symm h.ne
 .have b:=d.1 e;have c:f7 (R-P):=b.1.resolve_left (aCg h'.ne);rcases b.2 with q|q
  .exact q.symm
  .rcases(f.1 c).2 with a|a
   .exact a
   .exact(x9 q a).elim
 .have b:=d.2 e;have c:f7 (P-R):=b.1.resolve_left (aCg h'.ne);rcases b.2 with q|q
  .exact q.symm
  .rcases(f.2 c).2 with a|a
   .exact a
   .exact(x9 q a).elim
def pL (n P Q X:V):f8 n (Q-P) (X-P)=f8 n (Q-P) (X-Q):=by have e:X-P=(X-Q)+(Q-P):=ext (by simp;lia) (by simp;lia) (by simp;lia);rw[e,bE,C6];lia
end
theorem pI {Pos:V->Prop}(X:V):∀(c:List V),(∀Y∈c,X=Y\/Pos (X-Y)\/Pos (Y-X))->(∀q,c.head?=some q->X=q\/Pos (q-X))->(∀z,c.getLast?=some z->X=z\/Pos (X-z))->c≠[]->
  (∀u,Pos u->Pos (-u)->False)->X∈c\/∃a b,(a,b)∈E9 c/\Pos (X-a)/\Pos (b-X)
 |[],_,_,_,h,_=>absurd rfl h
 |[q],_,d,f,_,g=>by
  rcases d q rfl with e|e
  .exact .inl (by simp[e])
  .rcases f q rfl with k|k
   .exact .inl (by simp[k])
   .exact(g _ e (by rw[t7];exact k)).elim
 |b::a::r,l,d,f,_,g=>by
  rcases d b rfl with e|e
  .exact .inl (by simp[e])
  .rcases l a (by simp)with y|y|y
   .exact .inl (by simp[y])
   .exact .inr ⟨a,b,by simp[E9],y,e⟩
   .rcases pI X (a::r) (λY m=>l Y (aAe _ m)) (λq n=>by have:a=q:=aAk n;subst this;exact .inr y) (λz o=>f z (by rw[aBi];exact o)) (by simp) g with h|⟨p,s,h,t⟩
    .exact .inl (aAe _ h)
    .exact .inr ⟨p,s,Q1 h,t⟩
def Row.ad4 {Pos:V->Prop}{T:V->Prop}(F:Row n Pos T)(f:T a)(g:T b)(c:T P)(h:T Q)(k:Pos (P-a))(l:Pos (b-P))(m:Pos (Q-P))(o:0<=f8 n (b-a) (P-a))(d:0<f8 n (Q-P) (a-P))(p:0<=f8 n (Q-P) (b-P)):False:=by
 have q:f8 n (Q-P) (a-P)=f8 n (P-a) (Q-P):=by have e:a-P=-(P-a):=(t7 _ _).symm;rw[e,J9,k5];lia
 rw[q]at d;have:=F.cone.tr k m l (y6 F.nz (F.pl _ _ c f) (F.pl _ _ h c)<|F.pl _ _ g c) d p;have r:b-a=(b-P)+(P-a):=ext (by simp;lia) (by simp;lia) (by simp;lia);rw[r,bF,C6,k5]at o
 lia
structure Sheet (n:V)(ts:List V):Prop where
 nz:n≠0
 pl:∀X∈ts,∀Y∈ts,c8 n (X-Y)=0
 ord:ts.Pairwise (λa b=>f7 (b-a))
 two:∃X∈ts,∃Y∈ts,X≠Y
section
variable{n:V} {ts:List V} (S:Sheet n ts)
include S
theorem Sheet.row:Row n f7 (λX=>X∈ts):=⟨z8,S.nz,λX Y a b=>S.pl X a Y b,λX Y _ _=>Q4 X Y⟩
theorem Sheet.af0:Row n M9 (λX=>X∈ts):=⟨bG,S.nz,λX Y a b=>S.pl X a Y b,λX Y _ _=>by
 rcases Q4 X Y with h|h|h
 .exact .inl h
 .exact .inr (.inr (t4.mpr h))
 .exact .inr (.inl (t4.mpr h))⟩
theorem Sheet.ne:ts≠[]:=by obtain⟨X,a,_⟩:=S.two;intro e;rw[e]at a;cases a
theorem Sheet.ab0:ChOk n f7 (λX=>X∈ts) (w6 n ts)/\w6 n ts≠[]/\(∀X q,(w6 n ts).head?=some q->X∈ts->X=q\/f7 (q-X)):=
 S.row.ac9 S.ne (λ_ h=>h) S.ord
theorem Sheet.aa9:ChOk n M9 (λX=>X∈ts) (w6 n ts.reverse)/\w6 n ts.reverse≠[]/\(∀X q,(w6 n ts.reverse).head?=some q->X∈ts->X=q\/M9 (q-X)):=by
 have h:=S.af0.ac9 (ps:=ts.reverse) (by simpa using S.ne) (λX h=>by simpa using h) (by rw[aEd];exact S.ord.imp λh=>t4.mpr h)
 obtain⟨a,b,c⟩:=h;exact⟨ChOk.congr S.af0 a λX=>by simp,b,λX q d e=>c X q d (by simpa using e)⟩
theorem Sheet.ae0 (h:(a,b)∈E9 (w6 n ts))(g:a∈ts)(k:b∈ts):EdgeOf n (λX=>X∈ts) a b/\f7 (b-a):=by obtain⟨c,d⟩:=S.ab0.1.ed _ h;dsimp only at c d;refine⟨⟨g,k,λe=>by subst e;exact J2 c,λX f=>(d X f).1,λX f z=>⟨λ_=>(d X f).2 z,λy=>(x9 c y).elim⟩⟩,c⟩
theorem Sheet.ad7 (h:(a,b)∈E9 (w6 n ts.reverse))(k:a∈ts)(l:b∈ts):EdgeOf n (λX=>X∈ts) a b/\f7 (a-b):=by obtain⟨g,d⟩:=S.aa9.1.ed _ h;dsimp only at g d;have c:=t4.mp g;refine⟨⟨k,l,λe=>by subst e;exact J2 c,λX f=>(d X f).1,λX f z=>⟨λy=>(x9 c y).elim,λ_=>?_⟩⟩,c⟩;obtain⟨m,o⟩:=(d X f).2 z;exact⟨m.imp id t4.mp,o.imp id t4.mp⟩
theorem L3 (h:(a,b)∈E9 c):a∈c/\b∈c:=by
 induction c with
 |nil=>cases h
 |cons x c d=>
  match c,h,d with
  |[],h,_=>cases h
  |y::r,h,d=>
   rcases aAd.mp h with e|e
   .cases e;simp
   .have:=d e;exact⟨aAe _ this.1,aAe _ this.2⟩
theorem Sheet.ends:∃m M c d,m∈ts/\M∈ts/\f7 (M-m)/\(∀X∈ts,X=m\/f7 (X-m))/\(∀X∈ts,X=M\/f7 (M-X))/\w6 n ts=M::c/\w6 n ts.reverse=m::d/\(M::c).getLast?=some m/\(m::d).getLast?=some M/\c≠[]/\d≠[]:=by
 obtain⟨p,w,x⟩:=S.ab0;obtain⟨q,A,B⟩:=S.aa9;obtain⟨M,c,b⟩:=aEH w;obtain⟨m,d,f⟩:=aEH A;have r:M∈ts:=p.mem M (by rw[b];simp);have u:m∈ts:=q.mem m (by rw[f];simp);have s:∀X∈ts,X=M\/f7 (M-X):=λX g=>x X M (by rw[b];rfl) g;have h:∀X∈ts,X=m\/f7 (X-m):=λX g=>(B X m (by rw[f];rfl) g).imp id t4.mp;obtain⟨z,l⟩:∃z,(M::c).getLast?=some z:=by simp[aEN]
 obtain⟨y,o⟩:∃z,(m::d).getLast?=some z:=by simp[aEN]
 have C:z=m:=by
  have E:z∈ts:=p.mem z (by rw[b];exact aCT l);rcases p.last m u z (by rw[b];exact l)with e|e
  .exact e.symm
  .rcases h z E with a|a
   .exact a
   .exact(x9 e a).elim
 have H:y=M:=by
  have I:y∈ts:=q.mem y (by rw[f];exact aCT o);rcases q.last M r y (by rw[f];exact o)with e|e
  .exact e.symm
  .rcases s y I with a|a
   .exact a
   .exact(x9 (t4.mp e) a).elim
 subst C H;have t:f7 (y-z):=by
  obtain⟨X,g,Y,J,ne⟩:=S.two;rcases h y r with e|e
  .exfalso;subst e;have k:∀W∈ts,W=y:=λW v=>by
    rcases h W v with e|e
    .exact e
    .rcases s W v with a|a
     .exact a
     .exact(x9 e a).elim
   exact ne ((k X g).trans (k Y J).symm)
  .exact e
 refine⟨z,y,c,d,u,r,t,h,s,b,f,l,o,λe=>?_,λe=>?_⟩
 .subst e;have:y=z:=by simpa using l
  subst this;exact J2 t
 .subst e;have:z=y:=by simpa using o
  subst this;exact J2 t
theorem Sheet.pair (h:(P,Q)∈V8 (k7 n ts)):EdgeOf n (λX=>X∈ts) P Q:=by
 obtain⟨m,M,c,d,k,l,o,p,q,a,b,e,f,g,r⟩:=S.ends;rw[PQ a b e f g,aAN,aCf,aCf]at h;rcases h with h|h
 .have:=L3 S h;exact(S.ae0 h (S.ab0.1.mem _ this.1)<|S.ab0.1.mem _ this.2).1
 .have:=L3 S h;exact(S.ad7 h (S.aa9.1.mem _ this.1)<|S.aa9.1.mem _ this.2).1
theorem cR (h:P∈l):∃Q,(P,Q)∈V8 l:=by
 obtain⟨i,b,e⟩:=aBc h;have c:l.length=(l.tail++l.take 1).length:=by
  match l,b with
  |a::l,_=>simp
 refine⟨(l.tail++l.take 1)[i]'(by lia),?_⟩;unfold V8;refine List.mem_of_getElem (i:=i) (h:=by rw[List.length_zip];lia) ?_;rw[List.getElem_zip,e]
theorem Sheet.ac3 (h:EdgeOf n (λX=>X∈ts) P Q):P∈k7 n ts:=by
 obtain⟨m,M,c,d,hm,hM,mM,H,I,C,E,h3,h4,hc,hd⟩:=S.ends;obtain⟨t,J,L⟩:=S.ab0;obtain⟨k,N,O⟩:=S.aa9;unfold k7;rw[aAN,C,E,aAF,aAF,aBk,aBk,aCf,aCf];rcases Q4 Q P with e|e|e
 .exact absurd e.symm h.ne
 .
  left;rcases pI (Pos:=f7) P (w6 n ts) (λY _=>Q4 P Y) (λq v=>L P q v h.p) (λz w=>t.last P h.p z w) J (λu a b=>by have:=z8.add a b;have x:u+-u=0:=ext (by simp;lia) (by simp;lia) (by simp;lia);rw[x]at this;exact z8.irr this)with r|⟨a,b,r,g,A⟩
  .rw[C]at r;rcases aAd.mp r with q|q
   .subst q;rcases I Q h.q with y|y
    .exact absurd y.symm h.ne
    .exact(x9 e y).elim
   .exact q
  .exfalso;have l:=L3 S r;have f:=t.mem _ l.1;have o:=t.mem _ l.2;have T:=h.left a f;have B:f8 n (Q-P) (a-P)≠0:=λz=>by
    rcases((h.btw a f z).1 e).1 with y|y
    .subst y;exact J2 g
    .exact x9 g y
   exact S.row.ad4 f o h.p h.q g A e ((t.ed _ r).2 P h.p).1 (by lia) (h.left b o)
 .right;rcases pI (Pos:=M9) P (w6 n ts.reverse) (λY _=>S.af0.tot P Y h.p (by rename_i U;exact k.mem Y U)) (λq v=>O P q v h.p) (λz w=>k.last P h.p z w) N (λu a b=>by have:=bG.add a b;have x:u+-u=0:=ext (by simp;lia) (by simp;lia) (by simp;lia);rw[x]at this;exact bG.irr this)with r|⟨a,b,r,g,A⟩
  .rw[E]at r;rcases aAd.mp r with q|q
   .subst q;rcases H Q h.q with y|y
    .exact absurd y.symm h.ne
    .exact(x9 e y).elim
   .exact q
  .exfalso;have l:=L3 S r;have f:=k.mem _ l.1;have o:=k.mem _ l.2;have T:=h.left a f;have s:=t4.mp g;have B:f8 n (Q-P) (a-P)≠0:=λz=>by
    rcases((h.btw a f z).2 e).1 with y|y
    .subst y;exact J2 s
    .exact x9 s y
   exact S.af0.ad4 f o h.p h.q g A (t4.mpr e) ((k.ed _ r).2 P h.p).1 (by lia) (h.left b o)
theorem Sheet.aa1:(P,Q)∈V8 (k7 n ts)↔EdgeOf n (λX=>X∈ts) P Q:=by
 refine⟨S.pair,λh=>?_⟩;obtain⟨R,a⟩:=cR S (S.ac3 h);have:=(S.pair a).next h
 subst this;exact a
end
theorem M6 {Pos:V->Prop}(C:Cone Pos):∀(c:List V),(∀e∈E9 c,Pos (e.2-e.1))->c.Pairwise (λb a=>Pos (b-a))
 |[],_=>aGm
 |[x],_=>aDd _ _
 |b::a::r,h=>by
  have d:=M6 C (a::r) (λe g=>h e (Q1 g));have f:=h (a,b) (by simp[E9]);refine aAs.mpr ⟨λy k=>?_,d⟩;rcases aAd.mp k with e|e
  .subst e;exact f
  .have:=(aAs.mp d).1 y e;have s:=C.add f this;have l:b-a+(a-y)=b-y:=ext (by simp;lia) (by simp;lia) (by simp;lia);dsimp only at s
   rwa [l]at s
theorem kW:∀{h:V} {c:List V} {X:V},X∈c->∃b,(X,b)∈E9 (h::c)
 |h,[],X,d=>by cases d
 |h,a::r,X,d=>by
  rcases aAd.mp d with e|e
  .subst e;exact⟨h,by simp[E9]⟩
  .obtain⟨b,f⟩:=kW (h:=a) e;exact⟨b,Q1 f⟩
section
variable{n:V} {ts:List V} (S:Sheet n ts)
include S
theorem Sheet.aa4 (h:X∈k7 n ts):X∈ts:=by obtain⟨Q,a⟩:=cR S h;exact(S.pair a).p
theorem Sheet.aa5:(k7 n ts).Nodup:=by
 obtain⟨m,M,c,d,I,J,L,N,O,f,g,Q,T,U,Y⟩:=S.ends;obtain⟨k,n1,t1⟩:=S.ab0;obtain⟨l,n2,t2⟩:=S.aa9;unfold k7;rw[f,g,aAF,aAF,aBk,aBk];have r:=M6 z8 (w6 n ts) λe o=>(k.ed e o).1;have s:=M6 bG (w6 n ts.reverse) λe o=>(l.ed e o).1;rw[f]at r;rw[g]at s;have z:=(aAs.mp r).2;have A:=(aAs.mp s).2;rw[aCW];refine⟨?_,?_,?_⟩
 .rw[aCh,aEd];exact z.imp λ{a b} h e=>by subst e;exact J2 h
 .rw[aCh,aEd];exact A.imp λ{a b} h e=>by subst e;exact J2 (t4.mp h)
 .intro x t y u e;subst e;rw[aCf]at t u;obtain⟨b,p⟩:=kW (h:=M) t;obtain⟨b',q⟩:=kW (h:=m) u;rw[<-f]at p;rw[<-g]at q;have v:=L3 S p;have w:=L3 S q;obtain⟨B,C⟩:=S.ae0 p (k.mem _ v.1) (k.mem _ v.2);obtain⟨E,H⟩:=S.ad7 q (l.mem _ w.1) (l.mem _ w.2);have:=B.next E;subst this;exact x9 C H
theorem Sheet.ab5:∃m r,k7 n ts=m::r/\m∈ts/\∀X∈ts,X=m\/f7 (X-m):=by
 obtain⟨m,M,c,d,f,o,p,g,q,h,k,e,s,l,t⟩:=S.ends;have a:∃b,c.reverse=m::b:=by
  have:c.getLast?=some m:=by
   match c,l with
   |x::c,_=>rw[aBi]at e;exact e
  rw[<-aEM]at this;match u:c.reverse,this with
  |x::r,this=>exact⟨r,by rw[show x=m from aAk this]⟩
 obtain⟨b,a⟩:=a;refine⟨m,b++d.reverse,?_,f,g⟩;unfold k7;rw[h,k,aAF,aAF,aBk,aBk,a];rfl
theorem MC (h:Q∈l):∃P,(P,Q)∈V8 l:=by
 match l,h with
 |a::r,h=>
  have b:Q∈r++[a]:=by simpa[or_comm]using h
  obtain⟨i,c,e⟩:=aBc b;have d:i<(a::r).length:=by simpa using c
  refine⟨(a::r)[i],?_⟩;show _∈(a::r).zip (r++[a]);refine List.mem_of_getElem (i:=i) (h:=by rw[List.length_zip];simp;omega) ?_;rw[List.getElem_zip,e]
theorem xN (h:(P,Q)∈V8 l):P∈l/\Q∈l:=by
 have b:=aDS h;refine⟨b.1,?_⟩;match l,b.2 with
 |a::r,z=>simpa[or_comm]using z
theorem Sheet.strict (h:EdgeOf n (λX=>X∈ts) P Q)(B:X∈k7 n ts)(u:X≠P)(v:X≠Q):0<f8 n (Q-P) (X-P):=by
 have c:=S.aa4 B;have I:=h.left X c;by_cases z:f8 n (Q-P) (X-P)=0
 .exfalso;have b:=h.btw X c z;obtain⟨Y,E⟩:=cR S B;have g:=S.pair E;have w:=g.left P h.p;have o:=g.left Q h.q;rcases Q4 Q P with e|e|e
  .exact h.ne e.symm
  .have r:=b.1 e;have d:=r.1.resolve_left u;have f:=r.2.resolve_left v;have H:f8 n (X-P) (Q-X)=0:=by have a:Q-P=(Q-X)+(X-P):=ext (by simp;lia) (by simp;lia) (by simp;lia);rw[a,bF,C6,k5]at z;lia
   have s:0<=f8 n (X-P) (Y-X):=by have a:P-X=-(X-P):=(t7 _ _).symm;rw[a,J9]at w;rw[k5];lia
   rcases Q4 Y X with y|y|y
   .exact g.ne y.symm
   .have J:=S.row.weak d y f (S.pl _ c _ h.p) (S.pl _ g.q _ c) (S.pl _ h.q _ c) s o;by_cases l:0<f8 n (X-P) (Y-X)
    .have:=z8.tr d y f (y6 S.nz (S.pl _ c _ h.p) (S.pl _ g.q _ c)<|S.pl _ h.q _ c) l o
     lia
    .have m:f8 n (Y-X) (P-X)=0:=by have a:P-X=-(X-P):=(t7 _ _).symm;rw[a,J9,k5];lia
     rcases((g.btw P h.p m).1 y).1 with k|k
     .exact u k.symm
     .exact x9 k d
   .have t:f7 (X-Y):=y;have C:0<=f8 n (X-Y) (X-P):=by have a:Y-X=-(X-Y):=(t7 _ _).symm;rw[a,J9,k5]at s;lia
    have x:0<=f8 n (Q-X) (X-Y):=by have a:Y-X=-(X-Y):=(t7 _ _).symm;rw[a,bN,k5]at o;lia
    by_cases l:0<f8 n (Q-X) (X-Y)
    .have:=z8.tr f t d (y6 S.nz (S.pl _ h.q _ c) (S.pl _ c _ g.q)<|S.pl _ c _ h.p) l C;rw[k5]at this;lia
    .have m:f8 n (Y-X) (Q-X)=0:=by have a:Y-X=-(X-Y):=(t7 _ _).symm;rw[a,bN,k5];lia
     rcases((g.btw Q h.q m).2 t).1 with k|k
     .exact v k.symm
     .exact x9 k f
  .have r:=b.2 e;have d:=r.1.resolve_left u;have f:=r.2.resolve_left v;have H:f8 n (P-X) (X-Q)=0:=by have a:Q-P=-((P-X)+(X-Q)):=ext (by simp;lia) (by simp;lia) (by simp;lia);have A:X-P=-(P-X):=(t7 _ _).symm;rw[a,A,bN,J9,bF,C6,k5]at z;lia
   rcases Q4 Y X with y|y|y
   .exact g.ne y.symm
   .
    have x:0<=f8 n (X-Q) (Y-X):=by have a:Q-X=-(X-Q):=(t7 _ _).symm;rw[a,J9,k5]at o;lia
    by_cases l:0<f8 n (X-Q) (Y-X)
    .have:=z8.tr f y d (y6 S.nz (S.pl _ c _ h.q) (S.pl _ g.q _ c)<|S.pl _ h.p _ c) l w;rw[k5]at this;lia
    .have m:f8 n (Y-X) (Q-X)=0:=by have a:Q-X=-(X-Q):=(t7 _ _).symm;rw[a,J9,k5];lia
     rcases((g.btw Q h.q m).1 y).1 with k|k
     .exact v k.symm
     .exact x9 k f
   .have t:f7 (X-Y):=y;have C:0<=f8 n (P-X) (X-Y):=by have a:Y-X=-(X-Y):=(t7 _ _).symm;rw[a,bN,k5]at w;lia
    have x:0<=f8 n (X-Y) (X-Q):=by have a:Y-X=-(X-Y):=(t7 _ _).symm;have A:Q-X=-(X-Q):=(t7 _ _).symm;rw[a,A,bN,J9]at o;lia
    by_cases l:0<f8 n (P-X) (X-Y)
    .have:=z8.tr d t f (y6 S.nz (S.pl _ h.p _ c) (S.pl _ c _ g.q)<|S.pl _ c _ h.q) l x
     lia
    .have m:f8 n (Y-X) (P-X)=0:=by have a:Y-X=-(X-Y):=(t7 _ _).symm;rw[a,bN,k5];lia
     rcases((g.btw P h.p m).2 t).1 with k|k
     .exact u k.symm
     .exact x9 k d
 .lia
end
def jY {a:V}(h:a≠0):a.x≠0\/a.y≠0\/a.z≠0:=by
 by_cases p:a.x=0
 .by_cases q:a.y=0
  .by_cases r:a.z=0
   .exact absurd (ext p q r) h
   .exact .inr (.inr r)
  .exact .inr (.inl q)
 .exact .inl p
def B6 {a w:V}(c:a≠0)(h:cr a w=0):∃k m:Int,0<k/\k*w=m*a:=by
 have d:=kb V.x h;have f:=kb V.y h;have g:=kb V.z h;simp at d f g;have b:∀k m:Int,k≠0->k*w=m*a->∃k m:Int,0<k/\k*w=m*a:=λk m q e=>by
  by_cases p:0<k
  .exact⟨k,m,p,e⟩
  .refine⟨-k,-m,by lia,?_⟩;have l:=kb V.x e;have n:=kb V.y e;have o:=kb V.z e;simp at l n o;apply ext<;>simp<;>grind
 rcases jY c with p|p|p
 .exact b a.x w.x p (by apply ext<;>simp<;>grind)
 .exact b a.y w.y p (by apply ext<;>simp<;>grind)
 .exact b a.z w.z p (by apply ext<;>simp<;>grind)
def ConeM.ad1 {Pos:V->Prop}(C:ConeM a Pos)(c:a≠0)(d:Pos w):cr a w≠0:=λh=>by
 obtain⟨k,m,f,e⟩:=B6 c h;have b:=C.inv (-m) (C.mul f d);rw[e]at b;have g:m*a+-m*a=0:=by apply ext<;>simp<;>grind
 rw[g]at b;exact C.irr b
def F7 (a A:V):List V->V->V->V×V
 |[],c,b=>(c,b)
 |P::d,c,b=>if c=0\/0<c8 c (P-A)then F7 a A d (cr a (P-A)) P else F7 a A d c b
def TL (a A:V)(Pos:V->Prop)(seen:V->Prop)(c b:V):Prop:=
 (c=0/\∀P,seen P->cr a (P-A)=0)\/(seen b/\Pos (b-A)/\c=cr a (b-A)/\∀P,seen P->f8 a (b-A) (P-A)<=0)
def jJ (h:cr a w=0)(u:V):f8 a u w=0:=by
 have e:f8 a u w=-c8 (cr a w) u:=by simp[f8,c8];grind
 rw[e,h];simp[c8]
theorem tM {Pos:V->Prop}(C:ConeM a Pos)(s:a≠0):∀(J:List V) (seen:V->Prop) (d c:V),TL a A Pos seen d c->(∀P,seen P->Pos (P-A)\/cr a (P-A)=0)->(∀P∈J,Pos (P-A)\/cr a (P-A)=0)->
  TL a A Pos (λP=>seen P\/P∈J) (F7 a A J d c).1 (F7 a A J d c).2
 |[],seen,d,c,h,_,_=>by
  show TL a A Pos _ d c;rcases h with⟨g,f⟩|⟨g,f,k,l⟩
  .exact .inl ⟨g,λP b=>f P (by simpa using b)⟩
  .exact .inr ⟨.inl g,f,k,λP b=>l P (by simpa using b)⟩
 |Q::J,seen,d,c,h,t,u=>by
  have m:=u Q (by simp);have n:TL a A Pos (λP=>seen P\/P=Q) (if d=0\/0<c8 d (Q-A)then(cr a<|Q-A)else d) (if d=0\/0<c8 d (Q-A)then Q else c):=by
   rcases h with⟨g,f⟩|⟨g,f,k,l⟩
   .rw[jk (.inl g),jk (.inl g)];by_cases z:cr a (Q-A)=0
    .exact .inl ⟨z,λP b=>by
      rcases b with b|b
      .exact f P b
      .subst b;exact z⟩
    .refine .inr ⟨.inr rfl,m.resolve_right z,rfl,λP b=>?_⟩;rcases b with b|b
     .rw[jJ (f P b)];exact aCs _
     .subst b;rw[C6];exact aCs _
   .have v:d≠0:=by rw[k];exact C.ad1 s f
    have o:c8 d (Q-A)=f8 a (c-A) (Q-A):=by rw[k,V2]
    by_cases z:0<c8 d (Q-A)
    .rw[jk (.inr z),jk (.inr z)];have w:Pos (Q-A):=by
      rcases m with q|q
      .exact q
      .rw[o,jJ q]at z;lia
     refine .inr ⟨.inr rfl,w,rfl,λP b=>?_⟩;rcases b with b|b
     .by_cases x:f8 a (Q-A) (P-A)<=0
      .exact x
      .exfalso;have p:Pos (P-A):=by
        rcases t P b with q|q
        .exact q
        .rw[jJ q]at x;lia
       have:=C.tr f w p (by rw[<-o];exact z) (by lia);have:=l P b
       lia
     .subst b;rw[C6];exact aCs _
    .rw[ka (by rintro(q|q);exact v q;exact z q),ka (by rintro(q|q);exact v q;exact z q)];refine .inr ⟨.inl g,f,k,λP b=>?_⟩;rcases b with b|b
     .exact l P b
     .subst b;rw[<-o];lia
  have r:=tM C s J (λP=>seen P\/P=Q) _ _ n (λP b=>by
   rcases b with b|b
   .exact t P b
   .subst b;exact m) (λP b=>u P (aAe _ b))
  have e:F7 a A (Q::J) d c=F7 a A J (if d=0\/0<c8 d (Q-A)then(cr a<|Q-A)else d) (if d=0\/0<c8 d (Q-A)then Q else c):=by rw[F7];split<;>rfl
  rw[e];have y:(λP=>(seen P\/P=Q)\/P∈J)=(λP=>seen P\/P∈Q::J):=by funext P;simp[or_assoc]
  rw[<-y];exact r
def QQ {Pos:V->Prop}(C:ConeM a Pos)(d:a≠0)(f:∀P∈J,Pos (P-A)\/cr a (P-A)=0)(g:∃P∈J,Pos (P-A)):
  (F7 a A J 0 A).2∈J/\Pos ((F7 a A J 0 A).2-A)/\∀P∈J,f8 a ((F7 a A J 0 A).2-A) (P-A)<=0:=by
 have h:=tM C d J (λ_=>False) 0 A (.inl ⟨rfl,λ_ h=>h.elim⟩) (λ_ h=>h.elim) f;rcases h with⟨e,b⟩|⟨e,b,m,k⟩
 .obtain⟨P,c,l⟩:=g;exact absurd (b P<|.inr c) (C.ad1 d l)
 .exact⟨by simpa using e,b,λP c=>k P (.inr c)⟩
def q9 (v:V):Nat:=aGa (aGa v.x.natAbs v.y.natAbs) v.z.natAbs
def dE (v:V)(g:Int):V:=⟨v.x/g,v.y/g,v.z/g⟩
def dI (n:V):Prop:=q9 n=1
def rB (k:Int)(v:V):q9 (k*v)=k.natAbs*q9 v:=by unfold q9;simp[Int.natAbs_mul,Nat.gcd_mul_left]
def IZ (h:q9 v=0):v=0:=by unfold q9 at h;have a:=Nat.gcd_eq_zero_iff.mp h;have b:=Nat.gcd_eq_zero_iff.mp a.1;exact ext (aEO.mp b.1) (aEO.mp b.2) (aEO.mp a.2)
def MV (v:V):(q9 v:Int)∣v.x/\(q9 v:Int)∣v.y/\(q9 v:Int)∣v.z:=by
 unfold q9;refine⟨?_,?_,?_⟩
 .exact aEP.mpr (Nat.dvd_trans (aFs _ _)<|aFs _ _)
 .exact aEP.mpr (Nat.dvd_trans (aFs _ _)<|Nat.gcd_dvd_right _ _)
 .exact aEP.mpr (Nat.gcd_dvd_right _ _)
def fM (h:c≠0):0<(q9 c:Int)/\c=(q9 c:Int)*dE c (q9 c)/\dI (dE c (q9 c)):=by
 have k:q9 c≠0:=λz=>h (IZ z);have a:0<(q9 c:Int):=by lia
 obtain⟨b,d,f⟩:=MV c;have e:c=(q9 c:Int)*dE c (q9 c):=by
  apply ext
  .show _=_*(c.x/_);rw[aEs b]
  .show _=_*(c.y/_);rw[aEs d]
  .show _=_*(c.z/_);rw[aEs f]
 refine⟨a,e,?_⟩;have:=kb q9 e;rw[rB]at this;simp only[Int.natAbs_natCast]at this;unfold dI;have g:q9 c*1=q9 c*q9 (dE c<|q9 c):=by lia
 exact(Nat.eq_of_mul_eq_mul_left (by lia) g).symm
def dI.ne (h:dI n):n≠0:=λe=>by subst e;unfold dI at h;exact absurd h (by decide)
def nZ {n m:V}{k l:Int}(f:dI n)(g:dI m)(h:0<k)(o:0<l)(e:k*n=l*m):n=m:=by
 have:=kb q9 e;rw[rB,rB,f,g]at this;have a:k=l:=by lia
 subst a;have b:=kb V.x e;have c:=kb V.y e;have d:=kb V.z e;simp at b c d;exact ext (aDF (by lia) b) (aDF (by lia) c) (aDF (by lia) d)
def d5 (P Q R:V):V×Int:=let n:=dE (cr (Q-P)<|R-P) (q9<|cr (Q-P)<|R-P);(n,c8 n P)
structure IsFace (J:List V)(n:V)(d:Int):Prop where
 prim:dI n
 sup:∀X∈J,c8 n X<=d
 three:∃A∈J,∃B∈J,∃C∈J,c8 n A=d/\c8 n B=d/\c8 n C=d/\cr (B-A) (C-A)≠0
def K3 (a:c8 n u=0)(b:c8 n v=0):cr n (cr u v)=0:=by simp[c8]at a b;apply ext<;>simp<;>grind
def qQ (f:c≠0)(b:cr n c=0)(d:cr m c=0):cr n m=0:=by
 have h:cr c n=0:=by have:=kb V.x b;have:=kb V.y b;have:=kb V.z b;simp at*;apply ext<;>simp<;>grind
 have o:cr c m=0:=by have:=kb V.x d;have:=kb V.y d;have:=kb V.z d;simp at*;apply ext<;>simp<;>grind
 obtain⟨k,p,t,r⟩:=B6 f h;obtain⟨l,q,u,s⟩:=B6 f o;have e:(k*l)*cr n m=0:=by
  have:(k*l)*cr n m=cr (k*n) (l*m):=by apply ext<;>simp<;>grind
  rw[this,r,s];apply ext<;>simp<;>grind
 have a:k*l≠0:=λz=>by rcases aAB.mp z with q|q<;>lia
 have b:=kb V.x e;have d:=kb V.y e;have g:=kb V.z e;simp only[MW,MK,MG,aW,aG,aX]at b d g;exact ext ((aAB.mp b).resolve_left a) ((aAB.mp d).resolve_left a) ((aAB.mp g).resolve_left a)
def jR {J:List V}{n m:V}{d e:Int}(f:dI n)(a:dI m)(H:∀X∈J,c8 n X<=d)(g:∀X∈J,c8 m X<=e){A B C Z:V}(I:c8 n A=d)(L:c8 n B=d)(N:c8 n C=d)(h:c8 m A=e)(o:c8 m B=e)(r:c8 m C=e)
  (s:cr (B-A) (C-A)≠0) (t:Z∈J) (hz:c8 n Z<d):n=m/\d=e:=by
 have u:cr n (cr (B-A)<|C-A)=0:=K3 (by rw[d8];lia) (by rw[d8];lia);have w:cr m (cr (B-A)<|C-A)=0:=K3 (by rw[d8];lia) (by rw[d8];lia);have p:=qQ s w u;obtain⟨k,l,b,c⟩:=B6 a.ne p;have x:0<l:=by
  have q:=kb (λv=>c8 v (Z-A)) c;rw[G6,G6]at q;have y:c8 n (Z-A)<0:=by rw[d8];lia
  have O:c8 m (Z-A)<=0:=by rw[d8];have:=g Z t;lia
  have Q:k*c8 n (Z-A)<0:=aBj b y;by_cases z:0<l
  .exact z
  .exfalso;have:0<=l*c8 m (Z-A):=by
    have:=aBK (show 0<=-l by lia) (show 0<=-c8 m (Z-A)by lia)
    rwa [aDr]at this
   lia
 have E:=nZ f a b x c;subst E;exact⟨rfl,by lia⟩
def b7 (A B:V)(J:List V):V×Int:=d5 A B (F7 (B-A) A J 0 A).2
def y7 (n:V)(d:Int)(J:List V):List V:=J.filter λX=>decide (c8 n X=d)
def d6:X∈y7 n d J↔X∈J/\c8 n X=d:=by simp[y7]
def bU (h:cr (Q-P) (R-P)≠0):∃g:Int,0<g/\cr (Q-P) (R-P)=g*(d5 P Q R).1/\dI (d5 P Q R).1/\(d5 P Q R).2=c8 (d5 P Q R).1 P:=by obtain⟨a,b,c⟩:=fM h;exact⟨_,a,b,c,rfl⟩
def X6 {Pos:V->Prop}(C:ConeM (B-A) Pos)(c:B-A≠0)(o:∀P∈J,Pos (P-A)\/cr (B-A) (P-A)=0)(p:∃P∈J,Pos (P-A)):
  ∃(a:V) (g:Int),a∈J/\Pos (a-A)/\0<g/\cr (B-A) (a-A)=g*(b7 A B J).1/\dI (b7 A B J).1/\(b7 A B J).2=c8 (b7 A B J).1 A/\
   (∀P∈J,c8 (b7 A B J).1 P<=(b7 A B J).2)/\c8 (b7 A B J).1 B=(b7 A B J).2/\c8 (b7 A B J).1 a=(b7 A B J).2/\
   (∀P∈J,c8 (b7 A B J).1 P=(b7 A B J).2->f8 (B-A) (a-A) (P-A)=0):=by
 obtain⟨q,d,r⟩:=QQ C c o p;have s:=C.ad1 c d;obtain⟨g,f,k,t,l⟩:=bU s;have b:∀w:V,g*c8 (b7 A B J).1 w=f8 (B-A) ((F7 (B-A) A J 0 A).2-A) w:=λw=>by have:c8 (cr (B-A)<|(F7 (B-A) A J 0 A).2-A) w=f8 (B-A) ((F7 (B-A) A J 0 A).2-A) w:=V2 _ _ _;rw[<-this,k,G6];rfl
 have v:(b7 A B J).2=c8 (b7 A B J).1 A:=l;have m:∀w:V,f8 (B-A) ((F7 (B-A) A J 0 A).2-A) w=0->c8 (b7 A B J).1 w=0:=λw u=>by have:=b w;rw[u]at this;exact(aAB.mp this).resolve_left (by lia)
 refine⟨_,g,q,d,f,k,t,l,λP n=>?_,?_,?_,λP n e=>?_⟩
 .have h:=r P n;rw[<-b]at h;have:c8 (b7 A B J).1 (P-A)<=0:=by
   by_cases z:c8 (b7 A B J).1 (P-A)<=0
   .exact z
   .have:=aAT f (show 0<c8 (b7 A B J).1 (P-A)by lia)
    lia
  rw[d8]at this
  lia
 .have:=m (B-A) (by simp[f8,c8];grind);rw[d8]at this;lia
 .have:=m ((F7 (B-A) A J 0 A).2-A) (C6 _ _);rw[d8]at this;lia
 .rw[<-b,d8];have:c8 (b7 A B J).1 P-c8 (b7 A B J).1 A=0:=by lia
  rw[this];simp
def AA {Pos:V->Prop}(C:ConeM a Pos)(c:a≠0)(d:Pos o)(e:Pos w)(h:f8 a o w=0):0<c8 (cr a o) (cr a w):=by
 by_cases z:0<c8 (cr a o) (cr a w)
 .exact z
 .exfalso;have f:=C.ad1 c d;have g:=y8 f;have k:Pos (c8 (cr a o) (cr a o)*w+(-c8 (cr a o) (cr a w))*o):=C.comb g (by lia) e d;refine C.ad1 c k ?_;have b:cr (cr a o) (cr a w)=f8 a o w*a:=by simp[f8,c8];apply ext<;>simp<;>grind
  rw[h,v5]at b;have l:cr a (c8 (cr a o) (cr a o)*w+(-c8 (cr a o) (cr a w))*o)=c8 (cr a o) (cr a o)*cr a w+(-c8 (cr a o) (cr a w))*cr a o:=by apply ext<;>simp<;>grind
  rw[l];have m:∀p q:V,c8 p p*q+(-c8 p q)*p=cr p (cr q p):=λp q=>by simp[c8];apply ext<;>simp<;>grind
  rw[m];have n:cr (cr a w) (cr a o)=0:=by have r:=kb V.x b;have s:=kb V.y b;have t:=kb V.z b;simp only[UW,VP,UI,aW,aG,aX]at r s t;apply ext<;>simp only[UW,VP,UI,aW,aG,aX]<;>grind
  rw[n];apply ext<;>simp
def Btw.symm (h:Btw P Q X):Btw Q P X:=⟨λa=>⟨(h.2 a).2,(h.2 a).1⟩,λa=>⟨(h.1 a).2,(h.1 a).1⟩⟩
def uS (g:n≠0)(c:c8 n (a-b)=0):ConeM (a-b) (λw=>c8 n w<0\/(c8 n w=0/\0<f8 n (b-a) w))where
 add:=λ{u v} l m=>by
  rw[bO,bE]
  lia
 mul:=λ{k u} d h=>by
  rw[u3,AW];rcases h with h|⟨h,f⟩
  .exact .inl (aBj d h)
  .exact .inr ⟨by rw[h];simp,aAT d f⟩
 irr:=by rw[N9,fL];lia
 inv:=λ{u} k h=>by
  have e:f8 n (b-a) (a-b)=0:=by have:a-b=-(b-a):=(t7 _ _).symm;rw[this,J9,C6];rfl
  rw[bO,bE,u3,AW,c,e];simpa using h
def X4 (a:n≠0)(f:c8 n u=0)(g:c8 n w=0)(h:f8 n u w=0):cr u w=0:=by
 have l:cr n (cr u w)=0:=K3 f g;obtain⟨k,m,r,e⟩:=B6 a l;have q:=kb (c8 n) e;rw[u3,u3]at q;have:c8 n (cr u w)=0:=h;rw[this]at q;have o:m=0:=by
  have:=y8 a;have p:m*c8 n n=0:=by lia
  rcases aAB.mp p with z|z
  .exact z
  .lia
 rw[o,v5]at e;have b:=kb V.x e;have c:=kb V.y e;have d:=kb V.z e;simp only[MW,MK,MG,aW,aG,aX]at b c d;exact ext ((aAB.mp b).resolve_left (by lia)) ((aAB.mp c).resolve_left (by lia)) ((aAB.mp d).resolve_left (by lia))
def AF (h:cr u w=0):cr (-u) w=0:=by have a:=kb V.x h;have b:=kb V.y h;have c:=kb V.z h;simp only[UW,VP,UI,aW,aG,aX]at a b c;apply ext<;>simp<;>grind
def vI (E:n≠0)(U:∀X∈J,c8 n X<=d)(hz:∃Z∈J,c8 n Z<d)(h:EdgeOf n (λX=>X∈y7 n d J) a b):
  IsFace J (b7 b a J).1 (b7 b a J).2/\EdgeOf (b7 b a J).1 (λX=>X∈y7 (b7 b a J).1 (b7 b a J).2 J) b a:=by
 obtain⟨H,da⟩:=d6.mp h.p;obtain⟨pb,db⟩:=d6.mp h.q;have o:c8 n (a-b)=0:=by rw[d8];lia
 have t:c8 n (b-a)=0:=by rw[d8];lia
 have C:=uS (n:=n) E o;have r:a-b≠0:=λe=>h.ne (by have Y:=kb V.x e;have q2:=kb V.y e;have q3:=kb V.z e;simp at Y q2 q3;exact ext (by lia) (by lia) (by lia))
 have u:∀P∈J,(c8 n (P-b)<0\/(c8 n (P-b)=0/\0<f8 n (b-a) (P-b)))\/cr (a-b) (P-b)=0:=λP I=>by
  have h1:=U P I;by_cases z:c8 n P<d
  .exact .inl (.inl (by rw[d8];lia))
  .have e:c8 n P=d:=by lia
   have tP:P∈y7 n d J:=d6.mpr ⟨I,e⟩;have l:=h.left P tP;rw[pL]at l;have L:c8 n (P-b)=0:=by rw[d8];lia
   by_cases y:0<f8 n (b-a) (P-b)
   .exact .inl (.inr ⟨L,y⟩)
   .have y0:f8 n (b-a) (P-b)=0:=by lia
    have:=AF (X4 E t L y0);rw[t7]at this;exact .inr this
 obtain⟨Z,hZ,hz⟩:=hz;obtain⟨c,g,o1,v,g0,N,gp,O,w,Q,sO,T⟩:=X6 C r u ⟨Z,hZ,.inl (by rw[d8];lia)⟩;refine⟨⟨gp,w,b,pb,a,H,c,o1,O.symm,Q,sO,C.ad1 r v⟩,⟨d6.mpr ⟨pb,O.symm⟩,d6.mpr ⟨H,Q⟩,λe=>h.ne e.symm,λX A=>?_,λX A e=>?_⟩⟩
 .obtain⟨f,B⟩:=d6.mp A;have z:=T X f B;have s:g*f8 (b7 b a J).1 (a-b) (X-b)=c8 (cr (a-b)<|c-b) (cr (a-b)<|X-b):=by rw[N];unfold f8;rw[G6]
  have:0<=c8 (cr (a-b)<|c-b) (cr (a-b)<|X-b):=by
   rcases u X f with q|q
   .exact aAW (AA C r v q z)
   .rw[q,N9];exact aCs _
  rw[<-s]at this;by_cases zz:0<=f8 (b7 b a J).1 (a-b) (X-b)
  .exact zz
  .have:=aBj g0 (show f8 (b7 b a J).1 (a-b) (X-b)<0 by lia)
   lia
 .obtain⟨f,B⟩:=d6.mp A;have z:=T X f B;have s:g*f8 (b7 b a J).1 (a-b) (X-b)=c8 (cr (a-b)<|c-b) (cr (a-b)<|X-b):=by rw[N];unfold f8;rw[G6]
  rw[e]at s;rcases u X f with q|q
  .have:=AA C r v q z;rw[<-s]at this;simp at this
  .
   have dX:c8 n X=d:=by obtain⟨k,m,hk,e⟩:=B6 r q;have q:=kb (c8 n) e;rw[u3,u3,o]at q;have:c8 n (X-b)=0:=(aAB.mp (show k*c8 n (X-b)=0 by lia)).resolve_left (by lia);rw[d8]at this;lia
   refine(h.btw X (d6.mpr ⟨f,dX⟩) ?_).symm;rw[pL];have:cr (b-a) (X-b)=0:=by
    have:=AF q
    rwa [t7]at this
   unfold f8;rw[this,N9]
def B4:List V->Option V
 |[]=>none
 |w::a=>if w≠0 then some w else B4 a
def u5 (h:B4 ws=some w):w∈ws/\w≠0:=by
 induction ws with
 |nil=>cases h
 |cons v ws a=>
  unfold B4 at h;split at h
  .rename_i b;cases h;exact⟨by simp,b⟩
  .have:=a h;exact⟨aAe _ this.1,this.2⟩
def N1 (h:B4 ws=none):∀w∈ws,w=0:=by
 induction ws with
 |nil=>intro w a;cases a
 |cons v ws b=>
  unfold B4 at h;split at h
  .cases h
  .rename_i c;intro w a;rcases aAd.mp a with e|e
   .subst e;exact Decidable.not_not.mp c
   .exact b h w e
def K6:List V->Nat
 |[]=>0
 |p::c=>
  let a:=(p::c).map (· -p)
  match B4 a with
  |none=>0
  |some b=>match B4 (a.map<|cr b)with
   |none=>1
   |some d=>if a.any (λw=>decide (c8 d w≠0))then 3 else 2
def j8 (J:List V):Prop:=∃A∈J,∃B∈J,∃C∈J,∃D∈J,f8 (B-A) (C-A) (D-A)≠0
def uI (h:K6 J=3):j8 J:=by
 match J,h with
 |p::w,h=>
  unfold K6 at h;dsimp only at h;split at h
  .cases h
  .rename_i b e;split at h
   .cases h
   .rename_i f g;split at h
    .rename_i d;obtain⟨k,x⟩:=u5 e;obtain⟨c,y⟩:=u5 g;obtain⟨z,c,l⟩:=aAp.mp c;rw[aDJ]at d;obtain⟨m,n,o⟩:=d;obtain⟨B,q,r⟩:=aAp.mp k;obtain⟨C,s,t⟩:=aAp.mp c;obtain⟨D,u,v⟩:=aAp.mp n;refine⟨p,by simp,B,q,C,s,D,u,?_⟩;rw[r,t,v];have a:c8 f m≠0:=by simpa using o
     rw[<-l,V2]at a;exact a
    .cases h
def PK (h:K6 J≠3):¬j8 J:=by
 rintro⟨A,k,B,l,C,m,D,o,v⟩;match J,h,k,l,m,o with
 |p::d,h,k,l,m,o=>
  unfold K6 at h;dsimp only at h;have r:∀X∈p::d,X-p∈(p::d).map (· -p):=λX b=>aAp.mpr ⟨X,b,rfl⟩;have c:∀n:V,n≠0->(∀X∈p::d,c8 n (X-p)=0)->False:=λn w s=>by
   have q:∀X∈p::d,c8 n (X-A)=0:=λX b=>by have f:=s X b;have g:=s A k;rw[d8]at*;lia
   exact v (y6 w (q B l) (q C m)<|q D o)
  split at h
  .rename_i f;have z:=N1 f;refine c ⟨1,0,0⟩ (λe=>by have:=kb V.x e;simp at this) λX b=>?_;rw[z _ (r X b)];exact N9 _
  .rename_i a f;obtain⟨N,y⟩:=u5 f;split at h
   .rename_i g;have z:=N1 g;have E:∀X∈p::d,cr a (X-p)=0:=λX b=>z _ (aAp.mpr ⟨_,r X b,rfl⟩);obtain⟨u,H,O⟩:∃u:V,cr a u≠0/\True:=by
     rcases jY y with q|q|q
     .exact⟨⟨0,1,0⟩,λe=>q (by have:=kb V.z e;simpa using this),trivial⟩
     .exact⟨⟨1,0,0⟩,λe=>q (by have:=kb V.z e;simpa using this),trivial⟩
     .exact⟨⟨0,1,0⟩,λe=>q (by have:=kb V.x e;simpa using this),trivial⟩
    refine c (cr a u) H λX b=>?_;rw[V2,jJ (E X b)]
   .rename_i t g;obtain⟨Q,I⟩:=u5 g;split at h
    .exact h rfl
    .rename_i L;refine c t I λX b=>?_;by_cases z:c8 t (X-p)=0
     .exact z
     .exact absurd (aDJ.mpr ⟨X-p,r X b,by simpa using z⟩) L
def RN (h:K6 J<2):∀X∈J,∀Y∈J,∀Z∈J,cr (Y-X) (Z-X)=0:=by
 match J,h with
 |[],_=>intro X b;cases b
 |p::c,h=>
  unfold K6 at h;dsimp only at h;have m:∀X∈p::c,X-p∈(p::c).map (· -p):=λX b=>aAp.mpr ⟨X,b,rfl⟩;intro X b Y n Z q;split at h
  .rename_i g;have z:=N1 g;have e:∀W∈p::c,W=p:=λW l=>by have:=z _ (m W l);have d:=kb V.x this;have f:=kb V.y this;have r:=kb V.z this;simp at d f r;exact ext (by lia) (by lia) (by lia)
   rw[e X b,e Y n,x8];apply ext<;>simp
  .rename_i a g;obtain⟨H,s⟩:=u5 g;split at h
   .rename_i t;have z:=N1 t;have o:∀X∈p::c,cr a (X-p)=0:=λX b=>z _ (aAp.mpr ⟨_,m X b,rfl⟩);have k:∀U∈p::c,∀W∈p::c,cr (U-W) a=0:=λU u W l=>by have d:=o U u;have f:=o W l;have v:=kb V.x d;have w:=kb V.y d;have A:=kb V.z d;have B:=kb V.x f;have C:=kb V.y f;have E:=kb V.z f;simp at v w A B C E;apply ext<;>simp<;>grind
    exact qQ s (k Y n X b) (k Z q X b)
   .split at h<;>lia
def IF (h:2<=K6 J):∃X∈J,∃Y∈J,∃Z∈J,cr (Y-X) (Z-X)≠0:=by
 match J,h with
 |[],h=>exact absurd h (by simp[K6])
 |p::o,h=>
  unfold K6 at h;dsimp only at h;split at h
  .lia
  .rename_i a c;obtain⟨d,q⟩:=u5 c;split at h
   .lia
   .rename_i r e;obtain⟨b,f⟩:=u5 e;obtain⟨s,b,g⟩:=aAp.mp b;obtain⟨B,k,l⟩:=aAp.mp d;obtain⟨C,m,n⟩:=aAp.mp b;exact⟨p,by simp,B,k,C,m,by rw[l,n,g];exact f⟩
def j8.off (h:j8 J)(f:n≠0):∃Z∈J,c8 n Z≠d:=by
 obtain⟨A,g,B,k,C,l,D,m,o⟩:=h;by_cases a:c8 n A=d
 .by_cases b:c8 n B=d
  .by_cases c:c8 n C=d
   .by_cases e:c8 n D=d
    .exact absurd (y6 f (by rw[d8];lia) (by rw[d8];lia) (by rw[d8];lia)) o
    .exact⟨D,m,e⟩
   .exact⟨C,l,c⟩
  .exact⟨B,k,b⟩
 .exact⟨A,g,a⟩
def j8.below (h:j8 J)(b:n≠0)(c:∀X∈J,c8 n X<=d):∃Z∈J,c8 n Z<d:=by obtain⟨Z,a,e⟩:=h.off (d:=d) b;exact⟨Z,a,by have:=c Z a;lia⟩
def kk:V:=⟨0,0,1⟩
def e9 (m:V)(J:List V):V×V:=
 let u:=b7 m (m+kk) J
 let a:=y7 u.1 u.2 J
 if K6 a=2 then(m,m+kk)else(a.getD 0 0,a.getD 1 0)
def GA:ConeM kk (λw=>0<w.x\/(w.x=0/\0<w.y))where
 add:=λ{u v} c d=>by simp;lia
 mul:=λ{k u} a h=>by
  simp;rcases h with h|⟨h,b⟩
  .exact .inl (aAT a h)
  .exact .inr ⟨by rw[h];simp,aAT a b⟩
 irr:=by simp
 inv:=λ{u} k h=>by simpa[kk]using h
def DR (h:c8 n a=0):ConeM a (λw=>c8 n w<0)where
 add:=λ{u v} d e=>by rw[bO];lia
 mul:=λ{k u} b h=>by rw[u3];exact aBj b h
 irr:=by rw[N9];lia
 inv:=λ{u} k c=>by rw[bO,u3,h];simpa using c
def L8 (m k:V):m+k-m=k:=ext (by simp;lia) (by simp;lia) (by simp;lia)
def iK (U:j8 J)(ho:J.Pairwise (λa b=>f7 (b-a)))(hm:m∈J)(hl:∀X∈J,X=m\/f7 (X-m)):
  IsFace J (b7 (e9 m J).1 (e9 m J).2 J).1 (b7 (e9 m J).1 (e9 m J).2 J).2:=by
 have C:ConeM (m+kk-m) (λw=>0<w.x\/(w.x=0/\0<w.y)):=by rw[L8];exact GA
 have ag:m+kk-m≠0:=by rw[L8];intro e;have:=kb V.z e;simp[kk]at this
 have hp:∀P∈J,(0<(P-m).x\/((P-m).x=0/\0<(P-m).y))\/cr (m+kk-m) (P-m)=0:=λP H=>by
  rw[L8];rcases hl P H with e|e
  .right;subst e;rw[x8];apply ext<;>simp
  .unfold f7 at e;rcases e with e|⟨e1,e|⟨e2,e3⟩⟩
   .exact .inl (.inl e)
   .exact .inl (.inr ⟨e1,e⟩)
   .right;apply ext
    .simp[kk];simp at e2;lia
    .simp[kk];simp at e1;lia
    .simp[kk]
 have hx:∃P∈J,0<(P-m).x\/((P-m).x=0/\0<(P-m).y):=by
  by_cases z:∃P∈J,0<(P-m).x\/((P-m).x=0/\0<(P-m).y)
  .exact z
  .exfalso;obtain⟨Z,c,e⟩:=U.off (n:=⟨1,0,0⟩) (d:=m.x) (λe=>by have:=kb V.x e;simp at this);have w:=(hp Z c).resolve_left λq=>z ⟨Z,c,q⟩;rw[L8]at w;have:=kb V.y w;simp[kk]at this;simp[c8]at e
   lia
 obtain⟨l,g,o1,o2,g0,ge,N,gd,f,sB,sO,sP⟩:=X6 C ag hp hx;have h:m∈y7 (b7 m (m+kk) J).1 (b7 m (m+kk) J).2 J:=d6.mpr ⟨hm,gd.symm⟩;have o:l∈y7 (b7 m (m+kk) J).1 (b7 m (m+kk) J).2 J:=d6.mpr ⟨o1,sO⟩;have O:m≠l:=λe=>by subst e;rw[x8]at o2;simp at o2
 by_cases h2:K6 (y7 (b7 m (m+kk) J).1 (b7 m (m+kk) J).2 J)=2
 .have e:e9 m J=(m,m+kk):=by unfold e9;simp only[h2,if_true]
  rw[e];obtain⟨X,I,Y,L,Z,c,hc⟩:=IF (J:=y7 (b7 m (m+kk) J).1 (b7 m (m+kk) J).2 J) (by lia);have I:=d6.mp I;have L:=d6.mp L;have c:=d6.mp c;exact⟨N,f,X,I.1,Y,L.1,Z,c.1,I.2,L.2,c.2,hc⟩
 .
  have h1:K6 (y7 (b7 m (m+kk) J).1 (b7 m (m+kk) J).2 J)≠3:=λz=>by obtain⟨A,hA,B,hB,C,hC,D,hD,hd⟩:=uI z;have hA:=d6.mp hA;have hB:=d6.mp hB;have hC:=d6.mp hC;have hD:=d6.mp hD;exact hd (y6 N.ne (by rw[d8];lia) (by rw[d8];lia) (by rw[d8];lia))
  have ao:K6 (y7 (b7 m (m+kk) J).1 (b7 m (m+kk) J).2 J)<2:=by
   have:K6 (y7 (b7 m (m+kk) J).1 (b7 m (m+kk) J).2 J)<=3:=by
    generalize y7 (b7 m (m+kk) J).1 (b7 m (m+kk) J).2 J=t;unfold K6;split
    .lia
    .dsimp only;split
     .lia
     .split
      .lia
      .split<;>lia
   lia
  have p:=RN ao;have e:e9 m J=((y7 (b7 m (m+kk) J).1 (b7 m (m+kk) J).2 J).getD 0 0,(y7 (b7 m (m+kk) J).1 (b7 m (m+kk) J).2 J).getD 1 0):=by unfold e9;simp only[h2,if_false]
  rw[e];have ord:(y7 (b7 m (m+kk) J).1 (b7 m (m+kk) J).2 J).Pairwise (λa b=>f7 (b-a)):=aFN _ ho;have k:∀X,X∈y7 (b7 m (m+kk) J).1 (b7 m (m+kk) J).2 J↔X∈J/\c8 (b7 m (m+kk) J).1 X=(b7 m (m+kk) J).2:=λX=>d6;generalize y7 (b7 m (m+kk) J).1 (b7 m (m+kk) J).2 J=t at*
  match t,h,o with
  |[],h,_=>cases h
  |[x],h,o=>simp at h o;exact absurd (h.trans o.symm) O
  |x::y::r,h,o=>
   dsimp only[List.getD_cons_zero,List.getD_cons_succ];have s:f7 (y-x):=(aAs.mp ord).1 y (by simp);have ox:=(k x).mp (by simp);have oy:=(k y).mp (by simp);have u:y-x≠0:=λz=>by rw[z]at s;exact z8.irr s
   have na:c8 (b7 m (m+kk) J).1 (y-x)=0:=by rw[d8];lia
   have C2:=DR na;obtain⟨Z,c,hz⟩:=U.below N.ne f;obtain⟨v,g2,p1,p2,p0,pe,pp,pd,E,Q,T,sP2⟩:=X6 C2 u (J:=J) (λP H=>by
    have:=f P H;by_cases q:c8 (b7 m (m+kk) J).1 P<(b7 m (m+kk) J).2
    .exact .inl (by rw[d8];lia)
    .exact .inr (p x (by simp) y (by simp) P ((k P).mpr ⟨H,by lia⟩))) ⟨Z,c,by rw[d8];lia⟩
   exact⟨pp,E,x,ox.1,y,oy.1,v,p1,pd.symm,Q,T,C2.ad1 u p2⟩
def bP {a b:V}(h:a-b=0):a=b:=by have c:=kb V.x h;have d:=kb V.y h;have e:=kb V.z h;simp at c d e;exact ext (by lia) (by lia) (by lia)
def IsFace.aa2 (f:J.Pairwise (λa b=>f7 (b-a)))(h:IsFace J n d):Sheet n (y7 n d J)where
 nz:=h.prim.ne
 pl:=λX g Y k=>by have:=(d6.mp g).2;have:=(d6.mp k).2;rw[d8];lia
 ord:=aFN _ f
 two:=by obtain⟨A,l,B,m,C,o,a,b,c,e⟩:=h.three;refine⟨A,d6.mpr ⟨l,a⟩,B,d6.mpr ⟨m,b⟩,λz=>e ?_⟩;subst z;rw[x8];apply ext<;>simp
def IsFace.ad0 {J:List V}{n:V}{d:Int}(h:IsFace J n d){a b:V}(c:EdgeOf n (λX=>X∈y7 n d J) a b):∃X∈y7 n d J,0<f8 n (b-a) (X-a):=by
 by_cases z:∃X∈y7 n d J,0<f8 n (b-a) (X-a)
 .exact z
 .exfalso;have w:=h.prim.ne;obtain⟨pa,da⟩:=d6.mp c.p;obtain⟨pb,db⟩:=d6.mp c.q;have f:c8 n (b-a)=0:=by rw[d8];lia
  have E:b-a≠0:=λe=>c.ne (bP e).symm;have k:∀X∈J,c8 n X=d->cr (b-a) (X-a)=0:=λX g m=>by have s:=d6.mpr ⟨g,m⟩;have l:=c.left X s;have l':¬0<f8 n (b-a) (X-a):=λq=>z ⟨X,s,q⟩;exact X4 w f (by rw[d8];lia) (by lia)
  obtain⟨A,t,B,H,C,I,u,L,N,e⟩:=h.three;have v:∀X∈J,c8 n X=d->∀Y∈J,c8 n Y=d->cr (X-Y) (b-a)=0:=λX g m Y O Q=>by have o:=k X g m;have r:=k Y O Q;have T:=kb V.x o;have U:=kb V.y o;have a3:=kb V.z o;have b1:=kb V.x r;have b2:=kb V.y r;have b3:=kb V.z r;simp at T U a3 b1 b2 b3;apply ext<;>simp<;>grind
  exact e (qQ E (v B H L A t u)<|v C I N A t u)
def MY (o:j8 J)(c:IsFace J n d)(f:IsFace J m e)(h:EdgeOf n (λX=>X∈y7 n d J) a b)(g:EdgeOf m (λX=>X∈y7 m e J) b a)(k:X∈y7 n d J)(l:0<f8 n (b-a) (X-a)):c8 m X<e:=by
 obtain⟨r,s⟩:=d6.mp k;have B:=f.sup X r;by_cases z:c8 m X=e
 .exfalso;obtain⟨C,t⟩:=d6.mp h.p;obtain⟨pb,u⟩:=d6.mp h.q;obtain⟨_,v⟩:=d6.mp g.q;obtain⟨_,w⟩:=d6.mp g.p;obtain⟨Z,x,y⟩:=o.below c.prim.ne c.sup;have A:cr (b-a) (X-a)≠0:=λq=>by unfold f8 at l;rw[q,N9]at l;lia
  obtain⟨rfl,rfl⟩:=jR c.prim f.prim c.sup f.sup t u s v w z A x y;have:=g.left X k;have E:f8 n (a-b) (X-b)=-f8 n (b-a) (X-a):=by simp[f8,c8];grind
  lia
 .lia
def cO:List V->V
 |[]=>0
 |X::l=>X+cO l
theorem rD (n:V):∀l:List V,c8 n (cO l)=(l.map (c8 n)).sum
 |[]=>N9 n
 |X::l=>by simp only[cO,aAv,aCx];rw[bO,rD n l]
theorem DG {α:Type}(f g:α->Int):∀l:List α,(∀x∈l,f x<=g x)->(l.map f).sum<=(l.map g).sum
 |[],_=>aCs _
 |x::l,h=>by
  simp only[aAv,aCx];have:=h x (by simp);have:=DG f g l (λy a=>h y (aAe _ a))
  lia
theorem FB {α:Type}(f g:α->Int):∀l:List α,(∀x∈l,f x<=g x)->(∃x∈l,f x<g x)->(l.map f).sum<(l.map g).sum
 |[],_,⟨x,b,_⟩=>by cases b
 |x::l,h,⟨y,a,c⟩=>by
  simp only[aAv,aCx];have d:=h x (by simp);have k:=DG f g l (λy a=>h y (aAe _ a));rcases aAd.mp a with e|e
  .subst e;lia
  .have:=FB f g l (λy a=>h y (aAe _ a)) ⟨y,e,c⟩
   lia
theorem bJ {α:Type}(c:Int):∀l:List α,(l.map λ_=>c).sum=(l.length:Int)*c
 |[]=>by simp
 |x::l=>by simp only[aAv,aCx,aAw];rw[bJ c l];push_cast;grind
def C1 (J:List V)(X:V):V:=(J.length:Int)*X-cO J
def T7 (J:List V)(n:V)(d:Int):Int:=(J.length:Int)*d-c8 n (cO J)
def wL (J:List V)(n X:V):c8 n (C1 J X)=(J.length:Int)*c8 n X-c8 n (cO J):=by unfold C1;rw[d8,u3]
def gC (a:j8 J)(b:n≠0)(h:∀X∈J,c8 n X<=d):0<T7 J n d:=by
 unfold T7;rw[rD,<-bJ];have:=FB (c8 n) (λ_=>d) J h (a.below b h)
 lia
def len_pos (a:j8 J):0<(J.length:Int):=by
 obtain⟨A,b,_⟩:=a;have:0<J.length:=aDY b
 lia
def aR (h:c8 n X=d):c8 n (C1 J X)=T7 J n d:=by rw[wL,h];rfl
def rA (h:c8 n X<=d):c8 n (C1 J X)<=T7 J n d:=by
 rw[wL];unfold T7;have:=aAU h (show(0:Int)<=J.length by lia)
 lia
def NQ (a:0<(J.length:Int))(h:c8 n X<d):c8 n (C1 J X)<T7 J n d:=by
 rw[wL];unfold T7;have:=aEI h a
 lia
def UC (J:List V)(a b X:V):f8 (C1 J a) (C1 J b) (C1 J X)=(J.length:Int)*(J.length:Int)*c8 (C1 J a) (cr (b-a) (X-a)):=by unfold C1;generalize(J.length:Int)=N;generalize cO J=s;simp[f8,c8];grind
def yX (h:cr w c=0)(x y:V):c8 w y*c8 c x=c8 w x*c8 c y:=by
 have e:c8 w y*c8 c x-c8 w x*c8 c y=c8 (cr w c) (cr y x):=by simp[c8];grind
 rw[h]at e;have:c8 0 (cr y x)=0:=by simp[c8]
 lia
def GK (c:j8 J)(e:IsFace J n d)(k:c8 n a=d)(r:c8 n b=d)(s:c8 n X=d)(h:0<f8 n (b-a) (X-a)):0<f8 (C1 J a) (C1 J b) (C1 J X):=by
 rw[UC];have f:=len_pos c;refine aAT (aAT f f) ?_;have g:=e.prim.ne;have p:cr n (cr (b-a)<|X-a)=0:=K3 (by rw[d8];lia) (by rw[d8];lia);have q:=yX p n (C1 J a);have l:0<c8 n (C1 J a):=by rw[aR k];exact gC c g e.sup
 have m:0<c8 (cr (b-a)<|X-a) n:=by rw[dR];exact h
 have t:=aAT l m;have o:=y8 g;rw[dR (C1 J a)];by_cases z:0<c8 (cr (b-a)<|X-a) (C1 J a)
 .exact z
 .exfalso;have:c8 n n*c8 (cr (b-a)<|X-a) (C1 J a)<=0:=by have:=aAU (show c8 (cr (b-a)<|X-a) (C1 J a)<=0 by lia) (aAW o);simpa using this
  lia
def TH (c:j8 J)(f:IsFace J n d)(k:IsFace J m e)(g:EdgeOf n (λX=>X∈y7 n d J) a b)(l:EdgeOf m (λX=>X∈y7 m e J) b a)(T:c8 m B*T7 J n d<=c8 n B*T7 J m e):0<=f8 (C1 J a) (C1 J b) B:=by
 obtain⟨X,o,t⟩:=f.ad0 g;have x:=MY c f k g l o t;obtain⟨U,u⟩:=d6.mp o;obtain⟨Y,v⟩:=d6.mp g.p;obtain⟨pb,w⟩:=d6.mp g.q;obtain⟨_,A⟩:=d6.mp l.q;obtain⟨_,C⟩:=d6.mp l.p;have c0:=gC c f.prim.ne f.sup;have c1:=gC c k.prim.ne k.sup;have E:=GK c f v w u t;by_cases z:0<=f8 (C1 J a) (C1 J b) B
 .exact z
 .exfalso;have h:∀y,c8 (T7 J n d*m-T7 J m e*n) y=T7 J n d*c8 m y-T7 J m e*c8 n y:=λy=>by rw[dR,d8,u3,u3,dR y m,dR y n]
  have H:c8 (T7 J n d*m-T7 J m e*n) (C1 J a)=0:=by rw[h,aR v,aR A];grind
  have I:c8 (T7 J n d*m-T7 J m e*n) (C1 J b)=0:=by rw[h,aR w,aR C];grind
  have L:c8 (T7 J n d*m-T7 J m e*n) (C1 J X)<0:=by
   rw[h,aR u];have N:=NQ (len_pos c) x;have:=aEI N c0;have e1:T7 J m e*T7 J n d=T7 J n d*T7 J m e:=aGv _ _
   lia
  have p:=yX (K3 H I) (C1 J X) B;have O:c8 (cr (C1 J a)<|C1 J b) (C1 J X)=f8 (C1 J a) (C1 J b) (C1 J X):=V2 _ _ _;have Q:c8 (cr (C1 J a)<|C1 J b) B=f8 (C1 J a) (C1 J b) B:=V2 _ _ _;rw[O,Q]at p;have r:0<c8 (T7 J n d*m-T7 J m e*n) (C1 J X)*f8 (C1 J a) (C1 J b) B:=Int.mul_pos_of_neg_of_neg L (by lia);rw[<-p]at r;have s:0<c8 (T7 J n d*m-T7 J m e*n) B:=by
   by_cases q:0<c8 (T7 J n d*m-T7 J m e*n) B
   .exact q
   .have:=aAR (show c8 (T7 J n d*m-T7 J m e*n) B<=0 by lia) (aAW E);simp at this;lia
  rw[h]at s;have e4:c8 m B*T7 J n d=T7 J n d*c8 m B:=aGv _ _;have e5:c8 n B*T7 J m e=T7 J m e*c8 n B:=aGv _ _
  lia
def ER {a b c d e f:Int}(g:0<b)(h:0<d)(k:0<f)(l:a*d<=c*b)(m:c*f<=e*d):a*f<=e*b:=by
 have o:=aAR l (aAW k);have p:=aAR m (aAW g);have n:(a*f)*d<=(e*b)*d:=by grind
 exact aEJ n h
theorem GB {α:Type}(p q:α->Int):∀(l:List α),l≠[]->(∀x∈l,0<q x)->∃x∈l,∀y∈l,p y*q x<=p x*q y
 |[],h,_=>absurd rfl h
 |[x],_,_=>⟨x,by simp,λy d=>by simp at d;subst d;exact aCs _⟩
 |x::y::l,_,b=>by
  obtain⟨z,f,h⟩:=GB p q (y::l) (by simp) (λw a=>b w (aAe _ a));by_cases c:p x*q z<=p z*q x
  .refine⟨z,aAe _ f,λw a=>?_⟩;rcases aAd.mp a with e|e
   .subst e;exact c
   .exact h w e
  .refine⟨x,by simp,λw a=>?_⟩;rcases aAd.mp a with e|e
   .subst e;exact aCs _
   .exact ER (b w a) (b z<|aAe _ f) (b x (by simp)) (h w e) (by lia)
theorem pz (h:V->Int):∀(x:V) (l:List V),0<=h x->(∀z,(x::l).getLast?=some z->h z<=0)->l≠[]->∃u v,(u,v)∈t8 (x::l)/\0<=h u/\h v<=0
 |x,[],_,_,b=>absurd rfl b
 |x,y::r,d,a,_=>by
  by_cases c:h y<=0
  .exact⟨x,y,by simp[t8],d,c⟩
  .match r,a with
   |[],a=>exact absurd (a y rfl) c
   |z::r,a=>obtain⟨u,v,m,p⟩:=pz h y (z::r) (by lia) (λw e=>a w (by rw[aBi];exact e)) (by simp);exact⟨u,v,by simp only[t8]at m⊢;exact aAe _ m,p⟩
theorem nG:∀(l:List V) (x z w:V),(x::l).getLast?=some z->(z,w)∈t8 (x::l++[w])
 |[],x,z,w,h=>by simp at h;subst h;simp[t8]
 |y::l,x,z,w,h=>by rw[aBi]at h;have:=nG l y z w h;simp only[aBl,t8]at this⊢;exact aAe _ this
theorem iR:∀(l:List V) (x w:V),∀e∈t8 (x::l),e∈t8 (x::l++[w])
 |[],x,w,e,h=>by simp[t8]at h
 |y::l,x,w,e,h=>by
  simp only[aBl,t8]at h⊢;rcases aAd.mp h with q|q
  .subst q;simp
  .exact aAe _ (iR l y w e q)
def X7 (f:J.Pairwise (λa b=>f7 (b-a)))(c:IsFace J n d):∃r s t l,k7 n (y7 n d J)=r::s::t::l:=by
 have S:=c.aa2 f;obtain⟨r,l,e,_⟩:=S.ab5;match l,e with
 |[],e=>
  have h:(r,r)∈V8 (k7 n<|y7 n d J):=by rw[e];simp[V8]
  exact absurd rfl (S.pair h).ne
 |[s],e=>
  have g:(r,s)∈V8 (k7 n<|y7 n d J):=by rw[e];simp[V8]
  have k:(s,r)∈V8 (k7 n<|y7 n d J):=by rw[e];simp[V8]
  have m:=S.pair g;have o:=S.pair k;obtain⟨X,p,q⟩:=c.ad0 m;have:=o.left X p;have u:f8 n (r-s) (X-s)=-f8 n (s-r) (X-r):=by simp[f8,c8];grind
  lia
 |s::t::l,e=>exact⟨r,s,t,l,e⟩
def sT (T:j8 J)(ho:J.Pairwise (λa b=>f7 (b-a)))(fs:List (V×Int))(ag:fs≠[])(hf:∀f∈fs,IsFace J f.1 f.2)(hc:∀f∈fs,∀a b,EdgeOf f.1 (λX=>X∈y7 f.1 f.2 J) a b->∃g∈fs,EdgeOf g.1 (λX=>X∈y7 g.1 g.2 J) b a)(H:IsFace J n d):(n,d)∈fs:=by
 obtain⟨B,hBd⟩:∃B,B=cO ((y7 n d J).map (C1 J)):=⟨_,rfl⟩;have dB:∀m,c8 m B=((y7 n d J).map λX=>c8 m (C1 J X)).sum:=λm=>by rw[hBd,rD,aBn];rfl
 have cn:=gC T H.prim.ne H.sup;have ub:∀m e,(∀X∈J,c8 m X<=e)->c8 m B<=((y7 n d J).length:Int)*T7 J m e:=λm e hm=>by rw[dB,<-bJ];exact DG _ _ _ λX k=>rA (hm X (d6.mp k).1)
 have eB:c8 n B=((y7 n d J).length:Int)*T7 J n d:=by rw[dB,<-bJ];congr 1;exact aEx λX k=>aR (d6.mp k).2
 obtain⟨⟨m,e⟩,hm,htop⟩:=GB (λf:V×Int=>c8 f.1 B) (λf=>T7 J f.1 f.2) fs ag λf h=>gC T (hf f h).prim.ne (hf f h).sup;have o:=hf _ hm;have U:∀a b,EdgeOf m (λX=>X∈y7 m e J) a b->0<=f8 (C1 J a) (C1 J b) B:=λa b hab=>by obtain⟨g,hg,hg2⟩:=hc _ hm a b hab;exact TH T o (hf g hg) hab hg2 (htop g hg)
 have S:=o.aa2 ho;obtain⟨r,s,t,l,er⟩:=X7 ho o;have nd:=S.aa5;have pr:=λ{P Q}=>S.aa1 (P:=P) (Q:=Q);rw[er]at pr nd;have rm:r∈k7 m (y7 m e J):=by rw[er];simp
 have on:∀X∈r::s::t::l,c8 m X=e:=λX k=>by rw[<-er]at k;exact(d6.mp<|S.aa4 k).2
 obtain⟨z,hz⟩:∃z,(s::t::l).getLast?=some z:=by simp[aEN]
 have c1:(r,s)∈V8 (r::s::t::l):=by rw[Y1];simp[t8]
 have c2:(z,r)∈V8 (r::s::t::l):=by rw[Y1];exact nG _ _ _ _ (by rw[aBi];exact hz)
 have w1:=U _ _ (pr.mp c1);have w2:=U _ _ (pr.mp c2);obtain⟨u,v,huv,hu,hv⟩:=pz (λX=>f8 (C1 J r) (C1 J X) B) s (t::l) w1 (λy hy=>by
  have:y=z:=aAk (hy.symm.trans hz);subst this;have e1:f8 (C1 J r) (C1 J y) B=-f8 (C1 J y) (C1 J r) B:=by simp[f8,c8];grind
  lia) (by simp)
 have c3:(u,v)∈V8 (r::s::t::l):=by rw[Y1];have:=iR (t::l) s r _ huv;simp only[aBl,t8]at this⊢;exact aAe _ this
 have g3:=pr.mp c3;have mu:u∈s::t::l/\v∈s::t::l:=by
  have:=huv;have hh:∀(l:List V) (p q:V),(p,q)∈t8 l->p∈l/\q∈l:=λl=>by
   induction l with
   |nil=>intro p q h;simp[t8]at h
   |cons x l ih=>
    intro p q h;match l,h,ih with
    |[],h,_=>simp[t8]at h
    |y::l,h,ih=>
     simp only[t8]at h;rcases aAd.mp h with c|c
     .cases c;simp
     .have:=ih p q c;exact⟨aAe _ this.1,aAe _ this.2⟩
  exact hh _ _ _ huv
 have nr:=(aAI.mp nd).1;have ru:r≠u:=λq=>by subst q;exact nr mu.1
 have rv:r≠v:=λq=>by subst q;exact nr mu.2
 have st:=S.strict g3 rm ru rv;have du:=on u (aAe _ mu.1);have dv:=on v (aAe _ mu.2);have dr:=on r (by simp);have D0:=GK T o du dv dr st;have w3:=U _ _ g3;have w:=CA B (C1 J r) (C1 J u) (C1 J v);have a1:f8 B (C1 J u) (C1 J v)=f8 (C1 J u) (C1 J v) B:=by simp[f8,c8];grind
 have a2:f8 B (C1 J v) (C1 J r)=-f8 (C1 J r) (C1 J v) B:=by simp[f8,c8];grind
 have a3:f8 B (C1 J r) (C1 J u)=f8 (C1 J r) (C1 J u) B:=by simp[f8,c8];grind
 have a4:f8 (C1 J r) (C1 J u) (C1 J v)=f8 (C1 J u) (C1 J v) (C1 J r):=by simp[f8,c8];grind
 rw[a1,a2,a3,a4]at w;obtain⟨I,hal⟩:∃I,I=f8 (C1 J u) (C1 J v) B:=⟨_,rfl⟩;obtain⟨N,ym⟩:∃N,N=-f8 (C1 J r) (C1 J v) B:=⟨_,rfl⟩;obtain⟨O,hga⟩:∃O,O=f8 (C1 J r) (C1 J u) B:=⟨_,rfl⟩;obtain⟨E,hDe⟩:∃E,E=f8 (C1 J u) (C1 J v) (C1 J r):=⟨_,rfl⟩;rw[<-hal,<-ym,<-hga,<-hDe]at w;have al0:0<=I:=by lia
 have be0:0<=N:=by lia
 have ga0:0<=O:=by lia
 have De0:0<E:=by lia
 have cd:∀f:V,E*c8 f B=O*c8 f (C1 J v)+I*c8 f (C1 J r)+N*c8 f (C1 J u):=λf=>by
  have:=kb (c8 f) w;rw[bO,bO,u3,u3,u3,u3]at this
  lia
 have q1:=cd m;rw[aR dr,aR du,aR dv]at q1;have q2:=cd n;have cm:=gC T o.prim.ne o.sup;have pt:∀X∈r::s::t::l,X∈J:=λX k=>by rw[<-er]at k;exact(d6.mp<|S.aa4 k).1
 have r1:=rA (J:=J) (H.sup r (pt r (by simp)));have r2:=rA (J:=J) (H.sup u<|pt u<|aAe _ mu.1);have r3:=rA (J:=J) (H.sup v<|pt v<|aAe _ mu.2);have s1:=aAU r1 al0;have s2:=aAU r2 be0;have s3:=aAU r3 ga0;obtain⟨L,hL⟩:∃L:Int,L=((y7 n d J).length:Int):=⟨_,rfl⟩;have ub1:=ub m e o.sup;rw[<-hL]at eB ub1;have k1:E*L<=I+N+O:=by
  have:(E*L)*T7 J n d<=(I+N+O)*T7 J n d:=by
   rw[eB]at q2;have e1:E*L*T7 J n d=E*(L*T7 J n d):=aFk _ _ _;have e2:(I+N+O)*T7 J n d=I*T7 J n d+N*T7 J n d+O*T7 J n d:=by grind
   lia
  exact aEJ this cn
 have k2:E*c8 m B=(I+N+O)*T7 J m e:=by rw[q1];grind
 have k3:(E*L)*T7 J m e<=E*c8 m B:=by rw[k2];exact aAR k1 (aAW cm)
 have k4:L*T7 J m e<=c8 m B:=by rw[aFk]at k3;exact Int.le_of_mul_le_mul_left k3 De0
 have all:∀X∈y7 n d J,c8 m X=e:=λX k=>by
  have le:c8 m X<=e:=o.sup X (d6.mp k).1;by_cases z:c8 m X=e
  .exact z
  .exfalso;have:=FB (λX=>c8 m (C1 J X)) (λ_=>T7 J m e) (y7 n d J) (λY hY=>rA (o.sup Y (d6.mp hY).1)) ⟨X,k,NQ (len_pos T) (by lia)⟩;rw[<-dB,bJ,<-hL]at this
   lia
 obtain⟨A,hA,B',hB',C,hC,ea,eb,ec,hcr⟩:=H.three;obtain⟨Z,hZ,hz⟩:=T.below H.prim.ne H.sup;obtain⟨rfl,rfl⟩:=jR H.prim o.prim H.sup o.sup ea eb ec (all A<|d6.mpr ⟨hA,ea⟩) (all B'<|d6.mpr ⟨hB',eb⟩) (all C<|d6.mpr ⟨hC,ec⟩) hcr hZ hz;exact hm
def l7 (J:List V)(f:V×Int):List V:=k7 f.1 (y7 f.1 f.2 J)
structure LInv (J:List V)(p0:V×V)(fs:List (V×Int))(walked:V×V->Prop)(waiting:List (V×V)):Prop where
 face:∀f∈fs,IsFace J f.1 f.2
 nd:fs.Nodup
 wk:∀e,walked e↔∃f∈fs,e∈V8 (l7 J f)
 cl:∀f∈fs,∀a b,(a,b)∈V8 (l7 J f)->(∃g∈fs,(b,a)∈V8 (l7 J g))\/(b,a)∈waiting
 wt:∀p∈waiting,(∃f∈fs,(p.2,p.1)∈V8 (l7 J f))\/(fs=[]/\p=p0)
 ne:fs=[]->waiting=[p0]
structure Good (J:List V)(m:V):Prop where
 solid:j8 J
 ord:J.Pairwise (λa b=>f7 (b-a))
 mem:m∈J
 least:∀X∈J,X=m\/f7 (X-m)
section
variable{J:List V} {m:V} (G:Good J m) {fs:List (V×Int)} {walked:V×V->Prop} {waiting rest:List (V×V)} {p:V×V}
include G
theorem EW:LInv J (e9 m J) [] (λ_=>False) [e9 m J]where
 face:=λf h=>by cases h
 nd:=aDk
 wk:=λe=>⟨λh=>h.elim,λ⟨f,h,_⟩=>by cases h⟩
 cl:=λf h=>by cases h
 wt:=λq h=>.inr ⟨rfl,by simpa using h⟩
 ne:=λ_=>rfl
theorem PN (h:LInv J (e9 m J) fs walked waiting)(k:waiting=rest++[p])(l:walked p):LInv J (e9 m J) fs walked rest:=by
 have g:∀q,q∈waiting↔q=p\/q∈rest:=λq=>by rw[k];simp[or_comm]
 obtain⟨n,c,o⟩:=(h.wk p).mp l;have r:fs≠[]:=λe=>by subst e;cases c
 refine⟨h.face,h.nd,h.wk,λf s a b d=>?_,λq t=>h.wt q ((g q).mpr (.inr t)),λe=>absurd e r⟩;rcases h.cl f s a b d with q|q
 .exact .inl q
 .rcases(g (b,a)).mp q with z|z
  .subst z;exact .inl ⟨n,c,o⟩
  .exact .inr z
theorem AG (h:LInv J (e9 m J) fs walked waiting)(d:p∈waiting)(e:¬walked p):IsFace J (b7 p.1 p.2 J).1 (b7 p.1 p.2 J).2/\b7 p.1 p.2 J∉fs/\(fs≠[]->p∈V8 (l7 J (b7 p.1 p.2 J))):=by
 rcases h.wt p d with⟨f,g,k⟩|⟨l,n⟩
 .have a:=h.face f g;have S:=a.aa2 G.ord;have o:=S.aa1.mp k;obtain⟨b,q⟩:=vI a.prim.ne a.sup (G.solid.below a.prim.ne a.sup) o;have r:=b.aa2 G.ord;have c:p∈V8 (l7 J<|b7 p.1 p.2 J):=r.aa1.mpr q;exact⟨b,λz=>e ((h.wk p).mpr ⟨_,z,c⟩),λ_=>c⟩
 .subst l n;exact⟨iK G.solid G.ord G.mem G.least,by simp,λz=>absurd rfl z⟩
theorem NU (h:LInv J (e9 m J) fs walked waiting)(o:waiting=rest++[p])(s:¬walked p){walked':V×V->Prop}(t:∀e,walked' e↔walked e\/e∈V8 (l7 J (b7 p.1 p.2 J)))(l:∀q,q∈waiting'↔q∈rest\/(q.2,q.1)∈V8 (l7 J (b7 p.1 p.2 J))):
  LInv J (e9 m J) (fs++[b7 p.1 p.2 J]) walked' waiting':=by
 have n:∀q,q∈waiting↔q=p\/q∈rest:=λq=>by rw[o];simp[or_comm]
 obtain⟨u,v,w⟩:=AG G h ((n p).mpr (.inl rfl)) s;refine⟨λf c=>?_,?_,λe=>?_,λf c a b k=>?_,λq x=>?_,λe=>by simp at e⟩
 .rcases aAN.mp c with z|z
  .exact h.face f z
  .have:f=b7 p.1 p.2 J:=by simpa using z
   subst this;exact u
 .rw[aCW];exact⟨h.nd,by simp,λa A b B=>λe=>by
   have:b=b7 p.1 p.2 J:=by simpa using B
   subst e this;exact v A⟩
 .rw[t,h.wk];constructor
  .rintro(⟨f,c,d⟩|d)
   .exact⟨f,aBH _ c,d⟩
   .exact⟨_,aAH _ (by simp),d⟩
  .rintro⟨f,c,d⟩;rcases aAN.mp c with z|z
   .exact .inl ⟨f,z,d⟩
   .have:f=b7 p.1 p.2 J:=by simpa using z
    subst this;exact .inr d
 .rcases aAN.mp c with z|z
  .rcases h.cl f z a b k with⟨g,C,e⟩|q
   .exact .inl ⟨g,aBH _ C,e⟩
   .rcases(n (b,a)).mp q with y|y
    .have E:fs≠[]:=λe=>by subst e;cases z
     exact .inl ⟨b7 p.1 p.2 J,aAH _ (by simp),by rw[y];exact w E⟩
    .exact .inr ((l _).mpr (.inl y))
  .have:f=b7 p.1 p.2 J:=by simpa using z
   subst this;exact .inr ((l _).mpr (.inr k))
 .rcases(l q).mp x with z|z
  .rcases h.wt q ((n q).mpr (.inr z))with⟨f,c,e⟩|⟨H,I⟩
   .exact .inl ⟨f,aBH _ c,e⟩
   .have:=h.ne H;exfalso;rw[o]at this;have r:=kb aGb this;simp at r;subst r;cases z
  .exact .inl ⟨_,aAH _ (by simp),z⟩
theorem QX (h:LInv J (e9 m J) fs walked []):fs≠[]/\∀n d,(n,d)∈fs↔IsFace J n d:=by
 have l:fs≠[]:=λe=>by have:=h.ne e;cases this
 refine⟨l,λn d=>⟨λc=>h.face _ c,λc=>?_⟩⟩;refine sT G.solid G.ord fs l h.face (λf c a b k=>?_) c;have S:=(h.face f c).aa2 G.ord;rcases h.cl f c a b (S.aa1.mpr k)with⟨g,o,e⟩|q
 .exact⟨g,o,((h.face g o).aa2 G.ord).aa1.mp e⟩
 .cases q
end
def mG (h:IsFace J n d):∃A∈J,∃B∈J,∃C∈J,cr (B-A) (C-A)≠0/\d5 A B C=(n,d):=by
 obtain⟨A,t,B,f,C,m,a,b,c,e⟩:=h.three;have o:∀B∈J,∀C∈J,c8 n B=d->c8 n C=d->cr (B-A) (C-A)≠0->0<c8 n (cr (B-A)<|C-A)->d5 A B C=(n,d):=λB f C m b c e r=>by
  obtain⟨g,H,I,L,N⟩:=bU e;have p:cr n (cr (B-A)<|C-A)=0:=K3 (by rw[d8];lia) (by rw[d8];lia);obtain⟨k,l,u,s⟩:=B6 h.prim.ne p;have O:0<l:=by
   have q:=kb (c8 n) s;rw[u3,u3]at q;have:=aAT u r;have Q:=y8 h.prim.ne;by_cases z:0<l
   .exact z
   .have:=aAR (show l<=0 by lia) (aAW Q);simp at this;lia
  rw[I]at s;have T:(k*g)*(d5 A B C).1=l*n:=by rw[<-s];apply ext<;>simp<;>grind
  have v:=nZ L h.prim (aAT u H) O T;refine aFl v ?_;rw[N,v];exact a
 by_cases z:0<c8 n (cr (B-A)<|C-A)
 .exact⟨A,t,B,f,C,m,e,o B f C m b c e z⟩
 .have w:cr (C-A) (B-A)=-cr (B-A) (C-A):=by apply ext<;>simp<;>grind
  have E:cr (C-A) (B-A)≠0:=λq=>e (by rw[w]at q;have U:=kb V.x q;have Y:=kb V.y q;have q3:=kb V.z q;simp only[WP,WS,WU,aW,aG,aX]at U Y q3;exact ext (by simp only[aW];lia) (by simp only[aG];lia) (by simp only[aX];lia))
  have ag:c8 n (cr (B-A)<|C-A)≠0:=λq=>e (X4 h.prim.ne (by rw[d8];lia) (by rw[d8];lia) q);refine⟨A,t,C,m,B,f,E,o C m B f c b E ?_⟩;have:c8 n (cr (C-A)<|B-A)=-c8 n (cr (B-A)<|C-A):=by rw[w];simp[c8];grind
  lia
def cands (J:List V):List (V×Int):=J.flatMap λA=>J.flatMap λB=>J.map λC=>d5 A B C
def JJ (J:List V):(cands J).length=J.length*(J.length*J.length):=by
 unfold cands;have h:∀(l:List V) (f:V->List (V×Int)) (k:Nat),(∀x,(f x).length=k)->(l.flatMap f).length=l.length*k:=λl f k a=>by
  induction l with
  |nil=>simp
  |cons x l b=>rw[List.flatMap_cons,aAE,b,a,aAw,Nat.succ_mul,Nat.add_comm]
 rw[h J _ (J.length*J.length) λA=>h J _ J.length λB=>by simp]
theorem P4 {α:Type}[DecidableEq α]:∀{l m:List α},l.Nodup->(∀x∈l,x∈m)->l.length<=m.length
 |[],_,_,_=>aAY _
 |x::l,m,h,a=>by
  have b:=a x (by simp);have c:=aAI.mp h;have:=P4 (l:=l) (m:=m.erase x) c.2 (λy d=>by
   have ne:y≠x:=λe=>by subst e;exact c.1 d
   exact(aFO ne).mpr (a y<|aAe _ d))
  rw[aFc b]at this;have:0<m.length:=aDY b;simp only[aAw]
  lia
def LD {J:List V}{fs:List (V×Int)}(a:fs.Nodup)(b:∀f∈fs,IsFace J f.1 f.2):fs.length<=J.length*(J.length*J.length):=by rw[<-JJ];refine P4 a λf h=>?_;obtain⟨A,c,B,d,C,g,_,e⟩:=mG (b f h);unfold cands;rw[aBr];refine⟨A,c,?_⟩;rw[aBr];exact⟨B,d,aAp.mpr ⟨C,g,e⟩⟩
section
variable{J:List V} (hs:j8 J) (ho:J.Pairwise (λa b=>f7 (b-a)))
include hs ho
theorem mO (c:IsFace J n d)(h:EdgeOf n (λX=>X∈y7 n d J) a b):
 IsFace J (b7 b a J).1 (b7 b a J).2/\EdgeOf (b7 b a J).1 (λX=>X∈y7 (b7 b a J).1 (b7 b a J).2 J) b a:=vI c.prim.ne c.sup (hs.below c.prim.ne c.sup) h
theorem kF (c:IsFace J n d)(e:EdgeOf n (λX=>X∈y7 n d J) a b)(f:EdgeOf n (λX=>X∈y7 n d J) b a):False:=by
 obtain⟨X,g,h⟩:=c.ad0 e;have:=f.left X g;have k:f8 n (a-b) (X-b)=-f8 n (b-a) (X-a):=by simp[f8,c8];grind
 lia
theorem kA (a:IsFace J n d)(o:X∈l7 J (n,d)):∃f g:V×Int,IsFace J f.1 f.2/\IsFace J g.1 g.2/\(n,d)≠f/\(n,d)≠g/\f≠g/\c8 n X=d/\c8 f.1 X=f.2/\c8 g.1 X=g.2:=by
 have S:=a.aa2 ho;obtain⟨Y,t⟩:=cR S o;obtain⟨W,r⟩:=MC S o;have b:=S.aa1.mp t;have h:=S.aa1.mp r;obtain⟨l,c⟩:=mO hs ho a b;obtain⟨u,k⟩:=mO hs ho a h;have m:W≠Y:=λe=>by subst e;exact kF hs ho a b h
 refine⟨_,_,l,u,λe=>?_,λe=>?_,λe=>?_,(d6.mp b.p).2,(d6.mp c.q).2,(d6.mp k.p).2⟩
 .rw[<-e]at c;exact kF hs ho a b c
 .rw[<-e]at k;exact kF hs ho a h k
 .
  have st:=S.strict b (xN S r).1 (h.ne) m;have v:=(d6.mp h.p).2;have w:=(d6.mp b.p).2;have x:=(d6.mp b.q).2;have y:=(d6.mp c.p).2;have z:=(d6.mp c.q).2;have s:=(d6.mp k.q).2;rw[<-e]at s;have A:cr (Y-X) (W-X)≠0:=λq=>by unfold f8 at st;rw[q,N9]at st;lia
  obtain⟨Z,B,C⟩:=hs.below a.prim.ne a.sup;obtain⟨E,H⟩:=jR a.prim l.prim a.sup l.sup w x v z y s A B C;have:(n,d)=b7 Y X J:=aFl E H;rw[<-this]at c;exact kF hs ho a b c
theorem KB (s:IsFace J n d)(f:IsFace J m e)(h:EdgeOf n (λX=>X∈y7 n d J) a b)(ga:c8 m a=e)(gb:c8 m b=e):(m,e)=(n,d)\/(m,e)=b7 b a J:=by
 obtain⟨pa,da⟩:=d6.mp h.p;obtain⟨pb,db⟩:=d6.mp h.q;obtain⟨I,L⟩:=mO hs ho s h;have hab:c8 n (a-b)=0:=by rw[d8];lia
 have C:=uS (n:=n) s.prim.ne hab;have ag:a-b≠0:=λq=>h.ne (bP q);obtain⟨P,pP,eP,hP⟩:∃P∈J,c8 m P=e/\cr (a-b) (P-b)≠0:=by
  by_cases z:∃P∈J,c8 m P=e/\cr (a-b) (P-b)≠0
  .exact z
  .exfalso;obtain⟨A,hA,B,hB,D,hD,eA,eB,eD,hc⟩:=f.three;have k:∀X∈J,c8 m X=e->cr (a-b) (X-b)=0:=λX hX dX=>by
    by_cases q:cr (a-b) (X-b)=0
    .exact q
    .exact absurd ⟨X,hX,dX,q⟩ z
   have k2:∀X∈J,c8 m X=e->∀Y∈J,c8 m Y=e->cr (X-Y) (a-b)=0:=λX hX dX Y hY dY=>by have t:=k X hX dX;have c:=k Y hY dY;have a1:=kb V.x t;have a2:=kb V.y t;have a3:=kb V.z t;have L:=kb V.x c;have b2:=kb V.y c;have b3:=kb V.z c;simp at a1 a2 a3 L b2 b3;apply ext<;>simp<;>grind
   exact hc (qQ ag (k2 B hB eB A hA eA)<|k2 D hD eD A hA eA)
 have mab:c8 m (a-b)=0:=by rw[d8];lia
 have mP:c8 m (P-b)=0:=by rw[d8];lia
 have par:cr m (cr (a-b)<|P-b)=0:=K3 mab mP;obtain⟨k,l,hk,N⟩:=B6 f.prim.ne par;have dl:∀w,k*f8 (a-b) (P-b) w=l*c8 m w:=λw=>by have:=kb (λv=>c8 v w) N;simp only[G6,V2]at this;exact this
 have l0:l≠0:=λq=>hP (by rw[q,v5]at N;have t:=kb V.x N;have c:=kb V.y N;have q3:=kb V.z N;simp only[MW,MK,MG,aW,aG,aX]at t c q3;exact ext ((aAB.mp t).resolve_left (by lia)) ((aAB.mp c).resolve_left (by lia)) ((aAB.mp q3).resolve_left (by lia)))
 have T:∀Q∈J,c8 m (Q-b)<=0:=λQ hQ=>by rw[d8];have:=f.sup Q hQ;lia
 obtain⟨Z,hZ,hz⟩:=hs.below s.prim.ne s.sup;by_cases hl:0<l
 .
  right;obtain⟨O,hO,eO⟩:∃O∈y7 (b7 b a J).1 (b7 b a J).2 J,0<f8 (b7 b a J).1 (a-b) (O-b):=I.ad0 L;obtain⟨pO,dO⟩:=d6.mp hO;obtain⟨_,e1b⟩:=d6.mp L.p;obtain⟨_,e1a⟩:=d6.mp L.q;have t1:f8 (a-b) (P-b) (O-b)<=0:=by
   have q:=dl (O-b);have:=aAU (T O pO) (aAW hl);rw[aEe]at this;by_cases z:f8 (a-b) (P-b) (O-b)<=0
   .exact z
   .have:=aAT hk (show 0<f8 (a-b) (P-b) (O-b)by lia);lia
  have g:cr (b7 b a J).1 (cr (a-b)<|O-b)=0:=K3 (by rw[d8];lia) (by rw[d8];lia);obtain⟨k',u,U,o⟩:=B6 I.prim.ne g;have r:∀w,k'*f8 (a-b) (O-b) w=u*c8 (b7 b a J).1 w:=λw=>by have:=kb (λv=>c8 v w) o;simp only[G6,V2]at this;exact this
  have jd:0<u:=by
   have q:=kb (c8 (b7 b a J).1) o;rw[u3,u3]at q;have c:0<c8 (b7 b a J).1 (cr (a-b)<|O-b):=eO;have:=aAT U c;have hn:=y8 I.prim.ne;by_cases z:0<u
   .exact z
   .have:=aAR (show u<=0 by lia) (aAW hn);simp at this;lia
  have t2:f8 (a-b) (O-b) (P-b)<=0:=by
   have q:=r (P-b);have h0:c8 (b7 b a J).1 (P-b)<=0:=by rw[d8];have:=I.sup P pP;lia
   have:=aAU h0 (aAW jd);rw[aEe]at this;by_cases z:f8 (a-b) (O-b) (P-b)<=0
   .exact z
   .have:=aAT U (show 0<f8 (a-b) (O-b) (P-b)by lia);lia
  have t3:f8 (a-b) (O-b) (P-b)=0:=by rw[k5]at t1;lia
  have q0:=r (P-b);rw[t3,aEe]at q0;have onP':c8 (b7 b a J).1 P=(b7 b a J).2:=by have:=(aAB.mp q0.symm).resolve_left (by lia);rw[d8]at this;lia
  obtain⟨Z',E,H⟩:=hs.below f.prim.ne f.sup;obtain⟨t,c⟩:=jR f.prim I.prim f.sup I.sup gb ga eP e1b e1a onP' hP E H;exact aFl t c
 .
  left;have km:l<0:=by lia
  obtain⟨O,hO,eO⟩:=s.ad0 h;obtain⟨pO,dO⟩:=d6.mp hO;rw[pL]at eO;have t1:0<=f8 (a-b) (P-b) (O-b):=by
   have q:=dl (O-b);have h2:0<=l*c8 m (O-b):=by
    have:=aBK (show 0<=-l by lia) (show 0<=-c8 m (O-b)by have:=T O pO;lia)
    rwa [aDr]at this
   by_cases z:0<=f8 (a-b) (P-b) (O-b)
   .exact z
   .have:=aBj hk (show f8 (a-b) (P-b) (O-b)<0 by lia);lia
  have g:cr n (cr (b-a)<|O-b)=0:=K3 (by rw[d8];lia) (by rw[d8];lia);obtain⟨k',u,U,o⟩:=B6 s.prim.ne g;have r:∀w,k'*f8 (b-a) (O-b) w=u*c8 n w:=λw=>by have:=kb (λv=>c8 v w) o;simp only[G6,V2]at this;exact this
  have jd:0<u:=by
   have q:=kb (c8 n) o;rw[u3,u3]at q;have c:0<c8 n (cr (b-a)<|O-b):=eO;have:=aAT U c;have hn:=y8 s.prim.ne;by_cases z:0<u
   .exact z
   .have:=aAR (show u<=0 by lia) (aAW hn);simp at this;lia
  have t2:f8 (b-a) (O-b) (P-b)<=0:=by
   have q:=r (P-b);have h0:c8 n (P-b)<=0:=by rw[d8];have:=s.sup P pP;lia
   have:=aAU h0 (aAW jd);rw[aEe]at this;by_cases z:f8 (b-a) (O-b) (P-b)<=0
   .exact z
   .have:=aAT U (show 0<f8 (b-a) (O-b) (P-b)by lia);lia
  have e3:f8 (b-a) (O-b) (P-b)=f8 (a-b) (P-b) (O-b):=by simp[f8,c8];grind
  have t3:f8 (b-a) (O-b) (P-b)=0:=by lia
  have q0:=r (P-b);rw[t3,aEe]at q0;have onn:c8 n P=d:=by have:=(aAB.mp q0.symm).resolve_left (by lia);rw[d8]at this;lia
  obtain⟨Z',E,H⟩:=hs.below f.prim.ne f.sup;obtain⟨t,c⟩:=jR f.prim s.prim f.sup s.sup gb ga eP db da onn hP E H;exact aFl t c
end
def xY (k:j8 J)(l:m∈J)(o:∀X∈J,X=m\/f7 (X-m)):
  dI (b7 m (m+kk) J).1/\m∈y7 (b7 m (m+kk) J).1 (b7 m (m+kk) J).2 J/\∃a∈y7 (b7 m (m+kk) J).1 (b7 m (m+kk) J).2 J,m≠a:=by
 have C:ConeM (m+kk-m) (λw=>0<w.x\/(w.x=0/\0<w.y)):=by rw[L8];exact GA
 have p:m+kk-m≠0:=by rw[L8];intro e;have:=kb V.z e;simp[kk]at this
 have b:∀P∈J,(0<(P-m).x\/((P-m).x=0/\0<(P-m).y))\/cr (m+kk-m) (P-m)=0:=λP r=>by
  rw[L8];rcases o P r with e|e
  .right;subst e;rw[x8];apply ext<;>simp
  .unfold f7 at e;rcases e with e|⟨c,e|⟨s,H⟩⟩
   .exact .inl (.inl e)
   .exact .inl (.inr ⟨c,e⟩)
   .right;apply ext
    .simp[kk];simp at s;lia
    .simp[kk];simp at c;lia
    .simp[kk]
 have t:∃P∈J,0<(P-m).x\/((P-m).x=0/\0<(P-m).y):=by
  by_cases z:∃P∈J,0<(P-m).x\/((P-m).x=0/\0<(P-m).y)
  .exact z
  .exfalso;obtain⟨Z,f,e⟩:=k.off (n:=⟨1,0,0⟩) (d:=m.x) (λe=>by have:=kb V.x e;simp at this);have w:=(b Z f).resolve_left λq=>z ⟨Z,f,q⟩;rw[L8]at w;have:=kb V.y w;simp[kk]at this;simp[c8]at e
   lia
 obtain⟨a,g,u,h,I,L,v,A,B,N,E,O⟩:=X6 C p b t;refine⟨v,d6.mpr ⟨l,A.symm⟩,a,d6.mpr ⟨u,E⟩,λe=>?_⟩;subst e;rw[x8]at h;simp at h
section
variable{J:List V} (hs:j8 J) (ho:J.Pairwise (λa b=>f7 (b-a)))
include hs ho
theorem NI (c:IsFace J f.1 f.2)(d:IsFace J g.1 g.2)(l:(a,b)∈V8 (l7 J f))(m:(a,b)∈V8 (l7 J g)):f=g:=by
 have h:=(c.aa2 ho).aa1.mp l;have e:=(d.aa2 ho).aa1.mp m;obtain⟨n,k⟩:=mO hs ho c h;rcases KB hs ho c d h (d6.mp e.p).2 (d6.mp e.q).2 with q|q
 .exact q.symm
 .exfalso;have:g=b7 b a J:=q;rw[<-this]at k;exact kF hs ho d e k
theorem JL (h:l.Nodup):(V8 l).Nodup:=by
 have:((V8 l).map (·.1)).Nodup:=by
  unfold V8;rw[List.map_fst_zip]
  .exact h
  .simp;lia
 exact(aBF.mp this).imp λ{a b} h e=>h (by rw[e])
def IS (J:List V)(fs:List (V×Int)):List (V×V):=fs.flatMap λf=>V8 (l7 J f)
omit hs ho in
theorem QI (fs:List (V×Int)):(IS J fs).length=(fs.map λf=>(l7 J f).length).sum:=by
 induction fs with
 |nil=>rfl
 |cons f fs a=>show(V8 (l7 J f)++IS J fs).length=_;rw[aAE,a,aAv,aCx];congr 1;unfold V8;simp;lia
theorem qS:∀{fs:List (V×Int)},fs.Nodup->(∀f∈fs,IsFace J f.1 f.2)->(IS J fs).Nodup
 |[],_,_=>aDk
 |f::fs,l,d=>by have h:=aAI.mp l;have k:=d f (.head _);show(V8 (l7 J f)++IS J fs).Nodup;rw[aCW];refine⟨JL hs ho ((k.aa2 ho).aa5),qS h.2 λg c=>d g (.tail _ c),λe m p n q=>?_⟩;subst q;obtain⟨g,c,o⟩:=aBr.mp n;exact h.1 (NI hs ho k (d g<|.tail _ c) (a:=e.1) (b:=e.2) m o▸c)
theorem bA {fs:List (V×Int)}(t:fs.Nodup)(m:∀f∈fs,IsFace J f.1 f.2):(fs.map λf=>(l7 J f).length).sum+J.length<=J.length*J.length:=by
 have d:J.Nodup:=ho.imp λ{a b} h e=>by subst e;exact J2 h
 have u:=qS hs ho t m;have v:(IS J fs++J.map λa=>(a,a)).Nodup:=by rw[aCW];refine⟨u,aBF.mpr (d.imp λ{a b} h e=>h (Prod.mk.inj e).1),λe c A w q=>?_⟩;subst q;obtain⟨g,n,k⟩:=aBr.mp c;obtain⟨a,_,rfl⟩:=aAp.mp w;exact(((m g n).aa2 ho).aa1.mp k).ne rfl
 have x:∀e∈IS J fs++J.map (λa=>(a,a)),e∈J.flatMap λa=>J.map λb=>(a,b):=λe c=>by
  rcases aAN.mp c with c|c
  .obtain⟨g,n,k⟩:=aBr.mp c;have k:(e.1,e.2)∈V8 (l7 J g):=k;have o:=((m g n).aa2 ho).aa1.mp k;exact aBr.mpr ⟨e.1,(d6.mp o.p).1,aAp.mpr ⟨e.2,(d6.mp o.q).1,rfl⟩⟩
  .obtain⟨a,r,rfl⟩:=aAp.mp c;exact aBr.mpr ⟨a,r,aAp.mpr ⟨a,r,rfl⟩⟩
 have s:=P4 v x;have y:(J.flatMap λa=>J.map λb=>(a,b)).length=J.length*J.length:=by
  have:∀l:List V,(l.flatMap λa=>J.map λb=>(a,b)).length=l.length*J.length:=λl=>by
   induction l with
   |nil=>simp
   |cons a l z=>rw[List.flatMap_cons,aAE,z,aAf,aAw,Nat.succ_mul];lia
  exact this J
 rw[aAE,QI,aAf,y]at s;exact s
theorem dM {fs:List (V×Int)}(a:∀f∈fs,IsFace J f.1 f.2):3*fs.length<=(fs.map λf=>(l7 J f).length).sum:=by
 induction fs with
 |nil=>simp
 |cons f fs b=>
  have:=b λg c=>a g (.tail _ c);obtain⟨r,s,t,l,e⟩:=X7 ho (a f<|.head _);have d:(l7 J f).length=l.length+3:=by show(k7 f.1 (y7 f.1 f.2 J)).length=_;rw[e];simp
  rw[aAv,aCx,aAw,d]
  lia
end
theorem kX:∀(J:List V) (c b:V),(F7 a A J c b).2∈J\/(F7 a A J c b).2=b
 |[],c,b=>.inr rfl
 |P::d,c,b=>by
  unfold F7;split
  .rcases kX d (cr a (P-A)) P with h|h
   .exact .inl (.tail _ h)
   .exact .inl (by rw[h];exact .head _)
  .rcases kX d c b with h|h
   .exact .inl (.tail _ h)
   .exact .inr h
section
variable{J c:List V} (hs:j8 J) (ho:J.Pairwise (λa b=>f7 (b-a))) (dg:c.Pairwise (λa b=>f7 (b-a))) (hc:∀X,X∈c↔∃f:V×Int,IsFace J f.1 f.2/\X∈l7 J f)
include hs ho dg hc
theorem XQ (h:X∈c):X∈J:=by obtain⟨f,a,b⟩:=(hc X).mp h;exact(d6.mp<|(a.aa2 ho).aa4 b).1
theorem lR (a:IsFace J n d)(h:X∈l7 J (n,d)):X∈y7 n d c:=by have b:=(d6.mp<|(a.aa2 ho).aa4 h).2;exact d6.mpr ⟨(hc X).mpr ⟨(n,d),a,h⟩,b⟩
theorem cj (h:X∈y7 n d c):X∈y7 n d J:=d6.mpr ⟨XQ hs ho dg hc (d6.mp h).1,(d6.mp h).2⟩
theorem mC (a:IsFace J n d):IsFace c n d:=by
 have S:=a.aa2 ho;obtain⟨r,s,t,l,e⟩:=X7 ho a;have m:r∈k7 n (y7 n d J):=by rw[e];simp
 have o:s∈k7 n (y7 n d J):=by rw[e];simp
 have f:t∈k7 n (y7 n d J):=by rw[e];simp
 have b:=S.aa5;rw[e]at b;simp only[aAI,aAd,not_or]at b;have g:EdgeOf n (λX=>X∈y7 n d J) r s:=S.aa1.mp (by rw[e];simp[V8]);have st:=S.strict g f (λq=>b.1.2.1 q.symm) (λq=>b.2.1.1 q.symm);have k:=λ{X} (h:X∈k7 n (y7 n d J))=>lR hs ho dg hc a (X:=X) h;refine⟨a.prim,λX p=>a.sup X (XQ hs ho dg hc p),r,(d6.mp<|k m).1,s,(d6.mp<|k o).1,t,(d6.mp<|k f).1,(d6.mp<|k m).2,(d6.mp<|k o).2,(d6.mp<|k f).2,λq=>?_⟩;unfold f8 at st;rw[q,N9]at st
 lia
theorem wB (e:IsFace J n d)(h:EdgeOf n (λX=>X∈y7 n d J) a b):EdgeOf n (λX=>X∈y7 n d c) a b:=by have S:=e.aa2 ho;have m:=xN S (S.aa1.mpr h);exact⟨lR hs ho dg hc e m.1,lR hs ho dg hc e m.2,h.ne,λX f=>h.left X (cj hs ho dg hc f),λX f=>h.btw X (cj hs ho dg hc f)⟩
omit hs ho dg hc in
theorem qK {R:V->Prop}{E:List (V×V)}(g:∀a b,R a->(a,b)∈E->R b):∀(x:V) (l:List V),R x->(∀e∈t8 (x::l),e∈E)->∀X∈x::l,R X
 |x,[],f,_,X,d=>by rw[aBm.mp d];exact f
 |x,y::l,f,h,X,d=>by
  have k:=g x y f (h (x,y) (by simp[t8]));rcases aAd.mp d with rfl|d
  .exact f
  .exact qK g y l k (λe m=>h e (by simp only[t8,aAd];exact .inr m)) X d
theorem CC (k:IsFace J n d)(h:X∈k7 n (y7 n d c)):X∈k7 n (y7 n d J):=by
 have S:=k.aa2 ho;have s:=(mC hs ho dg hc k).aa2 dg;obtain⟨m,r,e,v,w⟩:=s.ab5;obtain⟨g,L,t,x,y⟩:=S.ab5;have A:m=g:=by
  have B:g∈y7 n d c:=lR hs ho dg hc k (show g∈k7 n (y7 n d J)by rw[t];simp);rcases w g B with q|q
  .exact q.symm
  .rcases y m (cj hs ho dg hc v)with l|l
   .exact l
   .exact absurd (z8.add q l) (by
     have:(g-m)+(m-g)=0:=by apply ext<;>simp<;>lia
     rw[this];exactλz=>by simp[f7]at z)
 have step:∀a b,a∈k7 n (y7 n d J)->(a,b)∈V8 (k7 n<|y7 n d c)->b∈k7 n (y7 n d J):=λa b C o=>by obtain⟨N,u⟩:=cR S C;have H:=s.aa1.mp o;have I:=wB hs ho dg hc k (S.aa1.mp u);rw[H.next I];exact(xN S u).2
 rw[e]at h;refine qK (E:=V8 (k7 n<|y7 n d c)) (R:=λX=>X∈k7 n (y7 n d J)) step m r (by rw[A,t];simp) (λf p=>?_) X h;rw[e,Y1];exact iR r m m f p
theorem AO (f:IsFace J n d)(h:EdgeOf n (λX=>X∈y7 n d c) a b):EdgeOf n (λX=>X∈y7 n d J) a b:=by have S:=f.aa2 ho;have g:=(mC hs ho dg hc f).aa2 dg;have k:=CC hs ho dg hc f (g.ac3 h);obtain⟨m,l⟩:=cR S k;have e:=S.aa1.mp l;rw[h.next (wB hs ho dg hc f e)];exact e
theorem IE (p:IsFace J n d):j8 c:=by
 have S:=p.aa2 ho;obtain⟨r,s,t,l,e⟩:=X7 ho p;have N:r∈k7 n (y7 n d J):=by rw[e];simp
 have B:t∈k7 n (y7 n d J):=by rw[e];simp
 have x:=S.aa5;rw[e]at x;simp only[aAI,aAd,not_or]at x;have o:EdgeOf n (λX=>X∈y7 n d J) r s:=S.aa1.mp (by rw[e];simp[V8]);have st:=S.strict o B (λq=>x.1.2.1 q.symm) (λq=>x.2.1.1 q.symm);obtain⟨y,O⟩:=mO hs ho p o;generalize(b7 s r J).1=m at*
 generalize(b7 s r J).2=f at*
 have T:=y.aa2 ho;obtain⟨a,b,Q,l2,A⟩:=X7 ho y;have g:=T.aa5;rw[A]at g;simp only[aAI,aAd,not_or]at g;obtain⟨Y,C,y1,y2⟩:∃Y∈k7 m (y7 m f J),Y≠s/\Y≠r:=by
  have q1:a∈k7 m (y7 m f J):=by rw[A];simp
  have q2:b∈k7 m (y7 m f J):=by rw[A];simp
  have q3:Q∈k7 m (y7 m f J):=by rw[A];simp
  by_cases E:a≠s/\a≠r
  .exact⟨a,q1,E⟩
  .by_cases H:b≠s/\b≠r
   .exact⟨b,q2,H⟩
   .refine⟨Q,q3,λz=>?_,λz=>?_⟩
    .subst z;have I:a=r:=by
      by_cases h:a=r
      .exact h
      .exact absurd ⟨g.1.2.1,h⟩ E
     have L:b=r:=by
      by_cases h:b=r
      .exact h
      .exact absurd ⟨g.2.1.1,h⟩ H
     exact g.1.1 (I.trans L.symm)
    .subst z;have I:a=s:=by
      by_cases h:a=s
      .exact h
      .exact absurd ⟨h,g.1.2.1⟩ E
     have L:b=s:=by
      by_cases h:b=s
      .exact h
      .exact absurd ⟨h,g.2.1.1⟩ H
     exact g.1.1 (I.trans L.symm)
 have sY:=T.strict O C y1 y2;have lt:=MY hs y p O o (T.aa4 C) sY;have k:=λ{X} (h:X∈k7 n (y7 n d J))=>lR hs ho dg hc p (X:=X) h;have kY:=lR hs ho dg hc y C;have U:s∈k7 n (y7 n d J):=by rw[e];simp
 have dr:=(d6.mp<|k N).2;have dss:=(d6.mp<|k U).2;have dt:=(d6.mp<|k B).2;refine⟨r,(d6.mp<|k N).1,s,(d6.mp<|k U).1,t,(d6.mp<|k B).1,Y,(d6.mp kY).1,λz=>?_⟩;have p1:c8 n (s-r)=0:=by rw[d8];lia
 have p2:c8 n (t-r)=0:=by rw[d8];lia
 have pY:c8 n (Y-r)<0:=by rw[d8];lia
 have id:f8 (s-r) (t-r) (Y-r)*c8 n n=f8 n (s-r) (t-r)*c8 n (Y-r)+c8 n (s-r)*(c8 n (t-r)*0)+(c8 n (s-r)*f8 n (t-r) (Y-r)+c8 n (t-r)*f8 n (Y-r) (s-r)):=by generalize s-r=u;generalize t-r=v;generalize Y-r=w;have:=LY n n u v w;simp[f8,c8]at this⊢;grind
 rw[z,p1,p2]at id;have:f8 n (s-r) (t-r)*c8 n (Y-r)<0:=aBj st pY
 lia
theorem WE (fs:List (V×Int))(m:fs≠[])(e:∀f,f∈fs↔IsFace J f.1 f.2):IsFace c n d↔IsFace J n d:=by
 refine⟨λh=>?_,mC hs ho dg hc⟩;obtain⟨q,g⟩:=aEX fs m;have r:=IE hs ho dg hc ((e q).mp g);have:=sT r dg fs m (λf k=>mC hs ho dg hc ((e f).mp k)) (λf k a b l=>?_) h
 .exact(e _).mp this
 .have o:=(e f).mp k;obtain⟨p,s⟩:=mO hs ho o (AO hs ho dg hc o l);exact⟨b7 b a J,(e _).mpr p,wB hs ho dg hc p s⟩
theorem MJ (b:X∈c):∃f:V×Int,IsFace c f.1 f.2/\X∈l7 c f:=by obtain⟨⟨n,d⟩,a,h⟩:=(hc X).mp b;have S:=a.aa2 ho;obtain⟨Q,e⟩:=cR S h;exact⟨(n,d),mC hs ho dg hc a,((mC hs ho dg hc a).aa2 dg).ac3 (wB hs ho dg hc a<|S.aa1.mp e)⟩
end
def az {Pos:V->Prop}(C:Cone Pos){n m p v q u:V}(g:n≠0)(t:c8 n p=0)(d:c8 n v=0)(f:c8 n q=0)(w:c8 n u=0)(H:Pos p)(k:Pos v)(l:Pos q)(I:Pos u)(J:0<c8 m p)(mv:c8 m v<0)(o:0<c8 m q)(mu:c8 m u<0)(A:0<=f8 n v p)(B:0<=f8 n q u):False:=by
 have id:∀{a b c:V},c8 n a=0->c8 n b=0->c8 n c=0->f8 n a b*c8 m c+f8 n b c*c8 m a+f8 n c a*c8 m b=0:=λ{a b c} L N O=>by have:=LY m n a b c;rw[y6 g L N O,Int.zero_mul]at this;exact this
 have Q:=id d t f;have T:=id f w d;rcases aDs 0 (f8 n q v)with h|h
 .
  have r:=C.tr l k H (y6 g f d t) h A;have s:f8 n p q=-f8 n q p:=k5 n q p;rw[s]at Q;have U:0<=f8 n v p*c8 m q:=aBK A (aAW o);have Y:0< -f8 n q p*c8 m v:=by have:=aAT r (show 0< -c8 m v by lia);grind
  have a3:0<f8 n q v*c8 m p:=aAT h J
  lia
 .rcases aDs (f8 n q v) 0 with h'|h'
  .have e0:f8 n v q=-f8 n q v:=k5 n q v;have E:0<f8 n v q:=by lia
   have r:=C.tr k l I (y6 g d f w) E B;have s:f8 n u v=-f8 n v u:=k5 n v u;rw[s]at T;have U:f8 n q u*c8 m v<=0:=by have:=aBK B (show 0<=-c8 m v by lia);grind
   have Y:-f8 n v u*c8 m q<0:=by have:=aAT r o;grind
   have a3:f8 n v q*c8 m u<0:=by have:=aAT E (show 0< -c8 m u by lia);grind
   lia
  .have z:f8 n q v=0:=by lia
   have c0:=X4 g f d z;have e:c8 m q*v+(-c8 m v)*q=0:=by have hx:=kb V.x c0;have hy:=kb V.y c0;have hz:=kb V.z c0;simp at hx hy hz;apply ext<;>simp[c8]<;>grind
   have:=C.add (C.mul o k) (C.mul (show 0< -c8 m v by lia) l);rw[e]at this;exact C.irr this
section
variable{n:V} {ts:List V} (S:Sheet n ts)
include S
theorem Sheet.ac7 (h:X∈w6 n ts\/X∈w6 n ts.reverse):X∈k7 n ts:=by
 obtain⟨m,M,c,d,l,o,f,p,q,b,e,g,k,r,s⟩:=S.ends;unfold k7;rw[aAN,b,e,aAF,aAF,aBk,aBk,aCf,aCf];rw[b,e]at h;have a:m≠M:=λz=>by subst z;exact J2 f
 rcases h with h|h
 .rcases aAd.mp h with rfl|h
  .right;have:=aCT k;rcases aAd.mp this with z|z
   .exact absurd z.symm a
   .exact z
  .exact .inl h
 .rcases aAd.mp h with rfl|h
  .left;have:=aCT g;rcases aAd.mp this with z|z
   .exact absurd z a
   .exact z
  .exact .inr h
theorem Sheet.top (c:X∈ts)(h:∀Y∈ts,Y≠X->c8 m Y<c8 m X):X∈k7 n ts:=by
 obtain⟨t,n1,t1⟩:=S.ab0;obtain⟨w,n2,t2⟩:=S.aa9;have x:∀u,f7 u->f7 (-u)->False:=λu y A=>by have:=z8.add y A;have B:u+-u=0:=ext (by simp;lia) (by simp;lia) (by simp;lia);rw[B]at this;exact z8.irr this
 have C:∀u,M9 u->M9 (-u)->False:=λu y A=>by have:=bG.add y A;have B:u+-u=0:=ext (by simp;lia) (by simp;lia) (by simp;lia);rw[B]at this;exact bG.irr this
 rcases pI X (w6 n ts) (λY _=>Q4 X Y) (λq E=>t1 X q E c) (λz H=>t.last X c z H) n1 x with I|⟨a,b,k,Q,T⟩
 .exact S.ac7 (.inl I)
 .rcases pI X (w6 n ts.reverse) (λY _=>by
    rcases Q4 X Y with z|z|z
    .exact .inl z
    .exact .inr (.inr (t4.mpr z))
    .exact .inr (.inl (t4.mpr z))) (λq E=>t2 X q E c) (λz H=>w.last X c z H) n2 C with I|⟨l,s,d,J,je⟩
  .exact S.ac7 (.inr I)
  .exfalso;have U:=L3 S k;have m2:=L3 S d;have L:=t.mem _ U.1;have N:=t.mem _ U.2;have f:=w.mem _ m2.1;have g:=w.mem _ m2.2;have E1:=(S.ae0 k L N).1.left X c;have E2:=(S.ad7 d f g).1.left X c;have o:=t4.mp J;have xo:=t4.mp je;have ne:∀{Y},f7 (X-Y)->Y≠X:=λO z=>by subst z;exact J2 O
   have r:∀{Y},f7 (Y-X)->Y≠X:=λO z=>by subst z;exact J2 O
   have va:=h a L (ne Q);have vb:=h b N (r T);have va':=h l f (r o);have vb':=h s g (ne xo);refine az z8 (n:=n) (m:=m) (p:=X-a) (v:=b-X) (q:=X-s) (u:=l-X) S.nz (S.pl _ c _ L) (S.pl _ N _ c) (S.pl _ c _ g) (S.pl _ f _ c) Q T xo o (by rw[d8];lia) (by rw[d8];lia) (by rw[d8];lia) (by rw[d8];lia) ?_ ?_
   .have e:f8 n (b-a) (X-a)=f8 n (b-X) (X-a):=by simp[f8,c8];grind
    rw[<-e];exact E1
   .have e:f8 n (s-l) (X-l)=f8 n (X-s) (l-X):=by simp[f8,c8];grind
    rw[<-e];exact E2
end
section
variable{J:List V} (hs:j8 J)
include hs
theorem lJ (a:IsFace J n d)(b:IsFace J m e)(g:c8 n X=d)(o:c8 m X=e)(h:cr m n=0):(n,d)=(m,e):=by
 obtain⟨k,l,c,f⟩:=B6 b.prim.ne h;obtain⟨Z,p,u⟩:=hs.below a.prim.ne a.sup;have r:0<l:=by
  have q:=kb (λv=>c8 v (Z-X)) f;rw[G6,G6]at q;have s:c8 n (Z-X)<0:=by rw[d8];lia
  have w:c8 m (Z-X)<=0:=by rw[d8];have:=b.sup Z p;lia
  have x:k*c8 n (Z-X)<0:=aBj c s;by_cases z:0<l
  .exact z
  .exfalso;have:0<=l*c8 m (Z-X):=by
    have:=aBK (show 0<=-l by lia) (show 0<=-c8 m (Z-X)by lia)
    rwa [aDr]at this
   lia
 have t:=nZ a.prim b.prim c r f;subst t;rw[<-g,<-o]
theorem CK {a b c:Int}(p:IsFace J n d)(r:IsFace J m e)(s:IsFace J k f)(hX:c8 n X=d)(lh:c8 m X=e)(t:c8 k X=f)(hc:0<c)(u:0<a)(w:0<b)(h:c*k=a*n+b*m)(x:cr n m≠0):False:=by
 obtain⟨A,y,B,E,C,H,I,L,N,g⟩:=s.three;have l:∀Y∈J,c8 k Y=f->c8 n Y=d/\c8 m Y=e:=λY o hy=>by
  have h1:=p.sup Y o;have h2:=r.sup Y o;have q:=kb (λv=>c8 v (Y-X)) h;have q:c*c8 k (Y-X)=a*c8 n (Y-X)+b*c8 m (Y-X):=by
   have O:c8 (c*k) (Y-X)=c*c8 k (Y-X):=G6 ..;have Q:c8 (a*n+b*m) (Y-X)=a*c8 n (Y-X)+b*c8 m (Y-X):=by simp[c8];grind
   rw[<-O,<-Q];exact q
  have k0:c8 k (Y-X)=0:=by rw[d8];lia
  rw[k0,aEe]at q;have T:c8 n (Y-X)<=0:=by rw[d8];lia
  have U:c8 m (Y-X)<=0:=by rw[d8];lia
  have a0:a*c8 n (Y-X)<=0:=aDR (aAW u) T;have b0:b*c8 m (Y-X)<=0:=aDR (aAW w) U;have z1:a*c8 n (Y-X)=0:=by lia
  have z2:b*c8 m (Y-X)=0:=by lia
  have y1:c8 n (Y-X)=0:=by rcases aAB.mp z1 with z|z;lia;exact z
  have y2:c8 m (Y-X)=0:=by rcases aAB.mp z2 with z|z;lia;exact z
  rw[d8]at y1 y2;exact⟨by lia,by lia⟩
 obtain⟨a1,a2⟩:=l A y I;obtain⟨b1,b2⟩:=l B E L;obtain⟨c1,c2⟩:=l C H N;have p1:cr n (cr (B-A)<|C-A)=0:=K3 (by rw[d8];lia) (by rw[d8];lia);have p2:cr m (cr (B-A)<|C-A)=0:=K3 (by rw[d8];lia) (by rw[d8];lia);exact x (qQ g p1 p2)
theorem tH (A:IsFace J n d)(B:IsFace J m e)(l:IsFace J k f)(E:c8 n X=d)(H:c8 m X=e)(I:c8 k X=f)(n12:(n,d)≠(m,e))(n13:(n,d)≠(k,f))(n23:(m,e)≠(k,f)):f8 n m k≠0:=λz=>by
 have L:cr n m≠0:=λq=>n12 (lJ hs B A H E q).symm;have N:cr n k≠0:=λq=>n13 (lJ hs l A I E q).symm;have O:cr m k≠0:=λq=>n23 (lJ hs l B I H q).symm;have o:∀{u v:V},cr u v≠0->cr v u≠0:=λ{u v} h q=>h (by have Q:=kb V.x q;have g:=kb V.y q;have C:=kb V.z q;simp at Q g C;apply ext<;>simp<;>grind)
 obtain⟨w,ew⟩:∃w,w=cr n m:=⟨_,rfl⟩;have r:=CA w n m k;rw[z]at r;have T:0<f8 w n m:=by
  have:f8 w n m=c8 w w:=by rw[ew];rfl
  rw[this,ew];exact y8 L
 obtain⟨c,ec⟩:∃c,c=f8 w n m:=⟨_,rfl⟩;obtain⟨a,ea⟩:∃a,a=-f8 w m k:=⟨_,rfl⟩;obtain⟨b,eb⟩:∃b,b=-f8 w k n:=⟨_,rfl⟩;have Y:c*k=a*n+b*m:=by rw[ec,ea,eb];have Q:=kb V.x r;have g:=kb V.y r;have C:=kb V.z r;simp at Q g C;apply ext<;>simp<;>lia
 rw[<-ec]at T;have vx:=kb V.x Y;have vy:=kb V.y Y;have vz:=kb V.z Y;simp at vx vy vz;have p:∀{u v:V} {s t:Int},s≠0->s*u=t*v->cr u v=0:=λ{u v s t} ki h=>by
  have Q:=kb V.x h;have g:=kb V.y h;have C:=kb V.z h;simp at Q g C;have go:∀y:Int,s*y=0->y=0:=λy g=>by rcases aAB.mp g with q|q;exact absurd q ki;exact q
  apply ext<;>simp<;>apply go<;>grind
 rcases aDs 0 a with ha|ha
 .rcases aDs 0 b with U|U
  .exact CK hs A B l E H I T ha U Y L
  .rcases aDs b 0 with je|je
   .
    refine CK hs l B A I H E ha T (show 0< -b by lia) (c:=a) (a:=c) (b:=-b) ?_ (o O);apply ext<;>simp<;>lia
   .have b0:b=0:=by lia
    refine N (p (u:=n) (v:=k) (s:=a) (t:=c) (by lia) ?_);rw[b0]at vx vy vz;apply ext<;>simp<;>lia
 .rcases aDs a 0 with ha'|ha'
  .rcases aDs 0 b with U|U
   .refine CK hs l A B I E H U T (show 0< -a by lia) (c:=b) (a:=c) (b:=-a) ?_ (o N);apply ext<;>simp<;>lia
   .
    obtain⟨Z,hZ,C⟩:=hs.below l.prim.ne l.sup;have q:c*c8 k (Z-X)=a*c8 n (Z-X)+b*c8 m (Z-X):=by simp[c8];grind
    have k0:c8 k (Z-X)<0:=by rw[d8];lia
    have n0:c8 n (Z-X)<=0:=by rw[d8];have:=A.sup Z hZ;lia
    have m0:c8 m (Z-X)<=0:=by rw[d8];have:=B.sup Z hZ;lia
    have t1:c*c8 k (Z-X)<0:=aBj T k0;have t2:0<=a*c8 n (Z-X):=by
     have:=aBK (show 0<=-a by lia) (show 0<=-c8 n (Z-X)by lia)
     rwa [aDr]at this
    have t3:0<=b*c8 m (Z-X):=by
     have:=aBK (show 0<=-b by lia) (show 0<=-c8 m (Z-X)by lia)
     rwa [aDr]at this
    lia
  .have a0:a=0:=by lia
   by_cases b0:b=0
   .rw[a0,b0]at vx vy vz;have k0:k=0:=by
     have go:∀y:Int,c*y=0->y=0:=λy g=>by rcases aAB.mp g with q|q;lia;exact q
     apply ext<;>simp<;>apply go<;>lia
    exact l.prim.ne k0
   .refine O (p (u:=m) (v:=k) (s:=b) (t:=c) b0 ?_);rw[a0]at vx vy vz;apply ext<;>simp<;>lia
theorem ES (v:J.Pairwise (λa b=>f7 (b-a)))(w:X∈J)(c:IsFace J n d)(r:IsFace J m e)(s:IsFace J k f)(t:c8 n X=d)(x:c8 m X=e)(z:c8 k X=f)(g:(n,d)≠(m,e))(h:(n,d)≠(k,f))(l:(m,e)≠(k,f)):X∈l7 J (n,d):=by
 have o:=tH hs c r s t x z g h l;refine(c.aa2 v).top (m:=n+m+k) (d6.mpr ⟨w,t⟩) λY A B=>?_;have p:=(d6.mp A).1;have N:=c.sup Y p;have O:=r.sup Y p;have Q:=s.sup Y p;have u:∀Z,c8 (n+m+k) Z=c8 n Z+c8 m Z+c8 k Z:=λZ=>by simp[c8];grind
 rw[u,u];rcases aDs (c8 n Y+c8 m Y+c8 k Y) (c8 n X+c8 m X+c8 k X)with q|q
 .exact q
 .exfalso;have C:c8 n (Y-X)=0:=by rw[d8];lia
  have E:c8 m (Y-X)=0:=by rw[d8];lia
  have H:c8 k (Y-X)=0:=by rw[d8];lia
  refine B (bP ?_);generalize Y-X=y at*
  have I:∀y:Int,f8 n m k*y=0->y=0:=λy L=>by rcases aAB.mp L with q|q;exact absurd q o;exact q
  simp[c8]at C E H;apply ext<;>simp<;>apply I<;>simp[f8,c8]<;>grind
end
def Up (J:List V)(A B C:V):Prop:=(∀X∈J,c8 (cr (B-A)<|C-A) (X-A)<=0)/\∃X∈J,c8 (cr (B-A)<|C-A) (X-A)<0
def Dn (J:List V)(A B C:V):Prop:=(∀X∈J,0<=c8 (cr (B-A)<|C-A) (X-A))/\∃X∈J,0<c8 (cr (B-A)<|C-A) (X-A)
def xI (A B C:V):cr (C-A) (B-A)=-cr (B-A) (C-A):=by apply ext<;>simp<;>grind
def GV {J:List V}{A B C:V}:Dn J A B C↔Up J A C B:=by
 have e:∀X:V,c8 (cr (C-A)<|B-A) X=-c8 (cr (B-A)<|C-A) X:=λX=>by rw[xI];simp[c8];grind
 constructor
 .rintro⟨h,X,a,l⟩;exact⟨λY b=>by have:=h Y b;rw[e];lia,X,a,by rw[e];lia⟩
 .rintro⟨h,X,a,l⟩;exact⟨λY b=>by have:=h Y b;rw[e]at this;lia,X,a,by rw[e]at l;lia⟩
def oC {J:List V}{A B C:V}(c:A∈J)(d:B∈J)(e:C∈J)(h:Up J A B C):IsFace J (d5 A B C).1 (d5 A B C).2:=by
 obtain⟨f,X,p,a⟩:=h;have ne:cr (B-A) (C-A)≠0:=λz=>by rw[z]at a;simp[c8]at a
 obtain⟨g,k,l,m,n⟩:=bU ne;have b:∀Y:V,c8 (cr (B-A)<|C-A) (Y-A)=g*(c8 (d5 A B C).1 Y-(d5 A B C).2):=λY=>by rw[n,l,G6,d8]
 have zero:∀Y:V,c8 (cr (B-A)<|C-A) (Y-A)=0->c8 (d5 A B C).1 Y=(d5 A B C).2:=λY h=>by rw[b]at h;rcases aAB.mp h with h|h<;>lia
 refine⟨m,λY o=>?_,A,c,B,d,C,e,zero A ?_,zero B ?_,zero C ?_,ne⟩
 .have:=f Y o;rw[b]at this;by_cases z:c8 (d5 A B C).1 Y<=(d5 A B C).2
  .exact z
  .have:=aAT k (show 0<c8 (d5 A B C).1 Y-(d5 A B C).2 by lia);lia
 .simp[c8]
 .simp[c8];grind
 .simp[c8];grind
def GL {J:List V}{n:V}{d:Int}(S:j8 J)(h:IsFace J n d){A B C:V}(hA:A∈J)(a:c8 n A=d)(b:c8 n B=d)(c:c8 n C=d)(m:0<c8 n (cr (B-A) (C-A))):Up J A B C/\d5 A B C=(n,d):=by
 have e:cr (B-A) (C-A)≠0:=λz=>by rw[z]at m;simp[c8]at m
 obtain⟨g,o,t,w,x⟩:=bU e;have p:cr n (cr (B-A)<|C-A)=0:=K3 (by rw[d8];lia) (by rw[d8];lia);obtain⟨k,l,u,r⟩:=B6 h.prim.ne p;have y:0<l:=by
  have q:=kb (c8 n) r;rw[u3,u3]at q;have:=aAT u m;have E:=y8 h.prim.ne;by_cases z:0<l
  .exact z
  .have:=aAR (show l<=0 by lia) (aAW E);simp at this;lia
 rw[t]at r;have H:(k*g)*(d5 A B C).1=l*n:=by rw[<-r];apply ext<;>simp<;>grind
 have s:=nZ w h.prim (aAT u o) y H;have I:(d5 A B C).2=d:=by rw[x,s];exact a
 have v:∀Y:V,c8 (cr (B-A)<|C-A) (Y-A)=g*(c8 n Y-d):=λY=>by rw[<-a,t,s,G6,d8]
 refine⟨⟨λX f=>?_,?_⟩,aFl s I⟩
 .rw[v];have:=aBK (aAW o) (show 0<=d-c8 n X by have:=h.sup X f;lia);have L:g*(d-c8 n X)=-(g*(c8 n X-d)):=by grind
  lia
 .by_cases q:∃X∈J,c8 n X<d
  .obtain⟨X,f,l⟩:=q;refine⟨X,f,?_⟩;rw[v];have:=aAT o (show 0<d-c8 n X by lia);have L:g*(d-c8 n X)=-(g*(c8 n X-d)):=by grind
   lia
  .exfalso;have all:∀X∈J,c8 n X=d:=λX f=>by
    have:=h.sup X f;by_cases l:c8 n X<d
    .exact absurd ⟨X,f,l⟩ q
    .lia
   obtain⟨P,N,Q,O,R,U,T,hT,dz⟩:=S;have z:∀X∈J,c8 n (X-P)=0:=λX f=>by rw[d8,all X f,all P N];lia
   exact dz (y6 h.prim.ne (z Q O) (z R U)<|z T hT)
def DH {J:List V}{n:V}{d:Int}(S:j8 J)(h:IsFace J n d){A B C:V}(f:A∈J)(a:c8 n A=d)(b:c8 n B=d)(c:c8 n C=d)(e:cr (B-A) (C-A)≠0):(Up J A B C/\d5 A B C=(n,d))\/(Dn J A B C/\d5 A C B=(n,d)):=by
 by_cases z:0<c8 n (cr (B-A)<|C-A)
 .exact .inl (GL S h f a b c z)
 .have g:c8 n (cr (B-A)<|C-A)≠0:=λq=>e (X4 h.prim.ne (by rw[d8];lia) (by rw[d8];lia) q);have t:c8 n (cr (C-A)<|B-A)=-c8 n (cr (B-A)<|C-A):=by rw[xI];simp[c8];grind
  have:=GL S h f a c b (by lia);exact .inr ⟨GV.mpr this.1,this.2⟩
def uj (J:List V)(A B C:V):Prop:=∃i j k:Nat,i<j/\j<k/\J[i]?=some A/\J[j]?=some B/\J[k]?=some C
def UE {J:List V}{A B C:V}(E:A∈J)(H:B∈J)(I:C∈J)(e:cr (B-A) (C-A)≠0):∃r s t,uj J r s t/\cr (s-r) (t-r)≠0/\∀p:V->Prop,p A->p B->p C->p r/\p s/\p t:=by
 obtain⟨i,g⟩:=aBU.mp E;obtain⟨j,f⟩:=aBU.mp H;obtain⟨k,d⟩:=aBU.mp I;have l:∀{v w:V},v≠0->(w=v\/w=-v)->w≠0:=λ{v w} u h z=>by
  rcases h with h|h
  .exact u (h▸z)
  .rw[h]at z;have L:=kb V.x z;have N:=kb V.y z;have O:=kb V.z z;simp only[WP,WS,WU,aW,aG,aX]at L N O;exact u (ext (by simp only[aW];lia) (by simp only[aG];lia) (by simp only[aX];lia))
 have Q:i≠j:=λq=>by
  subst q;rw[g]at f;injection f with f;subst f
  exact e (by apply ext<;>simp)
 have T:i≠k:=λq=>by
  subst q;rw[g]at d;injection d with d;subst d
  exact e (by apply ext<;>simp)
 have U:j≠k:=λq=>by
  subst q;rw[f]at d;injection d with d;subst d
  exact e (by apply ext<;>simp<;>grind)
 rcases aEQ Q with m|m<;>rcases aEQ T with n|n<;>rcases aEQ U with o|o
 .exact⟨A,B,C,⟨i,j,k,m,o,g,f,d⟩,e,λp a b c=>⟨a,b,c⟩⟩
 .exact⟨A,C,B,⟨i,k,j,n,o,g,d,f⟩,l e (.inr (by apply ext<;>simp<;>grind)),λp a b c=>⟨a,c,b⟩⟩
 .omega
 .exact⟨C,A,B,⟨k,i,j,n,m,d,g,f⟩,l e (.inl (by apply ext<;>simp<;>grind)),λp a b c=>⟨c,a,b⟩⟩
 .exact⟨B,A,C,⟨j,i,k,m,n,f,g,d⟩,l e (.inr (by apply ext<;>simp<;>grind)),λp a b c=>⟨b,a,c⟩⟩
 .omega
 .exact⟨B,C,A,⟨j,k,i,o,n,f,d,g⟩,l e (.inl (by apply ext<;>simp<;>grind)),λp a b c=>⟨b,c,a⟩⟩
 .exact⟨C,B,A,⟨k,j,i,o,m,d,f,g⟩,l e (.inr (by apply ext<;>simp<;>grind)),λp a b c=>⟨c,b,a⟩⟩
def JA {J:List V}(S:j8 J){n:V}{d:Int}:IsFace J n d↔∃A B C,uj J A B C/\((Up J A B C/\d5 A B C=(n,d))\/(Dn J A B C/\d5 A C B=(n,d))):=by
 constructor
 .intro h;obtain⟨A,m,B,o,C,p,a,b,c,e⟩:=h.three;obtain⟨q,r,s,t,u,v⟩:=UE m o p e;obtain⟨w,x,y⟩:=v (λX=>c8 n X=d) a b c;obtain⟨i,j,k,_,_,f,g,l⟩:=id t;exact⟨q,r,s,t,DH S h (aAn f) w x y u⟩
 .rintro⟨A,B,C,⟨i,j,k,_,_,f,g,l⟩,h|h⟩
  .have:=oC (aAn f) (aAn g) (aAn l) h.1;rw[h.2]at this;exact this
  .have:=oC (aAn f) (aAn l) (aAn g) (GV.mp h.1);rw[h.2]at this;exact this
abbrev T3:=V×V×V
def TW (r:T3)(v:V):V:=⟨c8 r.1 v,c8 r.2.1 v,c8 r.2.2 v⟩
def tr (r:T3):T3:=(⟨r.1.x,r.2.1.x,r.2.2.x⟩,⟨r.1.y,r.2.1.y,r.2.2.y⟩,⟨r.1.z,r.2.1.z,r.2.2.z⟩)
def xz (f:V->V)(r:T3):T3:=(f r.1,f r.2.1,f r.2.2)
def xP (r:T3):Int:=c8 r.1 (cr r.2.1 r.2.2)
def a2j:T3:=(⟨1,0,0⟩,⟨0,1,0⟩,⟨0,0,1⟩)
def a2y (r:T3):tr (tr r)=r:=rfl
def WA (r c:T3):xP (xz (TW r) c)=xP r*xP c:=by obtain⟨⟨a,b,t⟩,⟨d,e,f⟩,⟨g,h,i⟩⟩:=r;obtain⟨⟨j,k,l⟩,⟨m,n,o⟩,⟨p,q,s⟩⟩:=c;simp[xP,xz,TW,c8];grind
def TC (r:T3)(u v:V):TW r (u-v)=TW r u-TW r v:=by apply ext<;>simp[TW,c8]<;>grind
abbrev Mv:=T3×V
def cW (m:Mv)(P:V):V:=TW m.1 P+m.2
def XX:Mv:=(a2j,0)
def WX (r:T3):Prop:=xP r=1\/xP r=-1
def qR (m:Mv)(P Q:V):cW m P-cW m Q=TW m.1 (P-Q):=by rw[TC];apply ext<;>simp[cW]<;>lia
def OO (m:Mv)(A B C D:V):f8 (cW m B-cW m A) (cW m C-cW m A) (cW m D-cW m A)=xP m.1*f8 (B-A) (C-A) (D-A):=by rw[qR,qR,qR];exact WA m.1 (B-A,C-A,D-A)
section
variable{J qts:List V} {m:Mv} {n:V} {d:Int}
end
section
end
section
variable{J qts:List V} {n:V} {d:Int}
end
structure Sl where
 a:Int
 b:Int
 c:Int
 w:V
 t:Bool
def Sl.put (s:Sl)(P:V):V:=
 let x:=P.x+s.a*P.y
 let y:=P.y+s.b*P.z
 let z:=P.z+s.c*x
 if s.t then⟨y+s.w.x,x+s.w.y,z+s.w.z⟩else⟨x+s.w.x,y+s.w.y,z+s.w.z⟩
def Sl.mv (s:Sl):Mv:=
 let d:V:=⟨1,s.a,0⟩
 let e:V:=⟨0,1,s.b⟩
 let f:V:=⟨s.c,s.c*s.a,1⟩
 (if s.t then(e,d,f)else(d,e,f),s.w)
def Sl.ae3 (s:Sl)(P:V):s.put P=cW s.mv P:=by obtain⟨a,b,c,w,t⟩:=s;cases t<;>apply ext<;>simp[Sl.put,Sl.mv,cW,TW,c8]<;>grind
def Sl.unit (s:Sl):WX s.mv.1:=by
 obtain⟨a,b,c,w,t⟩:=s;cases t
 .left;simp[Sl.mv,xP,c8,cr];try grind
 .right;simp[Sl.mv,xP,c8,cr];try grind
def NH {m:Mv}(h:WX m.1){J a:List V}(b:∀X∈J,cW m X∈a)(S:j8 J):j8 a:=by
 obtain⟨A,c,B,d,C,f,D,g,e⟩:=S;refine⟨_,b A c,_,b B d,_,b C f,_,b D g,?_⟩;rw[OO];intro z;rcases aAB.mp z with z|z
 .rcases h with h|h<;>lia
 .exact e z
def yN (P:V){J:List V}(h:P∈J):j8 (J++[⟨P.x+1,P.y,P.z⟩,⟨P.x,P.y+1,P.z⟩,⟨P.x,P.y,P.z+1⟩]):=by
 refine⟨P,by simp[h],⟨P.x+1,P.y,P.z⟩,by simp,⟨P.x,P.y+1,P.z⟩,by simp,⟨P.x,P.y,P.z+1⟩,by simp,?_⟩;have:f8 ((⟨P.x+1,P.y,P.z⟩:V)-P) (⟨P.x,P.y+1,P.z⟩-P) (⟨P.x,P.y,P.z+1⟩-P)=1:=by simp[f8,c8,cr];try grind
 rw[this];decide
def pN {P:V}{J:List V}(h:P∈J):j8 J↔∃u∈J,∃v∈J,cr (u-P) (v-P)≠0/\∃w∈J,c8 (cr (u-P) (v-P)) (w-P)≠0:=by
 have f:∀u v w:V,f8 w u v=c8 (cr u v) w:=λu v w=>by simp[f8,c8,cr];grind
 have g:∀u v w:V,f8 w u v=f8 u v w:=λu v w=>by simp[f8,c8,cr];grind
 constructor
 .rintro⟨A,a,B,b,C,c,D,d,e⟩;have id:f8 (B-A) (C-A) (D-A)=f8 (B-P) (C-P) (D-P)-f8 (A-P) (C-P) (D-P)+f8 (A-P) (B-P) (D-P)-f8 (A-P) (B-P) (C-P):=by simp[f8,c8,cr];grind
  have mk:∀{X Y Z:V},X∈J->Y∈J->Z∈J->f8 (X-P) (Y-P) (Z-P)≠0->∃u∈J,∃v∈J,cr (u-P) (v-P)≠0/\∃w∈J,c8 (cr (u-P)<|v-P) (w-P)≠0:=λ{X Y Z} k l m q=>by rw[<-g,f]at q;exact⟨X,k,Y,l,λz=>q (by rw[z];simp[c8]),Z,m,q⟩
  by_cases n:f8 (B-P) (C-P) (D-P)=0
  .by_cases o:f8 (A-P) (C-P) (D-P)=0
   .by_cases p:f8 (A-P) (B-P) (D-P)=0
    .exact mk a b c (by lia)
    .exact mk a b d p
   .exact mk a c d o
  .exact mk b c d n
 .rintro⟨u,r,v,s,_,w,t,q⟩;exact⟨P,h,u,r,v,s,w,t,by rw[<-g,f];exact q⟩
def sF {n m k y:V}(a:f8 n m k≠0)(c:c8 n y=0)(d:c8 m y=0)(g:c8 k y=0):y=0:=by
 have h:∀t:Int,f8 n m k*t=0->t=0:=λt l=>by
  rcases aAB.mp l with q|q
  .exact absurd q a
  .exact q
 have e:∀f:V->Int,(f=(·.x)\/f=(·.y)\/f=(·.z))->f8 n m k*f y=c8 n y*f (cr m k)+c8 m y*f (cr k n)+c8 k y*f (cr n m):=λf b=>by rcases b with rfl|rfl|rfl<;>simp[f8,c8,cr]<;>grind
 have z:∀f:V->Int,(f=(·.x)\/f=(·.y)\/f=(·.z))->f y=0:=λf b=>h _ (by rw[e f b,c,d,g];simp);exact ext (z _<|.inl rfl) (z _<|.inr (.inl rfl)) (z _<|.inr (.inr rfl))
section
variable{J:List V} (hs:j8 J) (ho:J.Pairwise (λa b=>f7 (b-a)))
include hs ho
end
section
variable{J:List V} (hs:j8 J) (ho:J.Pairwise (λa b=>f7 (b-a)))
include hs ho
theorem WC {n m k X Y:V}{d e f:Int}(g:IsFace J n d)(h:IsFace J m e)(l:IsFace J k f)(u:c8 n X=d)(v:c8 m X=e)(w:c8 k X=f)(o:(n,d)≠(m,e))(p:(n,d)≠(k,f))(q:(m,e)≠(k,f))(r:Y∈J)(ne:Y≠X):c8 n Y<d\/c8 m Y<e\/c8 k Y<f:=by
 have t:=tH hs g h l u v w o p q;have a:=g.sup Y r;have b:=h.sup Y r;have c:=l.sup Y r;by_cases z:c8 n Y<d\/c8 m Y<e\/c8 k Y<f
 .exact z
 .have s:∀{n:V} {d:Int},c8 n X=d->c8 n Y=d->c8 n (Y-X)=0:=λ{n d} g h=>by
   have:c8 n (Y-X)=c8 n Y-c8 n X:=by simp[c8];grind
   lia
  have:=sF t (s u (by lia)) (s v (by lia)) (s w (by lia));exact absurd (by have g:=kb V.x this;have h:=kb V.y this;have l:=kb V.z this;simp at g h l;exact ext (by lia) (by lia) (by lia)) ne
end
end G
namespace ST
open PySem PySem.SetTable
def KC (Y:Array Nat):Prop:=∀(i k:Nat) (a:i<Y.size) (b:k<Y.size),i<k->Y[i]<Y[k]
theorem xD (Y:Array Nat)(j:Nat)(c:KC Y):∀(a lo b:Nat),lo<=b->b<=Y.size->b-lo<=a->(∀i (h:i<Y.size),i<lo->Y[i]<j)->(∀i (h:i<Y.size),b<=i->j<=Y[i])->
  below.go Y j a lo b<=Y.size/\(∀i (h:i<Y.size),i<below.go Y j a lo b->Y[i]<j)/\(∀i (h:i<Y.size),below.go Y j a lo b<=i->j<=Y[i])
 |0,lo,b,n,d,o,f,g=>by
  have:lo=b:=by lia
  subst this;unfold below.go;exact⟨d,f,g⟩
 |a+1,lo,b,n,d,o,f,g=>by
  unfold below.go;by_cases m:lo<b
  .rw[jk m];have l:(lo+b)/2<Y.size:=by lia
   have e:Y.getD ((lo+b)/2) j=Y[(lo+b)/2]:=by simp[aFd,l]
   dsimp only;rw[e];by_cases k:Y[(lo+b)/2]<j
   .rw[jk k];refine xD Y j c a _ _ (by lia) d (by lia) (λi h p=>?_) g;by_cases q:i=(lo+b)/2
    .subst q;exact k
    .exact aGw (c i _ h l (by lia)) k
   .rw[ka k];refine xD Y j c a _ _ (by lia) (by lia) (by lia) f (λi h p=>?_);by_cases q:i=(lo+b)/2
    .subst q;lia
    .have:=c _ i l h (by lia);lia
  .rw[ka m];have:lo=b:=by lia
   subst this;exact⟨d,f,g⟩
def cV (a:KC Y)(j:Nat):below Y j<=Y.size/\(∀i (h:i<Y.size),i<below Y j->Y[i]<j)/\(∀i (h:i<Y.size),below Y j<=i->j<=Y[i]):=
 xD Y j a Y.size 0 Y.size (aAY _) (aAj _) (by lia) (λi h b=>by lia) (λi h b=>by lia)
def NY (a:KC Y)(h:Y[i]?=some j):below Y j=i:=by
 obtain⟨b,e⟩:=aCi.mp h;obtain⟨g,d,f⟩:=cV a j;rcases Nat.lt_trichotomy (below Y j) i with q|q|q
 .have c:below Y j<Y.size:=by lia
  have k:=f _ c (aAj _);have l:=a _ _ c b q
  lia
 .exact q
 .have:=d i b q;lia
structure Tab (t:SetTable):Prop where
 asc:KC t.place
 le:∀j∈t.place.toList,j<=t.mask
 nod:t.dummies=#[]
def L7 (T:Tab t)(h:t.place[i]?=some j):t.slot j=.live i:=by unfold slot;rw[NY T.asc h];dsimp only;rw[h];simp
def BP (T:Tab t)(h:j∉t.place.toList):t.slot j=.empty:=by
 unfold slot;have a:¬(t.place[below t.place j]?==some j)=true:=λz=>h (by have:=beq_iff_eq.mp z;obtain⟨b,e⟩:=aCi.mp this;rw[<-e];simp)
 dsimp only;rw[ka a,T.nod];rw[ka (by unfold has;simp)]
def EI (T:Tab t)(j:Nat):(t.slot j=.empty/\j∉t.place.toList)\/∃i,t.slot j=.live i/\t.place[i]?=some j:=by
 by_cases h:j∈t.place.toList
 .obtain⟨i,a,e⟩:=aBc h;have:t.place[i]?=some j:=by rw[<-aAA,aAh a,e]
  exact .inr ⟨i,L7 T this,this⟩
 .exact .inl ⟨BP T h,h⟩
def SC (mask:Nat)(p:Probe):Probe:=if p.more>0 then{p with j:=p.j+1,more:=p.more-1}else{p with j:=(leap mask p.i p.perturb).1,more:=runEnd mask (leap mask p.i p.perturb).1-(leap mask p.i p.perturb).1,i:=(leap mask p.i p.perturb).1,perturb:=(leap mask p.i p.perturb).2}
def pD (t:fh)(p:Probe):t.advance p=SC t.mask p:=rfl
def start (mask:Nat)(h:Int):Probe:={j:=bits h%(mask+1),more:=runEnd mask (bits h%(mask+1))-bits h%(mask+1),i:=bits h%(mask+1),perturb:=bits h,dummy:=none}
def n8 (mask:Nat)(h:Int):Nat->Probe
 |0=>start mask h
 |n+1=>SC mask (n8 mask h n)
theorem qJ (mask:Nat)(h:Int):∀n,(n8 mask h n).dummy=none
 |0=>rfl
 |n+1=>by have:=qJ mask h n;show(SC mask _).dummy=none;unfold SC;split<;>exact this
def D4 (mask:Nat)(h:Int):Nat->Nat×Nat
 |0=>(bits h%(mask+1),bits h)
 |k+1=>leap mask (D4 mask h k).1 (D4 mask h k).2
def len (mask i:Nat):Nat:=runEnd mask i-i
def ZT (mask i:Nat):len mask i<=9:=by unfold len runEnd;split<;>lia
def off (mask:Nat)(h:Int):Nat->Nat
 |0=>0
 |k+1=>off mask h k+len mask (D4 mask h k).1+1
theorem QZ (mask:Nat)(h:Int):∀k,off mask h k<=10*k
 |0=>aAj _
 |k+1=>by have:=QZ mask h k;have:=ZT mask (D4 mask h k).1;show off mask h k+_+1<=_;lia
theorem X8 (mask:Nat)(h:Int):∀k r,r<=len mask (D4 mask h k).1->
  n8 mask h (off mask h k+r)={j:=(D4 mask h k).1+r,more:=len mask (D4 mask h k).1-r,i:=(D4 mask h k).1,perturb:=(D4 mask h k).2,dummy:=none}
 |0,0,_=>rfl
 |0,r+1,b=>by
  have a:=X8 mask h 0 r (by lia);have e:off mask h 0+(r+1)=(off mask h 0+r)+1:=by lia
  rw[e,n8,a];unfold SC;rw[jk (show len mask (D4 mask h 0).1-r>0 by lia)];simp
  lia
 |k+1,0,_=>by have a:=X8 mask h k (len mask (D4 mask h k).1) (aAj _);have e:off mask h (k+1)+0=(off mask h k+len mask (D4 mask h k).1)+1:=rfl;rw[e,n8,a];unfold SC;rw[ka (by simp)];simp[D4,len]
 |k+1,r+1,b=>by
  have a:=X8 mask h (k+1) r (by lia);have e:off mask h (k+1)+(r+1)=(off mask h (k+1)+r)+1:=by lia
  rw[e,n8,a];unfold SC;rw[jk (show len mask (D4 mask h<|k+1).1-r>0 by lia)];simp
  lia
def OT (mask:Nat)(h:Int)(k:Nat):(n8 mask h (off mask h k)).j=(D4 mask h k).1:=by have:=X8 mask h k 0 (aAY _);rw[Nat.add_zero]at this;rw[this];rfl
theorem kN (mask:Nat)(h:Int):∀k,(D4 mask h k).2<2^64/32^k+1
 |0=>by
  show bits h<_;unfold bits;have:=Int.emod_lt_of_pos h (show(0:Int)<2^64 by decide)
  lia
 |k+1=>by
  have a:=kN mask h k;show(D4 mask h k).2/32<_;have e:∀N,N/32^(k+1)=N/32^k/32:=λN=>by rw[Nat.div_div_eq_div_mul];rfl
  rw[e]
  lia
theorem tT (mask:Nat)(h:Int):∀k,(D4 mask h (13+k)).2=0
 |0=>by have:=kN mask h 13;simp at this;exact this
 |k+1=>by have:=tT mask h k;show(D4 mask h<|13+k).2/32=0;rw[this]
def lcg (m:Nat)(i:Nat):Nat:=(i*5+1)%m
def iter (m:Nat):Nat->Nat->Nat
 |0,i=>i
 |n+1,i=>lcg m (iter m n i)
theorem oT (mask:Nat)(h:Int):∀k,(D4 mask h (13+k)).1=iter (mask+1) k (D4 mask h 13).1
 |0=>rfl
 |k+1=>by have a:=oT mask h k;show((D4 mask h<|13+k).1*5+1+(D4 mask h<|13+k).2/32)%(mask+1)=_;rw[tT,a];rfl
theorem jK (m:Nat):∀a b i,iter m (a+b) i=iter m a (iter m b i)
 |0,b,i=>by rw[aEf];rfl
 |a+1,b,i=>by rw[show a+1+b=(a+b)+1 by lia];show lcg m _=lcg m _;rw[jK m a b i]
def nR (m:Nat):Prop:=iter m m 0=0/\∀j<m,∃n<m,iter m n 0=j
def vJ (F:nR m)(e:i<m)(f:j<m):∃n<m,iter m n i=j:=by
 obtain⟨a,g,c⟩:=F.2 i e;obtain⟨b,k,d⟩:=F.2 j f;by_cases h:a<=b
 .exact⟨b-a,by lia,by rw[<-c,<-jK,show b-a+a=b by lia,d]⟩
 .refine⟨b+(m-a),by lia,?_⟩;rw[<-c,<-jK,show b+(m-a)+a=b+m by lia,jK,F.1,d]
instance(m:Nat):Decidable (nR m):=inferInstanceAs (Decidable<|_/\_)
def a0d:nR 8:=by decide+kernel
def jx:nR 32:=by decide+kernel
def UJ:nR 128:=by decide+kernel
theorem HF (mask:Nat)(h:Int):∀k,(D4 mask h k).1<mask+1
 |0=>aDO _ (by lia)
 |k+1=>aDO _ (by lia)
def DS {mask:Nat}(F:nR (mask+1))(h:Int){j:Nat}(a:j<=mask):∃n,n<=10*(mask+14)/\(n8 mask h n).j=j:=by
 obtain⟨k,b,e⟩:=vJ F (HF mask h 13) (show j<mask+1 by lia);refine⟨off mask h (13+k),?_,?_⟩
 .have:=QZ mask h (13+k);lia
 .rw[OT,oT,e]
def vK {α β:Type}{l:List α}{m:List β}{p:Nat}{a:α×β}(h:a∈(l.take p).zip (m.take p)):a∈l.zip m:=by
 obtain⟨i,b⟩:=aBU.mp h;rw[aBv]at b;refine aAn (i:=i) ?_;rw[aBv];have q:∀{γ:Type} {l:List γ} {c:γ},(l.take p)[i]?=some c->l[i]?=some c:=λ{γ l c} h=>by
  rw[List.getElem?_take]at h;split at h
  .exact h
  .cases h
 exact⟨q b.1,q b.2⟩
def wQ {α β:Type}{l:List α}{m:List β}{p:Nat}{a:α×β}(h:a∈(l.drop p).zip (m.drop p)):a∈l.zip m:=by obtain⟨i,b⟩:=aBU.mp h;rw[aBv,List.getElem?_drop,List.getElem?_drop]at b;refine aAn (i:=p+i) ?_;rw[aBv];exact b
theorem FQ (mask:Nat)(h:Int):∀n,(n8 mask h n).j+(n8 mask h n).more<=mask
 |0=>by have:=aDO (bits h) (show 0<mask+1 by lia);show bits h%(mask+1)+(runEnd mask (bits h%(mask+1))-bits h%(mask+1))<=mask;unfold runEnd;split<;>lia
 |n+1=>by
  have a:=FQ mask h n;show(SC mask<|n8 mask h n).j+(SC mask<|n8 mask h n).more<=mask;unfold SC;split
  .dsimp only;lia
  .dsimp only;have:(leap mask (n8 mask h n).i (n8 mask h n).perturb).1<mask+1:=aDO _ (by lia);unfold runEnd;split<;>lia
def wW (mask:Nat)(h:Int)(n:Nat):(n8 mask h n).j<=mask:=by have:=FQ mask h n;lia
theorem Q7 {α:Type}[DecidableEq α]:∀{l m:List α},l.Nodup->(∀x∈l,x∈m)->l.length<=m.length
 |[],_,_,_=>aAY _
 |x::l,m,h,a=>by
  have b:=a x (by simp);have c:=aAI.mp h;have:=Q7 (l:=l) (m:=m.erase x) c.2 (λy d=>by
   have ne:y≠x:=λe=>by subst e;exact c.1 d
   exact(aFO ne).mpr (a y<|aAe _ d))
  rw[aFc b]at this;have:0<m.length:=aDY b;simp only[aAw]
  lia
def KT {t:fh}(h:t.place.size<=t.mask):∃j≤t.mask,j∉t.place.toList:=by
 by_cases z:∃j≤t.mask,j∉t.place.toList
 .exact z
 .exfalso;have:=Q7 (l:=aBw (t.mask+1)) (m:=t.place.toList) List.nodup_range (λj a=>by
   by_cases q:j∈t.place.toList
   .exact q
   .exact absurd ⟨j,by have:=aCB.mp a;lia,q⟩ z)
  simp at this
  lia
theorem least {P:Nat->Prop}[DecidablePred P]:∀n,P n->∃m≤n,P m/\∀k<m,¬P k
 |0,h=>⟨0,aAj _,h,λk b=>by lia⟩
 |n+1,h=>by
  by_cases z:∃k≤n,P k
  .obtain⟨k,b,a⟩:=z;obtain⟨m,e,c,d⟩:=least k a;exact⟨m,by lia,c,d⟩
  .exact⟨n+1,aAj _,h,λk b a=>z ⟨k,by lia,a⟩⟩
termination_by n=>n
def W2 (t:fh)(h:Int)(n0:Nat):Prop:=n0<=10*(t.mask+14)/\(n8 t.mask h n0).j∉t.place.toList/\∀m<n0,(n8 t.mask h m).j∈t.place.toList
def DU {t:fh}(F:nR (t.mask+1))(a:t.place.size<=t.mask)(h:Int):∃n0,W2 t h n0:=by obtain⟨j,b,c⟩:=KT a;obtain⟨n,l,d⟩:=DS F h b;obtain⟨m,o,e,f⟩:=least (P:=λn=>(n8 t.mask h n).j∉t.place.toList) n (by rw[d];exact c);exact⟨m,by lia,e,λk g=>by have:=f k g;simpa using this⟩
theorem yO (T:Tab t)(hashAt:Nat->Int)(h:Int)(k:W2 t h n0):∀(c n:Nat),n<=n0->n0-n<c->
  ∃d,n<=d/\d<=n0/\(∀m,n<=m->m<d->∃i,t.place[i]?=some (n8 t.mask h m).j/\hashAt i≠h)/\
   ((d=n0/\probe.go t hashAt h c (n8 t.mask h n)=some (.empty (n8 t.mask h n0).j none))\/
    (d<n0/\∃i,t.place[i]?=some (n8 t.mask h d).j/\hashAt i=h/\probe.go t hashAt h c (n8 t.mask h n)=some (.candidate (n8 t.mask h d).j i (n8 t.mask h (d+1)))))
 |0,n,_,l=>by lia
 |c+1,n,v,l=>by
  unfold probe.go;rcases EI T (n8 t.mask h n).j with⟨e,o⟩|⟨i,e,f⟩
  .have:n=n0:=by
     by_cases q:n<n0
     .exact absurd (k.2.2 n q) o
     .lia
   subst this;refine⟨n,aAj _,aAj _,λm a b=>by lia,.inl ⟨rfl,?_⟩⟩;rw[e];dsimp only;rw[qJ]
  .have w:n≠n0:=λq=>by subst q;refine k.2.1 ?_;rw[<-aAA]at f;exact aAn f
   rw[e];dsimp only;by_cases g:hashAt i=h
   . refine⟨n,aAj _,by lia,λm a b=>by lia,.inr ⟨by lia,i,f,g,?_⟩⟩
     rw[jk (by simpa using g),pD];rfl
   . rw[ka (by simpa using g),pD]
     obtain⟨d,x,p,r,s⟩:=yO T hashAt h k c (n+1) (by lia) (by lia);refine⟨d,by lia,p,λm y u=>?_,s⟩;by_cases q:m=n
     .subst q;exact⟨i,f,g⟩
     .exact r m (by lia) u
def NO (T:Tab t)(hashAt:Nat->Int)(h:Int)(b:W2 t h n0)(n:Nat)(c:n<=n0):
  ∃a,n<=a/\a<=n0/\(∀m,n<=m->m<a->∃i,t.place[i]?=some (n8 t.mask h m).j/\hashAt i≠h)/\
   ((a=n0/\t.probe hashAt h (n8 t.mask h n)=some (.empty (n8 t.mask h n0).j none))\/
    (a<n0/\∃i,t.place[i]?=some (n8 t.mask h a).j/\hashAt i=h/\t.probe hashAt h (n8 t.mask h n)=some (.candidate (n8 t.mask h a).j i (n8 t.mask h (a+1))))):=
 yO T hashAt h b _ n c (by have:=b.1;unfold turns;lia)
def Reach (mask:Nat)(a:Nat->Prop)(h:Int)(j:Nat):Prop:=∃n,(n8 mask h n).j=j/\∀m<n,a (n8 mask h m).j
def Reach.mono {mask:Nat}{o a:Nat->Prop}{h:Int}{j:Nat}(r:Reach mask o h j)(i:∀k,o k->a k):Reach mask a h j:=by obtain⟨n,e,q⟩:=r;exact⟨n,e,λm b=>i _ (q m b)⟩
def Reach.before (a:W2 t h n0)(b:j∈t.place.toList)(r:Reach t.mask (λk=>k∈t.place.toList) h j):∃n<n0,(n8 t.mask h n).j=j:=by
 obtain⟨n,e,q⟩:=r;refine⟨n,?_,e⟩;by_cases z:n<n0
 .exact z
 .exfalso;by_cases y:n=n0
  .subst y;exact a.2.1 (by rw[e];exact b)
  .exact a.2.1 (q n0 (by lia))
def gO {α:Type}(Y:Array α)(p:Nat)(x:α):(insertAt Y p x).toList=Y.toList.take p++x::Y.toList.drop p:=by
 unfold insertAt;simp[Array.toList_extract,List.extract_eq_drop_take];have:Y.size-p=(Y.toList.drop p).length:=by simp
 rw[this,List.take_length]
def AN (t:fh)(es:List (Int×ai)):List (Nat×Int×ai):=t.place.toList.zip es
structure SOk (t:SetTable)(es:List (Int×Value)):Prop where
 tab:Tab t
 full:nR (t.mask+1)
 len:t.place.size=es.length
 room:t.place.size<=t.mask
 reach:∀e∈AN t es,Reach t.mask (λk=>k∈t.place.toList) e.2.1 e.1
def VL {t:fh}{es:List (Int×ai)}(b:t.place.size=es.length){i:Nat}{e:Int×ai}(h:es[i]?=some e):∃j,t.place[i]?=some j/\(j,e)∈AN t es:=by
 have c:i<es.length:=(aAx.mp h).1;have a:i<t.place.toList.length:=by simpa[b]using c
 refine⟨t.place.toList[i],by rw[<-aAA,aAh a],?_⟩;unfold AN;refine aAn (i:=i) ?_;rw[aBv];exact⟨aAh a,h⟩
def ax {t:fh}{es:List (Int×ai)}(S:SOk t es){h:Int}{x:ai}{n0:Nat}(z:W2 t h n0)(C:t.place.size+1<=t.mask):
  SOk (t.put (n8 t.mask h n0).j).1 (es.take (t.put (n8 t.mask h n0).j).2++(h,x)::es.drop (t.put (n8 t.mask h n0).j).2):=by
 have u:=wW t.mask h n0;obtain⟨U,E,H⟩:=cV S.tab.asc (n8 t.mask h n0).j;generalize A:(n8 t.mask h n0).j=J at*
 have v:J∉t.place.toList:=by rw[<-A];exact z.2.1
 have B:(t.put J).2=below t.place J:=rfl;have em:(t.put J).1.mask=t.mask:=rfl;have c:(t.put J).1.place=insertAt t.place (below t.place J) J:=rfl;have d:=gO t.place (below t.place J) J;have g:∀k,k∈(t.put J).1.place.toList↔k∈t.place.toList\/k=J:=λk=>by
  rw[c,d,aAN,aAd];constructor
  .rintro(q|q|q)
   .exact .inl (aEt q)
   .exact .inr q
   .exact .inl (aCU q)
  .rintro(q|q)
   .rw[<-aFD (below t.place J) t.place.toList,aAN]at q;rcases q with q|q
    .exact .inl q
    .exact .inr (.inr q)
   .exact .inr (.inl q)
 have n:(t.put J).1.place.size=t.place.size+1:=by
  rw[<-aBd,c,d,aAE,aBP,aAw,aCt,aBd]
  lia
 refine⟨⟨?_,λj I=>?_,?_⟩,S.full,?_,by rw[n];exact C,λe s=>?_⟩
 .
  have o:t.place.toList.Pairwise (· <·):=by rw[aCk];intro i j f u L;simpa using S.tab.asc i j (by simpa using f) (by simpa using u) L
  have p:∀a∈t.place.toList.take (below t.place J),a<J:=λa l=>by
   obtain⟨i,f,e⟩:=aBc l;rw[aBP]at f;rw[List.getElem_take]at e;have:=E i (by simp at f;lia) (by lia);simp at e
   lia
  have r:∀a∈t.place.toList.drop (below t.place J),J<a:=λa l=>by
   obtain⟨i,f,e⟩:=aBc l;rw[aCt]at f;rw[List.getElem_drop]at e;have Y:=H (below t.place J+i) (by simp at f;lia) (by lia);simp at e;have h2:J≠a:=λq=>v (by rw[q];exact aCU l)
   lia
  have N:(t.put J).1.place.toList.Pairwise (· <·):=by
   rw[c,d,List.pairwise_append];refine⟨o.sublist (List.take_sublist _ _),aAs.mpr ⟨r,o.sublist (List.drop_sublist _ _)⟩,λa l b O=>?_⟩;rcases aAd.mp O with q|q
   .subst q;exact p a l
   .exact aGw (p a l) (r b q)
  intro i k f w y;have:=aCk.mp N i k (by simpa using f) (by simpa using w) y;simpa using this
 .rcases(g j).mp I with q|q
  .exact S.tab.le j q
  .subst q;exact u
 .show(if has t.dummies J then _ else t.dummies)=#[];rw[S.tab.nod,ka (by unfold has;simp)]
 .rw[n,B,aAE,aBP,aAw,aCt];have:=S.len
  lia
 .have Q:e∈AN t es\/e=(J,h,x):=by
   unfold AN at s;rw[c,d,B]at s;rw[List.zip_append (by rw[aBP,aBP,aBd,S.len])]at s;rcases aAN.mp s with q|q
   .left;unfold AN;exact vK q
   .rw[aBV]at q;rcases aAd.mp q with q|q
    .exact .inr q
    .left;unfold AN;exact wQ q
  rcases Q with q|q
  .exact(S.reach e q).mono λk w=>(g k).mpr (.inl w)
  .subst q;exact⟨n0,A,λm T=>(g _).mpr (.inl (z.2.2 m T))⟩
def R9 (owner:Array (Option Nat))(j:Nat):Prop:=(owner.getD j<|some 0).isNone=false
theorem uG {mask:Nat}(h:Int)(owner:Array (Option Nat)):∀(fuel k:Nat),(∃kk,k<=kk/\kk<k+fuel/\¬R9 owner (D4 mask h kk).1)->
  ∃n,off mask h k<=n/\layClean.free mask owner fuel (D4 mask h k).1 (D4 mask h k).2=some (n8 mask h n).j/\¬R9 owner (n8 mask h n).j/\∀m,off mask h k<=m->m<n->R9 owner (n8 mask h m).j
 |0,k,⟨kk,g,l,_⟩=>by lia
 |fuel+1,k,⟨kk,g,l,c⟩=>by
  have o:runEnd mask (D4 mask h k).1+1-(D4 mask h k).1=len mask (D4 mask h k).1+1:=by unfold len runEnd;split<;>lia
  unfold layClean.free;rw[o];cases e:(aBw<|len mask (D4 mask h k).1+1).find? λr=>(owner.getD ((D4 mask h k).1+r)<|some 0).isNone with
  |some r=>
   have q:=List.find?_some e;have d:r<len mask (D4 mask h k).1+1:=aCB.mp (List.mem_of_find?_eq_some e);have f:(n8 mask h<|off mask h k+r).j=(D4 mask h k).1+r:=by rw[X8 mask h k r (by lia)]
   refine⟨off mask h k+r,by lia,by rw[f],by rw[f];unfold R9;rw[q];simp,λm a b=>?_⟩;have em:(n8 mask h m).j=(D4 mask h k).1+(m-off mask h k):=by have:=X8 mask h k (m-off mask h k) (by lia);rw[show off mask h k+(m-off mask h k)=m by lia]at this;rw[this]
   rw[em];unfold R9;rw[List.find?_range_eq_some]at e;have:=e.2.2 (m-off mask h k) (by lia);simpa using this
  |none=>
   have all:∀r<len mask (D4 mask h k).1+1,R9 owner ((D4 mask h k).1+r):=λr d=>by have:=List.find?_eq_none.mp e r (aCB.mpr d);unfold R9;exact Bool.not_eq_true _▸this
   have v:kk≠k:=λq=>by subst q;have:=all 0 (by lia);rw[Nat.add_zero]at this;exact c this
   obtain⟨n,w,p,s,t⟩:=uG h owner fuel (k+1) ⟨kk,by lia,by lia,c⟩;have x:off mask h (k+1)=off mask h k+len mask (D4 mask h k).1+1:=rfl;refine⟨n,by lia,p,s,λm y u=>?_⟩;by_cases q:off mask h (k+1)<=m
   .exact t m q u
   .have em:(n8 mask h m).j=(D4 mask h k).1+(m-off mask h k):=by have:=X8 mask h k (m-off mask h k) (by lia);rw[show off mask h k+(m-off mask h k)=m by lia]at this;rw[this]
    rw[em];exact all _ (by lia)
def nW {mask:Nat}(F:nR (mask+1))(h:Int)(owner:Array (Option Nat)){j:Nat}(g:j<=mask)(a:¬R9 owner j):
  ∃n,layClean.free mask owner (turns mask) (aDT h%(mask+1)) (aDT h)=some (n8 mask h n).j/\¬R9 owner (n8 mask h n).j/\∀m<n,R9 owner (n8 mask h m).j:=by
 obtain⟨k,l,e⟩:=vJ F (HF mask h 13) (show j<mask+1 by lia);obtain⟨n,o,b,c,d⟩:=uG h owner (turns mask) 0 ⟨13+k,aAY _,by unfold turns;lia,by rw[oT,e];exact a⟩;exact⟨n,b,c,λm f=>d m (aAY _) f⟩
structure Laid (mask:Nat)(hs:List Int)(owner:Array (Option Nat))(k:Nat):Prop where
 size:owner.size=mask+1
 lt:∀(j i:Nat),owner[j]?=some (some i)->i<k
 inj:∀(j j' i:Nat),owner[j]?=some (some i)->owner[j']?=some (some i)->j=j'
 sur:∀i<k,∃j:Nat,owner[j]?=some (some i)
 reach:∀(j i:Nat) (h:Int),owner[j]?=some (some i)->hs[i]?=some h->Reach mask (λl=>∃i,owner[l]?=some (some i)) h j
def lH {owner:Array (Option Nat)}{mask j:Nat}(b:owner.size=mask+1)(c:j<=mask):R9 owner j↔∃i,owner[j]?=some (some i):=by
 unfold R9;have a:j<owner.size:=by lia
 have e:owner.getD j (some 0)=owner[j]:=by simp[aFd,a]
 rw[e,aAy a];cases owner[j]with
 |none=>simp
 |some i=>simp
def Laid.room {mask k:Nat}{p:List Int}{owner:Array (Option Nat)}(L:Laid mask p owner k)(s:k<=mask):∃j≤mask,¬R9 owner j:=by
 by_cases z:∃j≤mask,¬R9 owner j
 .exact z
 .exfalso;have all:∀j≤mask,∃i,owner[j]?=some (some i):=λj b=>by
   by_cases q:R9 owner j
   .exact(lH L.size b).mp q
   .exact absurd ⟨j,b,q⟩ z
  have c:∀n,n<=mask+1->∃l:List Nat,l.length=n/\l.Nodup/\(∀i∈l,i<k)/\∀i∈l,∃j<n,owner[j]?=some (some i):=λn=>by
   induction n with
   |zero=>exactλ_=>⟨[],rfl,aDk,by simp,by simp⟩
   |succ n r=>
    intro t;obtain⟨l,h,d,f,o⟩:=r (by lia);obtain⟨i,g⟩:=all n (by lia);refine⟨i::l,by simp[h],aAI.mpr ⟨λq=>?_,d⟩,λx a=>?_,λx a=>?_⟩
    .obtain⟨j,b,e⟩:=o i q;have:=L.inj j n i e g
     lia
    .rcases aAd.mp a with q|q
     .subst q;exact L.lt _ _ g
     .exact f x q
    .rcases aAd.mp a with q|q
     .subst q;exact⟨n,by lia,g⟩
     .obtain⟨j,b,e⟩:=o x q;exact⟨j,by lia,e⟩
  obtain⟨l,h,d,f,_⟩:=c (mask+1) (aAj _);have:=Q7 (m:=aBw k) d (λx a=>aCB.mpr (f x a));simp at this
  lia
def CH (mask:Nat)(b:List Int):Laid mask b (aEy (mask+1) none) 0:=by
 have a:∀(j i:Nat),(aEy (mask+1) (none:Option Nat))[j]?=some (some i)->False:=λj i h=>by rw[Array.getElem?_replicate]at h;split at h<;>cases h
 exact⟨by simp,λj i h=>(a j i h).elim,λj c i h=>(a j i h).elim,λi d=>by lia,λj i _ h=>(a j i h).elim⟩
def Laid.step {mask k:Nat}{f:List Int}{owner:Array (Option Nat)}(L:Laid mask f owner k){h:Int}(s:f[k]?=some h){n:Nat}(t:¬R9 owner (n8 mask h n).j)(u:∀m<n,R9 owner (n8 mask h m).j):
  Laid mask f (owner.setIfInBounds (n8 mask h n).j (some k)) (k+1):=by
 have v:=wW mask h n;have g:(n8 mask h n).j<owner.size:=by rw[L.size];lia
 have get:∀(j i:Nat),(owner.setIfInBounds (n8 mask h n).j (some k))[j]?=some (some i)↔(j=(n8 mask h n).j/\i=k)\/(j≠(n8 mask h n).j/\owner[j]?=some (some i)):=λj i=>by
  rw[Array.getElem?_setIfInBounds];by_cases q:(n8 mask h n).j=j
  .rw[jk q,jk g];simp[q,eq_comm]
  .rw[ka q];constructor
   .intro z;exact .inr ⟨λy=>q y.symm,z⟩
   .rintro(⟨z,_⟩|⟨_,z⟩)
    .exact absurd z.symm q
    .exact z
 have w:∀i,owner[(n8 mask h n).j]?≠some (some i):=λi z=>t ((lH L.size v).mpr ⟨i,z⟩);have grow:∀l:Nat,(∃i:Nat,owner[l]?=some (some i))->∃i:Nat,(owner.setIfInBounds (n8 mask h n).j (some k))[l]?=some (some i):=λl x=>by
  obtain⟨i,z⟩:=x;by_cases q:l=(n8 mask h n).j
  .exact⟨k,(get l k).mpr (.inl ⟨q,rfl⟩)⟩
  .exact⟨i,(get l i).mpr (.inr ⟨q,z⟩)⟩
 refine⟨by simp[L.size],λj i z=>?_,λj o i z r=>?_,λi B=>?_,λj i p z e=>?_⟩
 .rcases(get j i).mp z with⟨_,q⟩|⟨_,q⟩
  .lia
  .have:=L.lt j i q;lia
 .rcases(get j i).mp z with⟨c,a⟩|⟨c,a⟩
  .rcases(get o i).mp r with⟨d,b⟩|⟨d,b⟩
   .rw[c,d]
   .subst a;have:=L.lt _ _ b;lia
  .rcases(get o i).mp r with⟨d,b⟩|⟨d,b⟩
   .subst b;have:=L.lt _ _ a;lia
   .exact L.inj j o i a b
 .by_cases q:i=k
  .subst q;exact⟨_,(get _ _).mpr (.inl ⟨rfl,rfl⟩)⟩
  .obtain⟨j,z⟩:=L.sur i (by lia);exact⟨j,(get j i).mpr (.inr ⟨λy=>by subst y;exact w i z,z⟩)⟩
 .rcases(get j i).mp z with⟨c,a⟩|⟨c,a⟩
  .subst c a;have:p=h:=aAk (e.symm.trans s);subst this;exact⟨n,rfl,λm A=>grow _ ((lH L.size<|wW mask p m).mp (u m A))⟩
  .exact(L.reach j i p a e).mono grow
def zO {mask:Nat}(F:nR (mask+1))(b:Array Int)(z:b.size<=mask):∃owner,layClean mask b=some owner/\Laid mask b.toList owner b.size:=by
 have f:∀(post a:List Int) (owner:Array (Option Nat)),b.toList=a++post->Laid mask b.toList owner a.length->
   ∃c,post.foldl (λB h=>do
    let(owner,k)<-B
    let j<-layClean.free mask owner (turns mask) (aDT h%(mask+1)) (aDT h)
    pure (owner.setIfInBounds j (some k),k+1)) (some (owner,a.length))=some (c,b.size)/\Laid mask b.toList c b.size:=λpost=>by
  induction post with
  |nil=>
   intro a owner e L;have:a.length=b.size:=by rw[<-aBd,e];simp
   exact⟨owner,by rw[List.foldl_nil,this],by rw[<-this];exact L⟩
  |cons h post g=>
   intro a owner e L;have d:a.length<b.size:=by rw[<-aBd,e];simp
   obtain⟨j,l,m⟩:=L.room (by lia);obtain⟨n,o,p,q⟩:=nW F h owner l m;have r:b.toList[a.length]?=some h:=by rw[e];simp
   have s:=L.step r p q;rw[aDt];have t:b.toList=(a++[h])++post:=by rw[e];simp
   obtain⟨c,u,v⟩:=g (a++[h]) _ t (by rw[aAE];exact s);refine⟨c,?_,v⟩;rw[<-u];congr 1;simp[o]
 obtain⟨owner,w,x⟩:=f b.toList [] (aEy (mask+1) none) rfl (CH mask b.toList);refine⟨owner,?_,x⟩;unfold layClean;rw[<-Array.foldl_toList];have y:List.foldl (λB h=>do
    let(owner,k)<-B
    let j<-layClean.free mask owner (turns mask) (aDT h%(mask+1)) (aDT h)
    pure (owner.setIfInBounds j (some k),k+1)) (some (aEy (mask+1) none,0)) b.toList=some (owner,b.size):=w
 rw[y];rfl
def F5 (mask:Nat)(owner:Array (Option Nat)):List (Nat×Nat):=(aBw<|mask+1).filterMap λj=>(owner.getD j none).map (j,·)
def R3 {mask:Nat}{owner:Array (Option Nat)}(f:owner.size=mask+1){j i:Nat}:(j,i)∈F5 mask owner↔owner[j]?=some (some i):=by
 unfold F5;rw[aBW];constructor
 .rintro⟨l,a,e⟩;have d:l<owner.size:=by rw[f];exact aCB.mp a
  have b:owner.getD l none=owner[l]:=by simp[aFd,d]
  rw[b,aDl]at e;obtain⟨h,c,g⟩:=e;cases g;rw[aAy d,c]
 .intro e;obtain⟨a,c⟩:=aCi.mp e;have b:owner.getD j none=owner[j]:=by simp[aFd,a]
  exact⟨j,aCB.mpr (by lia),by rw[b,c];rfl⟩
def AZ (mask:Nat)(owner:Array (Option Nat)):((F5 mask owner).map (·.1)).Pairwise (· <·):=by unfold F5;rw[aBF];have:(aBw<|mask+1).Pairwise (· <·):=List.pairwise_lt_range;refine List.Pairwise.filterMap _ (R:=(· <·)) ?_ this;intro a f e b c g d;rw[aDl]at c d;obtain⟨_,_,rfl⟩:=c;obtain⟨_,_,rfl⟩:=d;exact e
def NZ {mask finger moves:Nat}{led plain:Bool}(F:nR (mask+1))(es:Array (Int×ai))(A:es.size<=mask):
  ∃t' d,laid mask finger moves led plain (es.map (·.1))=some (t',d)/\(d.filterMap (es[·]?)).size=es.size/\(d.filterMap (es[·]?)).toList.Perm es.toList/\SOk t' (d.filterMap (es[·]?)).toList/\
   t'.mask=mask/\t'.dummies=#[]/\t'.led=led/\t'.plain=plain/\t'.moves=moves:=by
 obtain⟨c,I,L⟩:=zO F (es.map (·.1)) (by simpa using A);have m:(es.map (·.1)).size=es.size:=by simp
 rw[m]at L;refine⟨{mask,place:=((F5 mask c).map (·.1)).toArray,dummies:=#[],finger,led,moves,plain},((F5 mask c).map (·.2)).toArray,?_,?_⟩
 .unfold laid;rw[I];rfl
 have n:(F5 mask c).Nodup:=by have:=AZ mask c;rw[aBF]at this;exact aCh.mpr (this.imp λ{a b} h e=>by subst e;exact aBg _ h)
 have o:((F5 mask c).map (·.2)).Nodup:=by rw[aCh,aBF];refine List.Pairwise.imp_of_mem (R:=(· ≠·)) ?_ (aCh.mp n);rintro⟨j,i⟩ ⟨p,r⟩ J N O e;dsimp only at e;subst e;have:=L.inj j p i ((R3 L.size).mp J) ((R3 L.size).mp N);subst this;exact O rfl
 have B:((F5 mask c).map (·.2)).Perm (aBw es.size):=by
  rw[aDC o List.nodup_range];intro i;rw[aCB,aAp];constructor
  .rintro⟨⟨j,r⟩,h,rfl⟩;exact L.lt _ _ ((R3 L.size).mp h)
  .intro s;obtain⟨j,t⟩:=L.sur i s;exact⟨(j,i),(R3 L.size).mpr t,rfl⟩
 have C:(((F5 mask c).map (·.2)).toArray.filterMap (es[·]?)).toList=(F5 mask c).filterMap (λx=>es[x.2]?):=by rw[Array.toList_filterMap,aDn];rfl
 have Q:((F5 mask c).filterMap (λx=>es[x.2]?)).Perm es.toList:=by
  have T:(F5 mask c).filterMap (λx=>es[x.2]?)=((F5 mask c).map (·.2)).filterMap (λi=>es[i]?):=by rw[aDn];rfl
  rw[T];refine(B.filterMap _).trans (List.Perm.of_eq ?_);apply aDy;intro i;have:(aBw es.size).filterMap (λi=>es[i]?)=es.toList:=by
   have q:∀l:List (Int×ai),(aBw l.length).filterMap (λi=>l[i]?)=l:=λl=>by
    induction l with
    |nil=>rfl
    |cons a l u=>
     rw[aAw,aFz,aCH];simp only[aDe];rw[aDn];have:((λi=>(a::l)[i]?)∘Nat.succ)=λi=>l[i]?:=by funext i;simp
     rw[this,u]
   have:=q es.toList;simpa using this
  rw[this]
 have U:∀l:List (Nat×Nat),(∀x∈l,x.2<es.size)->(l.map (·.1)).zip (l.filterMap<|λx=>es[x.2]?)=l.filterMap (λx=>es[x.2]?.map (x.1,·))/\(l.filterMap<|λx=>es[x.2]?).length=l.length:=λl=>by
  induction l with
  |nil=>intro _;exact⟨rfl,rfl⟩
  |cons x l u=>intro h;obtain⟨Y,i2⟩:=u (λy hy=>h y (aAe _ hy));have w:=h x (by simp);have e:es[x.2]?=some es[x.2]:=aAy w;rw[aAv,aCH,e];dsimp only;rw[aCH,e];dsimp only[Option.map_some];rw[aBV,Y];exact⟨rfl,by simp[i2]⟩
 obtain⟨z1,E⟩:=U (F5 mask c) (λx w=>L.lt x.1 x.2 ((R3 L.size).mp w));have f:(F5 mask c).length=es.size:=by have:=B.length_eq;simpa using this
 rw[C];refine⟨by rw[<-aBd,C,E,f],Q,⟨⟨?_,λj t=>?_,rfl⟩,F,?_,?_,λe g=>?_⟩,rfl,rfl,rfl,rfl,rfl⟩
 .intro i k s m z;have:=aCk.mp (AZ mask c) i k (by simpa using s) (by simpa using m) z;simpa using this
 .have ui:j∈(F5 mask c).map (·.1):=by simpa using t
  obtain⟨⟨p,i⟩,h,rfl⟩:=aAp.mp ui;have:=(aCi.mp<|(R3 L.size).mp h).1;rw[L.size]at this;show p<=mask
  lia
 .rw[E];simp
 .simp only[aAm,aAf,f];exact A
 .unfold AN at g;dsimp only at g;rw[z1,aBW]at g;obtain⟨⟨j,i⟩,h,H⟩:=g;rw[aDl]at H;obtain⟨⟨hh,v⟩,e2,rfl⟩:=H;have ho:=(R3 L.size).mp h;have:=L.reach j i hh ho (by rw[aAA,Array.getElem?_map,e2];rfl);refine this.mono λl z9=>?_;obtain⟨r,gi⟩:=z9;show l∈(F5 mask c).map (·.1);exact aAp.mpr ⟨(l,r),(R3 L.size).mpr gi,rfl⟩
end ST
namespace TS
open PySem PyProof.Rows
abbrev tupK:Bool->SortKind:=sortPriv%PySem.Builtin.KeyKind.tuples
structure TB (f:Bool)(aa:Array Keyed)(st:SortSt):Prop where
 perm:(arrOf st).Perm aa
 kind:kindOf st=tupK f
 failed:failedOf st=none
 pend:pendingOf st=#[]
def TB.size {f:Bool}{aa:Array Keyed}{st:SortSt}(h:TB f aa st):(arrOf st).size=aa.size:=h.perm.size_eq
def TB.setArr {f:Bool}{aa:Array Keyed}{st:SortSt}(h:TB f aa st){Y:Array Keyed}(a:Y.Perm (arrOf st)):TB f aa (PyProof.Rows.setArr st Y):=
 ⟨a.trans h.perm,h.kind,h.failed,h.pend⟩
def US (f:Bool)(A:cp)(s:a9)(κ:KeyKind):Prop:=
 ∀(c:bt) (w:cq) (E:E8) (x y:ai) (a b:κ.α) {Q:yG},
  κ.keyOf x=some a->κ.keyOf y=some b->Q (κ.blt a b) s->a5 (bc c w) A (keyLt' (tupK f) x y) Q E s
def TB.atK {f:Bool}{κ:KeyKind}{aa:Array Keyed}{st:SortSt}(h:TB f aa st)(h0:KeysOf κ aa){i:Nat}(c:i<aa.size):∃x p a,(arrOf st)[i]?=some (x,p)/\κ.keyOf x=some a/\KK κ (arrOf st) i=a:=by
 have d:i<(arrOf st).size:=by rw[h.size];exact c
 obtain⟨a,b⟩:=h0 _ ((aEK.mp h.perm).mem_iff.mp (show(arrOf st)[i]∈(arrOf st).toList by simp));have e:(arrOf st)[i]?=some (arrOf st)[i]:=getElem?_pos _ i d;exact⟨(arrOf st)[i].1,(arrOf st)[i].2,a,by rw[e],b,by unfold KK;rw[e];simp[b]⟩
section
def zy (f:Bool){prog:bt}{w:cq}{A:cp}{E:E8}{s:a9}{aa:Array Keyed}{κ:KeyKind}{st:SortSt}{i j:Nat}{Q:Option Bool->SortSt->Prop}(d:US f A s κ)(c:TB f aa st)(h0:KeysOf κ aa)(e:i<aa.size)(g:j<aa.size)
  (h:Q (some (κ.blt (KK κ (arrOf st) i) (KK κ (arrOf st) j))) st):wpS (bc prog w) A E s (ltAt' i j) Q st:=by
 obtain⟨x,p,a,k,l,m⟩:=c.atK h0 e;obtain⟨y,q,b,n,o,r⟩:=c.atK h0 g;rw[m,r]at h;rw[ltAt'_eq];refine aBp (wpS_get ?_);show wpS _ _ _ _ (do let x<-elem' (arrOf st) i;let y<-elem' (arrOf st) j;lt' x y) Q st;rw[elem'_eq,elem'_eq,k,n];refine aBp (aCl<|aBp<|aCl ?_);rw[lt'_eq];refine aBp (wpS_get ?_);rw[c.kind];refine aBp (wpS_lift<|aDU<|d prog w _ x y a b l o ⟨rfl,?_⟩);exact aCl h
def up1 (S:SortedToK κ Y x)(h:1<=x->κ.kle (KK κ Y (x-1)) (KK κ Y x)):SortedToK κ Y (x+1):=λi j a b=>by
 rcases aDo (aFe b)with c|rfl
 .exact S i j a c
 .rcases aDo a with d|rfl
  .exact KeyOrd.kle_trans (S i (j-1) (by lia) (by lia)) (h (by lia))
  .exact KeyOrd.kle_refl _
def dn1 (S:NonIncK κ Y x)(h:1<=x->κ.kle (KK κ Y x) (KK κ Y (x-1))):NonIncK κ Y (x+1):=λi j a b=>by
 rcases aDo (aFe b)with c|rfl
 .exact S i j a c
 .rcases aDo a with d|rfl
  .exact KeyOrd.kle_trans (h (by lia)) (S i (j-1) (by lia) (by lia))
  .exact KeyOrd.kle_refl _
def QM (S:NonIncK κ Y x)(e:∀k,KK κ a k=KK κ Y k):NonIncK κ a x:=λi j b c=>by rw[e,e];exact S i j b c
def CG (κ:KeyKind)(Y:Array Keyed)(x c:Nat):Prop:=c+1<=x/\∀k,x-(c+1)<=k->k<x->KK κ Y k=KK κ Y (x-1)
def CG.one (h:1<=x):CG κ Y x 0:=⟨h,λk a b=>by rw[show k=x-1 by lia]⟩
variable{st:SortSt}
def OD (h:US f A s κ)(h0:KeysOf κ aa)(o:m<=aa.size)(B:TB f aa st)(p:1<=a)(b:a<=m)(S:SortedToK κ (arrOf st) a){Q:AscSt->SortSt->Prop}(q:∀n,a<=n->n<=m->SortedToK κ (arrOf st) n->(n<m->κ.klt (KK κ (arrOf st) n) (KK κ (arrOf st) (n-1)))->Q (none,n) st):wpS (bc prog w) A E s (ascLoop a m) Q st:=by
 refine aEg (I:=λn r t=>t=st/\r=(none,n)/\SortedToK κ (arrOf st) n) (λn r t k u l=>?_) (λr t ⟨d,g,c⟩=>?_) ⟨rfl,rfl,S⟩
 .obtain⟨d,g,c⟩:=l;subst d g;refine aBp (zy f h B h0 (by lia) (by lia) ?_);cases z:κ.blt (KK κ (arrOf t) n) (KK κ (arrOf t)<|n-1)with
  |true=>exact aCl (q n k (by lia) c λ_=>z)
  |false=>exact aCl ⟨rfl,rfl,up1 c λ_=>z⟩
 .subst d g;have e:max a m=m:=Nat.max_eq_right b;rw[e]at c⊢;exact q m b (aAj _) c λz=>absurd z (aBg _)
abbrev Told (f:Bool)(κ:KeyKind)(aa:Array Keyed)(m:Nat)(Q:Option Nat->SortSt->Prop):Prop:=∀n t,TB f aa t->1<=n->n<=m->SortedToK κ (arrOf t) n->Q (some n) t
def zS (g:US f A s κ)(h0:KeysOf κ aa)(a:m<=aa.size)(B:TB f aa st)(b:1<=n)(c:n<=m)(S:NonIncK κ (arrOf st) n){Q:Option Nat->SortSt->Prop}(q:Told f κ aa m Q):
  wpS (bc prog w) A E s (tail3 n m) Q st:=by
 have d:=B.setArr (aGc (arrOf st) 0 n<|(n-0)/2);have h:n<=(arrOf st).size:=by rw[B.size];exact aAr c a
 refine aBp (aGd<|aBp<|OD g h0 a d b c (λi j u l=>?_) λk o p r _=>aCl (q k _ d (aAr b o) p r));have e:∀k,k<n->KK κ (arrOf<|setArr st<|mirror (arrOf st) 0 n<|(n-0)/2) k=KK κ (arrOf st) (0+n-1-k):=λk t=>(KK_mirror h k).trans (jk ⟨aAY _,t⟩);rw[e i (by lia),e j l];exact S _ _ (by lia) (by lia)
def RA (g:US f A s κ)(h0:KeysOf κ aa)(H:m<=aa.size)(B:TB f aa st)(h:1<=n)(l:n<=m)(S:NonIncK κ (arrOf st) n){Q:DescSt->SortSt->Prop}(q:∀k c t,TB f aa t->1<=k->k<=m->NonIncK κ (arrOf t) k->CG κ (arrOf t) k c->Q (none,k,c) t):wpS (bc prog w) A E s (descLoop n m) Q st:=by
 refine aEg (I:=λk r t=>∃c,r=(none,k,c)/\TB f aa t/\NonIncK κ (arrOf t) k/\CG κ (arrOf t) k c) (λk r t J L u=>?_) (λr t ⟨c,e,a,d,b⟩=>?_) ⟨0,rfl,B,S,CG.one h⟩
 .obtain⟨c,e,a,d,b⟩:=u;subst e;have v:k<=(arrOf t).size:=by rw[a.size];lia
  dsimp only;refine aBp (zy f g a h0 (by lia) (by lia) ?_);cases z:κ.blt (KK κ (arrOf t) k) (KK κ (arrOf t)<|k-1)with
  |true=>
   have o:NonIncK κ (arrOf t) (k+1):=dn1 d λ_=>KeyOrd.kle_of_klt z;show wpS _ _ _ _ (if c>0 then _ else _) _ t;by_cases p:c>0
   .rw[jk p];exact aBp (aGd (aCl ⟨0,rfl,a.setArr (aGc _ _ _ _),QM o (aFE v b.2),CG.one (by lia)⟩))
   .rw[ka p];exact aCl ⟨0,rfl,a,o,CG.one (by lia)⟩
  |false=>
   dsimp only;simp only[aAt,if_false];refine aBp (zy f g a h0 (by lia) (by lia) ?_);cases x:κ.blt (KK κ (arrOf t)<|k-1) (KK κ (arrOf t) k)with
   |true=>exact aCl (q k c t a (by lia) (by lia) d b)
   |false=>
    have e:KK κ (arrOf t) k=KK κ (arrOf t) (k-1):=KeyOrd.kle_antisymm x z;refine aCl ⟨c+1,rfl,a,dn1 d λ_=>by rw[e];exact KeyOrd.kle_refl _,by have:=b.1;lia,λi N y=>?_⟩;show KK κ (arrOf t) i=KK κ (arrOf t) k;rcases aDo (aFe y)with C|rfl
    .rw[e];exact b.2 i (by lia) C
    .rfl
 .subst e;have e:max n m=m:=Nat.max_eq_right l;rw[e]at d b⊢;exact q m c t a (aAr h l) (aAj _) d b
def AI (a:US f A s κ)(h0:KeysOf κ aa)(b:m<=aa.size)(B:TB f aa st)(o:n+1<=m)(S:NonIncK κ (arrOf st) (n+1)){Q:Option Nat->SortSt->Prop}(q:Told f κ aa m Q):
  wpS (bc prog w) A E s (descPart n m) Q st:=by
 refine aBp (wpS_lift<|aDz ⟨rfl,aBp (RA a h0 b B (aGx n) o S λk c t d e g h p=>?_)⟩);have r:k<=(arrOf t).size:=by rw[d.size];lia
 show wpS _ _ _ _ (if c>0 then _ else _) _ t;by_cases l:c>0
 .rw[jk l];exact aBp (aGd<|zS a h0 b (d.setArr<|aGc _ _ _ _) e g (QM h<|aFE r p.2) q)
 .rw[ka l];exact zS a h0 b d e g h q
def KL (a:US f A s κ)(h0:KeysOf κ aa)(b:m<=aa.size)(h:1<=m)(B:TB f aa st){Q:Option Nat->SortSt->Prop}(q:Told f κ aa m Q):wpS (bc prog w) A E s (countRun' 0 m) Q st:=by
 rw[countRun0_eq];refine aBp (OD a h0 b B (aAj 1) h (up1 (λ_ _ _ z=>absurd z (aFF _)) λz=>absurd z (by decide)) λn c d S l=>?_);show wpS _ _ _ _ (if(n==m)=true then _ else _) _ st;by_cases e:n=m
 .rw[jk (beq_iff_eq.mpr e)];exact aCl (q n st B c d S)
 .rw[ka λz=>e (beq_iff_eq.mp z)];have lt:=l (by lia);by_cases g:n>1
  .rw[jk g];refine aBp (zy f a B h0 (by lia) (by lia) ?_);cases z:κ.blt (KK κ (arrOf st) 0) (KK κ (arrOf st)<|n-1)with
   |true=>exact aCl (q n st B c d S)
   |false=>
    have o:n<=(arrOf st).size:=by rw[B.size];lia
    have same:∀k,0<=k->k<n->KK κ (arrOf st) k=KK κ (arrOf st) (n-1):=λk _ p=>KeyOrd.kle_antisymm (S k (n-1) (by lia) (by lia)) (KeyOrd.kle_trans z<|S 0 k (aAY _) p);have r:NonIncK κ (arrOf st) n:=λi j u t=>by rw[same i (aAY _) (by lia),same j (aAY _) t];exact KeyOrd.kle_refl _
    exact aBp (aGd (AI a h0 b (B.setArr<|aGc _ _ _ _) (by lia) (QM (dn1 r λ_=>KeyOrd.kle_of_klt lt)<|aFE o same) q))
  .rw[ka g];obtain rfl:n=1:=by lia
   exact AI a h0 b B (by lia) (dn1 (dn1 (λ_ _ _ z=>absurd z (aFF _)) λz=>absurd z (by decide)) λ_=>KeyOrd.kle_of_klt lt) q
def pU (hO:US f A s κ)(h0:KeysOf κ aa)(hn:n<=aa.size)(hk:k<=n)(B:TB f aa st)(S:SortedToK κ (arrOf st) k){Q:Bool->SortSt->Prop}(q:∀t,TB f aa t->SortedToK κ (arrOf t) n->Q true t):
  wpS (bc prog w) A E s (binarySort' 0 n k) Q st:=by
 rw[binarySort'_eq];simp only[aEf];have S0:SortedToK κ (arrOf st) (min (max k 1) n):=λi j C L=>by
  rcases Nat.eq_or_lt_of_le C with rfl|ao
  .exact KeyOrd.kle_refl _
  .exact S i j C (by lia)
 refine aBp (wpS_mono (Q:=λr t=>r=(none,())/\TB f aa t/\SortedToK κ (arrOf t) n) (aEg (I:=λx r t=>r=(none,())/\TB f aa t/\SortedToK κ (arrOf t) (min x n)) (λx r t l1 l2 ⟨e,g,c⟩=>?step) (λr t ⟨e,g,c⟩=>⟨e,g,?fin⟩) ⟨rfl,B,S0⟩) λr t ⟨e,g,c⟩=>?post)
 case step=>
  subst e;rw[aFG (aDu l2)]at c;have N:x<aa.size:=by lia
  let o (l:Nat):Prop:=∀i,i<l->κ.kle (KK κ (arrOf t) i) (KK κ (arrOf t) x)
  let Top (r:Nat):Prop:=∀i,r<=i->i<x->κ.klt (KK κ (arrOf t) x) (KK κ (arrOf t) i)
  refine aBp (wpS_mono (Q:=λd u=>u=t/\∃l r,d=(none,l,r)/\l<=x/\o l/\Top l) (aEg (I:=λy d u=>u=t/\∃l r,d=(none,l,r)/\l<=r/\r<=x/\r-l<=x-y/\o l/\Top r) (λy d u _ y2 ⟨e,l,r,p,O,H,J,lo,m⟩=>?istep) (λd u ⟨e,l,r,p,O,H,J,lo,m⟩=>?ifin)
   ⟨rfl,0,x,rfl,aAY _,aAj _,aAj _,λ_ z=>absurd z (aFF _),λi a b=>absurd (aCN a b) (aBg _)⟩) λd u ⟨e,l,r,p,lx,lo,m⟩=>?ipost)
  case istep=>
   subst e p;show wpS _ _ _ _ (if l>=r then _ else _) _ u;by_cases h:l>=r
   .rw[jk h];obtain rfl:l=r:=Nat.le_antisymm O h;exact aCl ⟨rfl,l,l,rfl,H,lo,m⟩
   .rw[ka h];dsimp only;refine aBp (zy f hO g h0 N (by lia) ?_);cases z:κ.blt (KK κ (arrOf u) x) (KK κ (arrOf u)<|(l+r)/2)with
    |true=>exact aCl ⟨rfl,l,(l+r)/2,rfl,by lia,by lia,by lia,lo,λi a b=>KeyOrd.klt_of_klt_of_kle z (c _ i a b)⟩
    |false=>exact aCl ⟨rfl,(l+r)/2+1,r,rfl,by lia,by lia,by lia,λi a=>KeyOrd.kle_trans (c i ((l+r)/2) (by lia) (by lia)) z,m⟩
  case ifin=>
   subst e p;obtain rfl:l=r:=by lia
   exact⟨rfl,l,l,rfl,H,lo,m⟩
  case ipost=>
   subst e p;have hz:x<(arrOf u).size:=by rw[g.size];exact N
   show wpS _ _ _ _ (do moveDown' x l;pure (aCm (none,()))) _ u;rw[moveDown'_eq];refine aBp (wpS_modify<|aCl ⟨rfl,g.setArr (bubble_perm _ _ _),λi j C L=>?_⟩);have e:∀k,KK κ (arrOf<|setArr u<|bubble (arrOf u) x<|x-l) k=if k=l then KK κ (arrOf u) x else if l<k/\k<=x then KK κ (arrOf u) (k-1)else KK κ (arrOf u) k:=λk=>by have:=KK_bubble (κ:=κ) hz (Nat.sub_le x l) k;rw[show x-(x-l)=l by lia]at this;exact this
   have L:j<x+1:=by lia
   rw[e,e];by_cases T:i=l
   .rw[jk T];by_cases v:j=l
    .rw[jk v];exact KeyOrd.kle_refl _
    .rw[ka v,jk ⟨by lia,by lia⟩];exact KeyOrd.kle_of_klt (m _ (by lia) (by lia))
   .rw[ka T];by_cases v:j=l
    .rw[jk v,ka λz=>by lia];exact lo i (by lia)
    .rw[ka v];by_cases U:l<i/\i<=x
     .rw[jk U,jk ⟨by lia,by lia⟩];exact c _ _ (by lia) (by lia)
     .rw[ka U];by_cases Y:l<j/\j<=x
      .rw[jk Y];exact c _ _ (by lia) (by lia)
      .rw[ka Y];exact c _ _ C (by lia)
 case fin=>rw[show min (max (max k 1) n) n=n by lia]at c;exact c
 case post=>subst e;exact aCl (q t g c)
def nN (f:Bool)(g:US f A s κ)(h0:KeysOf κ aa)(B:TB f aa st)(C:2<=aa.size)(c:aa.size<64){Q:Unit->SortSt->Prop}(q:∀t,(arrOf t).Perm aa->failedOf t=none->SortedToK κ (arrOf t) aa.size->Q () t):wpS (bc prog w) A E s sortRuns' Q st:=by
 have m:minRun' aa.size aa.size 0=aa.size:=by
  generalize H:aa.size=N at*
  cases N with
  |zero=>lia
  |succ N=>rw[minRun'_succ,jk c]
 let U3 (t:SortSt):Prop:=(arrOf t).Perm aa/\failedOf t=none/\pendingOf t=#[(0,aa.size,0)]/\SortedToK κ (arrOf t) aa.size
 have done:∀t,TB f aa t->SortedToK κ (arrOf t) aa.size->U3 (setPending t<|(pendingOf t).push (0,aa.size,0)):=λt a o=>⟨a.perm,a.failed,(kb (·.push (0,aa.size,0)) a.pend),o⟩;rw[sortRuns'_eq];refine aBp (wpS_get ?_);dsimp only;simp only[B.size,m];refine aBp (wpS_mono (Q:=λr t=>r=(none,aa.size)/\U3 t) (aEg (I:=λx r t=>(x=0/\r=(none,0)/\TB f aa t)\/(0<x/\r=(none,aa.size)/\U3 t)) (λx r t _ J I=>?step) (λr t I=>?fin)<|.inl ⟨rfl,rfl,B⟩) λr t ⟨e,D⟩=>?post)
 case step=>
  rcases I with⟨rfl,rfl,a⟩|⟨L,rfl,D⟩
  .show wpS _ _ _ _ (if 0>=aa.size then _ else _) _ t;rw[ka (by lia)];simp only[Nat.sub_zero,Nat.min_self,aEf];have fin:∀u,TB f aa u->(pendingOf u).back?=none:=λu b=>by rw[b.pend];rfl
   refine aBp (KL g h0 (aAj _) (by lia) a λn u b O p h=>?_);show wpS _ _ _ _ (if n<aa.size then _ else _) _ u;by_cases k:n<aa.size
   .rw[jk k];refine aBp (wpS_lift<|aDz ⟨rfl,aBp (pU g h0 (aAj _) p b h λv l y=>?_)⟩);simp only[aDf,aAt,if_false];refine aBp (wpS_get ?_);rw[fin v l];exact aBp (wpS_modify<|aCl<|.inr ⟨aGx _,rfl,done v l y⟩)
   .rw[ka k];obtain rfl:n=aa.size:=by lia
    refine aBp (wpS_get ?_);rw[fin u b];exact aBp (wpS_modify<|aCl<|.inr ⟨aGx _,rfl,done u b h⟩)
  .show wpS _ _ _ _ (if aa.size>=aa.size then _ else _) _ t;rw[jk (aAj _)];exact aCl ⟨rfl,D⟩
 case fin=>
  rcases I with⟨z,_⟩|⟨_,e,D⟩
  .lia
  .exact⟨e,D⟩
 case post=>
  subst e;refine aBp (wpS_mono (Q:=λr u=>u=t/\r=(none,())) (aEg (I:=λ_ r u=>u=t/\r=(none,())) (λ_ r u _ _ ⟨e,d⟩=>?istep) (λ_ _ z=>z) ⟨rfl,rfl⟩) λr u ⟨e,d⟩=>?ipost)
  case istep=>subst e d;refine aBp (wpS_get ?_);rw[jk (by rw[D.2.2.1];exact aAj 1)];exact aCl ⟨rfl,rfl⟩
  case ipost=>subst e d;exact aCl (q _ D.1 D.2.1 D.2.2.2)
end
section
def kz (a:bb)(s c:a9):Prop:=∀b o,b≠a->s.heap.get? b=some o->c.heap.get? b=some o
def zK {P:Fin->a9->Prop}(p:s.heap.get? a=some (seqObj "list" vs.toArray n))(h0:KeysOf κ (pairsOf vs))(x:∀g,kz a s g->US f A g κ)(r:2<=vs.length->∀g,kz a s g->∀{Q:SortKind->a9->Prop},Q (tupK f) g->a5 (bc prog w) A (keyKind' vs.toArray) Q E g)(t:vs.length<64)(h:∀c:SortSt,(arrOf c).Perm (pairsOf vs)->SortedToK κ (arrOf c) (pairsOf vs).size->P (.done (.ret .none)) {s with heap:=sortedHeap s.heap a vs ((arrOf c).map (·.2))}):
  a5 (bc prog w) A (Builtin.«list.sort» ⟨[.ref a],[]⟩) P E s:=by
 rw[list_sort_plain];have y:a<s.heap.objs.size:=aAg p;refine aAa (aEh p rfl ?_);refine aAa (listUpdate_at p rfl ?_);obtain⟨u,k⟩:∃u,(s.heap.update a<|aBx λ_=>#[]).get? a=some (seqObj "list" #[] u):=⟨_,get?_update_seq p _⟩;refine aAa (seqEpoch_at k rfl<|aAa<|aFU<|aAa<|wpAny_newList<|aAK ?_);have z:a≠(s.heap.update a<|aBx λ_=>#[]).objs.size:=by rw[Heap.size_update];exact aAl y
 have l:kz a s {s with heap:=((s.heap.update a<|aBx λ_=>#[]).push (seqObj "tuple" vs.toArray 0)).push (seqObj "list" #[] 0)}:=λb o B e=>aAc _ (aAc _<|(aAC _ _<|aCg B).trans e)
 have d:(((s.heap.update a<|aBx λ_=>#[]).push (seqObj "tuple" vs.toArray 0)).push (seqObj "list" #[] 0)).get? a=some (seqObj "list" #[] u):=aAc _ (aAc _ k);show a5 (bc prog w) A _ P E {s with heap:=((s.heap.update a<|aBx λ_=>#[]).push (seqObj "tuple" vs.toArray 0)).push (seqObj "list" #[] 0)};dsimp only;have C:vs.toArray.size=vs.length:=by simp
 have m:=h;by_cases q:vs.toArray.size<2
 .rw[jk q,jk q];refine aAa (aAb ?_);rw[StateT.run_pure];refine aAa (aAb ?_);dsimp only;refine aAa (seqEpoch_at d rfl (aAa (listUpdate_at d rfl ?_ (hsz2:=by rw[Array.size_map];show(pairsOf vs).size<=_;rw[aER,aFm];lia))));simp only[bne_self_eq_false,aAt,if_false];refine aAb (m (SortSt.mk' general' (vs.toArray.zip vs.toArray) #[] 7 none) (aGA _) λi j T H=>?_);have:i=j:=by rw[aER]at H;lia
  subst this;exact KeyOrd.kle_refl _
 .rw[ka q,ka q];refine aAa (r (by lia) _ l ?_);refine aAa (aCF (nN f (κ:=κ) (x _ l) (aa:=pairsOf vs) (st:=SortSt.mk' (tupK f) (vs.toArray.zip vs.toArray) #[] 7 none) (Q:=λ_ c=>(arrOf c).Perm (pairsOf vs)/\failedOf c=none/\SortedToK κ (arrOf c) (pairsOf vs).size)
   h0 ⟨aGA _,rfl,rfl,rfl⟩ (by rw[aER];lia) (by rw[aER];exact t) λc I J L=>⟨I,J,L⟩) ?_ λ_ _ e=>e)
  rintro⟨⟨⟩,c⟩ U ⟨rfl,v,N,O⟩;dsimp only;refine aAa (seqEpoch_at d rfl (aAa (listUpdate_at d rfl ?_ (hsz2:=by refine aAr (aEi<|(Array.size_map ..).trans (v.size_eq.trans<|aER _)) ?_;rw[aFm];lia))));rw[N];simp only[bne_self_eq_false,aAt,if_false];exact aAb (m c v O)
end
end TS
namespace L2
open PySem PySem.Spec PyProof.Rows
abbrev zW:=Sum Int Str
def LZ:zW->ai->Bool
 |.inl k,v=>Value.isInt k v
 |.inr x,v=>Value.isStrOf x v
def a1u (w:cq):zW->Int
 |.inl k=>hashInt k
 |.inr x=>hashStr w x
theorem B9:∀{k:zW} {v:ai},LZ k v=true->(∃i t,k=aGn i/\v=aGB i t)\/(∃x t,k=aGo x/\v=Value.str x t)
 |.inl i,v,h=>by obtain⟨t,e⟩:=Value.isInt_shape (k:=i) (v:=v) h;exact .inl ⟨i,t,rfl,e⟩
 |.inr x,v,h=>by obtain⟨t,e⟩:=Value.isStrOf_shape (x:=x) (v:=v) h;exact .inr ⟨x,t,rfl,e⟩
def YZ (a b:Int):decide ((aGn a:zW)=aGn b)=(a==b):=by
 by_cases e:a=b
 .subst e;simp
 .have h:¬(aGn a:zW)=aGn b:=λq=>e (Sum.inl.inj q);rw[decide_eq_false h];exact(beq_eq_false_iff_ne.mpr e).symm
def ZN (a b:Str):decide ((aGo a:zW)=aGo b)=decide (a=b):=by
 by_cases e:a=b
 .subst e;simp
 .have h:¬(aGo a:zW)=aGo b:=λq=>e (Sum.inr.inj q);rw[decide_eq_false h,decide_eq_false e]
def bw (a:Int)(b:Str):decide ((aGn a:zW)=aGo b)=false:=decide_eq_false (λq=>nomatch q)
def YK (a:Str)(b:Int):decide ((aGo a:zW)=aGn b)=false:=decide_eq_false (λq=>nomatch q)
def vW (prog:bt)(w:cq):PySem.KeyKind prog w zW where
 is:=LZ
 hash:=a1u w
 inj:=λv a b g f=>by
  rcases B9 g with⟨i,t,rfl,rfl⟩|⟨x,t,rfl,rfl⟩
  .rcases B9 f with⟨j,u,rfl,e⟩|⟨y,u,rfl,e⟩
   .injection e with c _;rw[c]
   .exact nomatch e
  .rcases B9 f with⟨j,u,rfl,e⟩|⟨y,u,rfl,e⟩
   .exact nomatch e
   .injection e with c _;rw[c]
 byValue:=λk v h=>by rcases B9 h with⟨i,t,rfl,rfl⟩|⟨x,t,rfl,rfl⟩<;>rfl
 pyHash:=λd h=>by
  rcases B9 d with⟨i,t,rfl,rfl⟩|⟨x,t,rfl,rfl⟩
  .exact wpAny_pyHash_int h
  .exact wpAny_pyHash_str h
 eqBool:=λl d h=>by
  rcases B9 l with⟨i,t,rfl,rfl⟩|⟨x,t,rfl,rfl⟩
  .rcases B9 d with⟨j,u,rfl,rfl⟩|⟨y,u,rfl,rfl⟩
   .rw[YZ]at h;exact wpAny_eqBool_int h
   .rw[bw]at h;exact aGh i t y u _ _ _ _ h
  .rcases B9 d with⟨j,u,rfl,rfl⟩|⟨y,u,rfl,rfl⟩
   .rw[YK]at h;exact aGi x t j u _ _ _ _ h
   .rw[ZN]at h;exact wpAny_eqBool_str h
 «strs»:=λk x t v h=>by
  rcases B9 h with⟨i,u,rfl,e⟩|⟨y,u,rfl,e⟩
  .exact nomatch e
  .injection e with c _;subst c;cases v<;>rfl
def jj (prog:bt)(w:cq)(k:zW)(v:ai):(vW prog w).is k v=LZ k v:=rfl
inductive V where
 |non|bl (b:Bool)|int (i:Int)|str (x:Str)|byt (b:Array UInt8)|flt (b:UInt64)|ref (a:Addr)|ty (n:String)
 deriving DecidableEq
def RelV:V->ai->Prop
 |.non,u=>u=Value.none
 |.bl b,u=>u=aDA b
 |.int i,u=>∃t,u=aGB i t
 |.str x,u=>∃t,u=Value.str x t
 |.byt b,u=>∃t,u=Value.bytes b t
 |.flt b,u=>∃t,u=Value.float b t
 |.ref a,u=>u=aDv a
 |.ty n,u=>u=aCq n
abbrev l6:List V->List ai->Prop:=Paired RelV
def l6.length {Y:List V}{a:List ai}(r:l6 Y a):Y.length=a.length:=Paired.length r
theorem l6.get:∀{Y:List V} {a:List ai} {i:Nat} {x:V},l6 Y a->Y[i]?=some x->∃u,a[i]?=some u/\RelV x u
 |_,_,_,_,.nil,e=>by simp at e
 |_,_,0,_,.cons r _,e=>by simp at e;subst e;exact⟨_,rfl,r⟩
 |_,_,i+1,x,.cons _ t,e=>by obtain⟨u,b,c⟩:=l6.get (i:=i) (x:=x) t (by simpa using e);exact⟨u,by simpa using b,c⟩
theorem l6.set (r:RelV x u):∀{Y:List V} {a:List ai} (i:Nat),l6 Y a->l6 (Y.set i x) (a.set i u)
 |_,_,_,.nil=>.nil
 |_,_,0,.cons _ t=>.cons r t
 |_,_,i+1,.cons q t=>.cons q (l6.set r i t)
theorem l6.append:∀{Y a:List V} {b ws:List ai},l6 Y b->l6 a ws->l6 (Y++a) (b++ws)
 |_,_,_,_,.nil,s=>s
 |_,_,_,_,.cons r t,s=>.cons r (l6.append t s)
theorem l6.take:∀{Y:List V} {a:List ai} (n:Nat),l6 Y a->l6 (Y.take n) (a.take n)
 |_,_,0,_=>.nil
 |_,_,_+1,.nil=>.nil
 |_,_,n+1,.cons r t=>.cons r (l6.take n t)
theorem l6.drop:∀{Y:List V} {a:List ai} (n:Nat),l6 Y a->l6 (Y.drop n) (a.drop n)
 |_,_,0,r=>r
 |_,_,_+1,.nil=>.nil
 |_,_,n+1,.cons _ t=>l6.drop n t
def rz:Option V->Option ai->Prop
 |some v,some u=>RelV v u
 |none,none=>True
 |_,_=>False
def KV {κ:Type}:List (κ×V)->List (κ×ai)->Prop:=Paired λ(p:κ×V) (q:κ×ai)=>p.1=q.1/\RelV p.2 q.2
def kV:zW->V
 |.inl i=>.int i
 |.inr x=>.str x
inductive HO where
 |lst (Y:List V)
 |tup (Y:List V)
 |dK (U:List (zW×V))|dT (U:List (List zW×V))
 |set (S:Int->Bool) (n:Nat)
 |ins (C dx:Addr) (fs:List (Str×V))
 |own (x:Addr)
 |xd (fs:List (Str×V))
 |met (f x:Addr)
 |rng (lo hi:Int)
 |frz (o:Obj) (u:HO)
 |tbl (tb:List (Pos×Str))
 |ext (φ:Heap->Prop)
abbrev Hp:=bb->Option HO
def upd (H:Hp)(a:bb)(o:HO):Hp:=λb=>if b=a then some o else H b
def j3:upd H a o a=some o:=by unfold upd;rw[jk rfl]
def k8 (h:b≠a):upd H a o b=H b:=by unfold upd;rw[ka h]
def t9 {H:Hp}{a b:bb}{o:HO}(h:H a=some o)(h':H b=none):a≠b:=by intro e;subst e;rw[h]at h';cases h'
section
variable(P:bt) (w:cq)
def ObjOk (H:Hp)(h:cv)(a:bb):HO->Prop
 |.lst Y=>Y.length<=sizeLine/\∃(b:List ai) (n:Nat),l6 Y b/\h.get? a=some {cls:=.type "list",data:=.seq b.toArray n}
 |.tup Y=>Y.length<=sizeLine/\∃b:List ai,l6 Y b/\IsTup h a b.toArray
 |.dK U=>U.length<=sizeLine/\(a==hV)=false/\∃e,KV U e/\h.DictOf (vW P w) a e
 |.dT U=>U.length<=sizeLine/\(a==hV)=false/\∃Y:List (List zW×bb×ai),
  Paired (λ(p:List zW×V) (q:List zW×bb×ai)=>p.1=q.1/\H q.2.1=some (.tup (p.1.map kV))/\RelV p.2 q.2.2) U Y/\
  ∃o l y,h.get? a=some o/\o.ExactDict/\o.data=.dict l y/\l.toList=Y.map (entryOfKey<|tupleKind<|vW P w)/\(Y.map (·.1)).Nodup
 |.set S n=>h.SetOf (intKind P w) a S n
 |.ins C g fs=>H g=some (.own a)/\fs.length<=1000/\g≠a/\h.get? a=some (PySem.W.instObj C g)/\
  ∃d,h.Ns1 g d/\(∀f,rz (fs.lookup f) (d f))/\PySem.Within d (fs.map (·.1))
 |.own _=>∃o,h.get? a=some o
 |.xd fs=>∃d,h.Ns1 a d/\∀f,rz (fs.lookup f) (d f)
 |.rng lo z=>∃t u v,h.get? a=some {cls:=.type "range",data:=.fields #[.int lo t,.int z u,.int 1 v]}
 |.frz o u=>h.get? a=some o/\ObjOk H h a u
 |.tbl A=>∃k:Array ai,h.get? a=some {cls:=.none,data:=.fields k}/\TriplesOk k.toList/\∀p∈A,fo p.1 k.toList=none\/∃c m e t,fo p.1 k.toList=some (.ref c)/\H c=some (.frz m (.own c))/\m.data=.fields e/\e[1]?=some (.str p.2 t)
 |.met f x=>h.get? a=some (PySem.W.methodObj (.ref f)<|.ref x)
 |.ext φ=>φ h/\(∃o,h.get? a=some o)/\∀r s:cv,φ r->(∀o,r.get? a=some o->s.get? a=some o)->φ s
def WQ:HO->Prop
 |.tup _=>True
 |.frz o _=>∃a,o.data=.fields a
 |_=>False
def gN (H:Hp)(h:cv):Prop:=∀a o,H a=some o->ObjOk P w H h a o
end
section
variable{P:bt} {w:cq} {H H':Hp} {h h':cv} {a:bb} {o:HO}
def ObjOk.lt (x:ObjOk P w H h a o):a<h.objs.size:=by
 cases o with
 |lst Y=>obtain⟨_,_,_,_,e⟩:=x;exact aAg e
 |tup Y=>obtain⟨_,_,_,p⟩:=x;exact p.lt
 |dK U=>obtain⟨_,_,_,_,o,_,_,e,_⟩:=x;exact aAg e
 |dT U=>obtain⟨_,_,_,_,o,_,_,e,_⟩:=x;exact aAg e
 |set S n=>obtain⟨o,_,_,_,e,_⟩:=x;exact aAg e
 |ins C b fs=>obtain⟨_,_,_,e,_⟩:=x;exact aAg e
 |own y=>obtain⟨_,e⟩:=x;exact aAg e
 |xd fs=>obtain⟨_,⟨_,_,_,e,_⟩,_⟩:=x;exact aAg e
 |rng lo c=>obtain⟨_,_,_,e⟩:=x;exact aAg e
 |frz d u=>obtain⟨e,_⟩:=x;exact aAg e
 |tbl g=>obtain⟨_,e,_⟩:=x;exact aAg e
 |met f y=>exact aAg (show h.get? a=some _ from x)
 |ext φ=>obtain⟨_,⟨_,e⟩,_⟩:=x;exact aAg e
theorem Paired.af6 {α β:Type}{F G:α->β->Prop}:∀{l₁:List α} {l₂:List β},Paired F l₁ l₂->(∀a b,F a b->G a b)->Paired G l₁ l₂
 |_,_,.nil,_=>.nil
 |_,_,.cons r t,f=>.cons (f _ _ r) (Paired.af6 t f)
def ObjOk.ab7 (x:ObjOk P w H h a o)(k:∀b u,(b=a\/H b=some (.own a))->h.get? b=some u->h'.get? b=some u)
  (N:∀b,H b=some (.own a)->H' b=some (.own a)) (J:∀b u,WQ u->H b=some u->H' b=some u):ObjOk P w H' h' a o:=by
 induction o with
 |lst Y=>obtain⟨z,s,n,r,e⟩:=x;exact⟨z,s,n,r,k _ _ (.inl rfl) e⟩
 |tup Y=>obtain⟨z,s,r,g,e,c⟩:=x;exact⟨z,s,r,g,k _ _ (.inl rfl) e,c⟩
 |dK U=>obtain⟨z,y,A,r,g,l,m,e,c⟩:=x;exact⟨z,y,A,r,g,l,m,k _ _ (.inl rfl) e,c⟩
 |dT U=>obtain⟨z,y,Y,r,g,l,m,e,c⟩:=x;exact⟨z,y,Y,Paired.af6 r λp q z=>⟨z.1,J _ _ trivial z.2.1,z.2.2⟩,g,l,m,k _ _ (.inl rfl) e,c⟩
 |set S n=>obtain⟨g,l,m,t,e,c⟩:=x;exact⟨g,l,m,t,k _ _ (.inl rfl) e,c⟩
 |ins C dx fs=>obtain⟨d,z,ne,e,B,⟨E,l,m,I,c⟩,r⟩:=x;exact⟨N _ d,z,ne,k _ _ (.inl rfl) e,B,⟨E,l,m,k _ _ (.inr d) I,c⟩,r⟩
 |own y=>obtain⟨g,e⟩:=x;exact⟨g,k _ _ (.inl rfl) e⟩
 |xd fs=>obtain⟨B,⟨E,l,m,e,c⟩,r⟩:=x;exact⟨B,⟨E,l,m,k _ _ (.inl rfl) e,c⟩,r⟩
 |rng lo hi=>obtain⟨t,u,v,e⟩:=x;exact⟨t,u,v,k _ _ (.inl rfl) e⟩
 |frz g u O=>obtain⟨e,q⟩:=x;exact⟨k _ _ (.inl rfl) e,O q⟩
 |tbl tb=>obtain⟨Q,e,t,f⟩:=x;exact⟨Q,k a _ (.inl rfl) e,t,λp T=>(f p T).imp id λ⟨c,oc,A,t,e1,I,L⟩=>⟨c,oc,A,t,e1,J _ _ ⟨A,L.1⟩ I,L⟩⟩
 |met f y=>have e:h.get? a=some (PySem.W.methodObj (.ref f)<|.ref y):=x;show h'.get? a=some (PySem.W.methodObj (.ref f)<|.ref y);exact k a _ (.inl rfl) e
 |ext φ=>obtain⟨p,⟨o,e⟩,st⟩:=x;exact⟨st _ _ p λo q=>k _ _ (.inl rfl) q,⟨o,k _ _ (.inl rfl) e⟩,st⟩
def gN.lt (x:gN P w H h)(e:H a=some o):a<h.objs.size:=(x a o e).lt
def gN.fresh (x:gN P w H h)(e:h.objs.size<=a):H a=none:=by
 cases q:H a with
 |none=>rfl
 |some u=>exact absurd (aAu (x.lt q) e) (aBg _)
def gN.kept (x:gN P w H h)(k:∀b u,h.get? b=some u->h'.get? b=some u):gN P w H h':=λa o e=>(x a o e).ab7 (λb u _ q=>k b u q) (λ_ q=>q) λ_ _ _ q=>q
def gN.laid (x:gN P w H h)(k:∀b u,h.get? b=some u->h'.get? b=some u)(l:h.objs.size<=a)(d:ObjOk P w (upd H a o) h' a o):gN P w (upd H a o) h':=λb u e=>by
 have f:=x.fresh l;by_cases g:b=a
 .subst g;rw[j3]at e;cases e;exact d
 .rw[k8 g]at e;exact(x b u e).ab7 (λc v _ q=>k c v q) (λc q=>by rw[k8 (t9 q f)];exact q) λc Y _ q=>by rw[k8 (t9 q f)];exact q
end
def Rd (H:Hp)(a:bb)(u:HO):Prop:=H a=some u\/∃o,H a=some (.frz o u)
def Rd.ok (r:Rd H a u)(x:gN P w H h):ObjOk P w H h a u:=by
 rcases r with r|⟨o,r⟩
 .exact x a u r
 .obtain⟨_,q⟩:=x a _ r;exact q
def Mut:Option HO->Prop
 |some (.lst _)=>True
 |some (.dK _)=>True
 |some (.dT _)=>True
 |some (.set _ _)=>True
 |some (.ins _ _ _)=>True
 |some (.ext _)=>True
 |_=>False
section
variable{P:bt} {w:cq} {H:Hp} {h h':cv} {x e:bb} {o':HO}
def gN.write (ok:gN P w H h)(g:Mut (H x))(s:e=x\/H e=some (.own x))(k:∀b u,b≠e->h.get? b=some u->h'.get? b=some u)(o:∃u,h'.get? e=some u)
  (p:ObjOk P w (upd H x o') h' x o'):gN P w (upd H x o') h':=λb u q=>by
 have a:∀c y,H c=some (.own y)->c≠x:=λc y r z=>by subst z;rw[r]at g;exact g
 have d:∀c u,WQ u->H c=some u->c≠x:=λc u f r z=>by subst z;rw[r]at g;cases u<;>first|exact g|exact f
 by_cases l:b=x
 .subst l;rw[j3]at q;cases q;exact p
 .rw[k8 l]at q;by_cases m:b=e
  .have t:H b=some (.own x):=by
    rcases s with z|z
    .exact absurd (m.trans z) l
    .rw[m];exact z
   rw[q]at t;cases t;obtain⟨v,A⟩:=o;exact⟨v,by rw[m];exact A⟩
  .refine(ok b u q).ab7 (λc v n r=>k c v ?_ r) (λc r=>by rw[k8 (a c b r)];exact r) λc Y f r=>by rw[k8 (d c Y f r)];exact r
   rcases n with rfl|n
   .exact m
   .rintro rfl;rcases s with z|z
    .exact a c b n z
    .rw[n]at z;cases z;exact l rfl
end
structure Un (fs ex:List Addr)(H H':Hp)(h h':Heap):Prop where
 keep:∀b o,h.get? b=some o->H b=none->b∉fs->b∉ex->h'.get? b=some o
 slot:∀b o,h.get? b=some o->H b=none->b∈fs->b∉ex->∃sl,h'.get? b=some {o with slots:=sl}
 free:∀b o,h.get? b=some o->H b=none->b∉ex->H' b=none
 there:∀b o,h.get? b=some o->b∉ex->∃o',h'.get? b=some o'
 tups:∀b Y,H b=some (.tup Y)->H' b=some (.tup Y)
 frzs:∀b o u,H b=some (.frz o u)->H' b=some (.frz o u)
 tbls:∀b tb,H b=some (.tbl tb)->H' b=some (.tbl tb)
section
variable{fs xp ex ex':List bb} {H H1 H2:Hp} {h h1 h2 h':cv} {a x e:bb} {o:HO}
def Un.any (u:Un fs ex H H1 h h1)(q:h.get? b=some c)(n:H b=none)(d:b∉ex):∃sl,h1.get? b=some {c with slots:=sl}:=by
 by_cases f:b∈fs
 .exact u.slot b c q n f d
 .exact⟨c.slots,u.keep b c q n f d⟩
def Un.kept (k:∀b u,h.get? b=some u->h'.get? b=some u):Un fs ex H H h h':=
 ⟨λb c q _ _ _=>k b c q,λb c q _ _ _=>⟨c.slots,k b c q⟩,λ_ _ _ n _=>n,λb c q _=>⟨c,k b c q⟩,λ_ _ q=>q,λ_ _ _ q=>q,λ_ _ q=>q⟩
def Un.refl:Un fs ex H H h h:=Un.kept λ_ _ q=>q
def Un.laid (k:∀b u,h.get? b=some u->h'.get? b=some u)(d:h.objs.size<=a)(c:H a=none):Un fs ex H (upd H a o) h h' where
 keep:=λb u q _ _ _=>k b u q
 slot:=λb u q _ _ _=>⟨u.slots,k b u q⟩
 free:=λb u q n _=>by rw[k8 (aAl<|aAu (aAg q) d)];exact n
 there:=λb u q _=>⟨u,k b u q⟩
 tups:=λb Y q=>by rw[k8 (t9 q c)];exact q
 frzs:=λb u Y q=>by rw[k8 (t9 q c)];exact q
 tbls:=λb f q=>by rw[k8 (t9 q c)];exact q
def Un.write (c:Mut (H x))(p:e=x\/H e=some (.own x))(k:∀b u,b≠e->h.get? b=some u->h'.get? b=some u)(d:∃u,h'.get? e=some u):Un fs ex H (upd H x o) h h':=by
 have g:∀b,H b=none->b≠x:=λb n z=>by subst z;rw[n]at c;exact c
 have l:∀b,H b=none->b≠e:=λb n z=>by
  subst z;rcases p with r|r
  .exact g b n r
  .rw[n]at r;cases r
 have f:∀b u,H b=some u->¬Mut (some u)->b≠x:=λb u q s z=>by subst z;rw[q]at c;exact s c
 refine⟨λb u q n _ _=>k b u (l b n) q,λb u q n _ _=>⟨u.slots,k b u (l b n) q⟩,λb u q n _=>by rw[k8 (g b n)];exact n,λb u q _=>?_,
  λb Y q=>by rw[k8 (f b _ q λz=>z)];exact q,λb u Y q=>by rw[k8 (f b _ q λz=>z)];exact q,λb t q=>by rw[k8 (f b _ q λz=>z)];exact q⟩
 by_cases m:b=e
 .subst m;exact d
 .exact⟨u,k b u m q⟩
end
def trk (h:cv)(H:Hp):List bb:=(aBw h.objs.size).filter λa=>(H a).isSome
def rY (h:cv)(H:Hp):cv:=PySem.W.hideAll h (trk h H)
def JW (h:cv)(H:Hp):(rY h H).objs.size=h.objs.size:=PySem.W.hideAll_size _ _
def QB (e:h.get? b=some o)(n:H b=none):(rY h H).get? b=some o:=
 PySem.W.hideAll_get _ e λa=>by have q:(H b).isSome=true:=(aBX.mp a).2;rw[n]at q;simp at q
def VS (e:(rY h H).get? b=some o):h.get? b=some o/\H b=none:=by
 have a:h.get? b=some o:=PySem.W.of_hideAll (trk h H) e;refine⟨a,?_⟩;cases q:H b with
 |none=>rfl
 |some x=>have c:b∈trk h H:=aBX.mpr ⟨aCB.mpr (aAg a),by simp[q]⟩;have z:(rY h H).get? b=none:=PySem.W.hideAll_none (trk h H) c;rw[z]at e;cases e
def UT (g h:cv)(L:bb):List (bb×Obj):=(aBw h.objs.size).filterMap λa=>if a=L\/(g.get? a).isSome=true then none else(h.get? a).map λo=>(a,o)
def rest (g h:cv)(L d:bb):List (bb×Obj):=(UT g h L).filter λp=>decide (p.1≠d)
structure Mod (K:PySem.W.Frag)(mg:dG)(base:Heap):Prop where
 kin:K.In base
 glob:base.Ns mainGlobals mg
 blt:∃mb,base.Ns builtinsNs mb/\∀x:Str,x≠ "__name__"->mb x=bootBuiltins x
 nolimit:base.NoLimit
structure Cx where
 prog:Program
 w:World
 K:PySem.W.Frag
 mg:Str->Option Value
 base:Heap
 A:Around
 N:List Str
 s9:Shared
 H9:Hp
 env:Env
 outer:List Env
 stack:List Env
 ex:List Addr
 fn:Str->Bool
 calm:Bool
 pn:List (Addr×Obj)
 xe:Value->Shared->Prop
def AL (l:List Env):List bb:=l.filterMap (·.frame)
abbrev Cx.fs (X:Cx):List bb:=AL X.outer
def BC (sc:i6)(x:Str):Prop:=sc.names.lookup x=some .local\/sc.names.lookup x=some .cell\/sc.names.lookup x=some .free
def Loc (sc:i6)(x:Str):Prop:=sc.names.lookup x=some .local\/sc.names.lookup x=some .cell
def Look (env:Env)(h:cv)(m:dG)(x:Str)(u:ai):Prop:=
 (env.kindOf x=some .local/\m x=some u)\/((env.kindOf x=some .cell\/env.kindOf x=some .free)/\∃c,env.cells.lookup x=some c/\h.IsCell c (some u))
structure Cx.Ok (X:Cx):Prop where
 mod:Mod X.K X.mg X.base
 kind:X.env.scope.kind=.function
 glob:X.env.globals=mainGlobals
 blt:X.env.builtins=builtinsNs
 above:X.s9.heap.objs.size<=X.env.locals
 inj:∀x y c,X.env.cells.lookup x=some c->X.env.cells.lookup y=some c->x=y
 has:∀x,(X.env.kindOf x=some .cell\/X.env.kindOf x=some .free)->∃c,X.env.cells.lookup x=some c
 cab:∀x c,X.fn x=true->X.env.cells.lookup x=some c->X.s9.heap.objs.size<=c
 hd:X.calm=true->X.A.handled=none
 frames:X.A.frames=some X.stack
 stk:X.stack=X.outer\/(X.stack=X.env::X.outer/\X.env.frame=some X.env.locals)
 exf:∀b∈X.ex,b≠X.env.locals/\∀x c,X.env.cells.lookup x=some c->c≠b
 bs:∀b o,X.base.get? b=some o->X.s9.heap.get? b=some o/\X.H9 b=none
 bsz:X.base.objs.size<=X.s9.heap.objs.size
 noex:∀b o,X.base.get? b=some o->b∉X.ex
 exfs:∀b∈X.ex,b∉X.fs
 funs:X.s9.heap.FunFrames X.base X.outer
 frf:∀b∈X.fs,X.H9 b=none
structure Inv (X:Cx)(pins:O5)(σ:List (Option V))(H:Hp)(s:Shared):Prop where
 ok:X.Ok
 os:s.os=X.s9.os
 bare:AllBare s.gens
 base:Un X.fs X.ex X.H9 H X.s9.heap s.heap
 loc:∃m,s.heap.Ns X.env.locals m/\∀(i:Nat) (x:Str) (v:V),X.N[i]?=some x->σ[i]?=some (some v)->BC X.env.scope x->∃u,RelV v u/\Look X.env s.heap m x u
 cell:∀x c,X.env.cells.lookup x=some c->∃v,s.heap.IsCell c v
 free:H X.env.locals=none
 freeC:∀x c,X.env.cells.lookup x=some c->H c=none
 pin:∀p∈X.pn++pins,s.heap.get? p.1=some p.2/\H p.1=none/\p.1≠X.env.locals/\p.1∉X.fs/\∀v,p.2.data≠.cell v
 hok:gN X.prog X.w H s.heap
 len:σ.length=X.N.length
section
variable{X:Cx} {pins:O5} {σ:List (Option V)} {H H':Hp} {s:a9} {h':cv}
def Cx.Ok.nofr (ok:X.Ok)(e:X.base.get? b=some o):b∉X.fs:=λa=>by have:=(ok.funs.mem a).1;rw[e]at this;cases this
def Inv.bs (I:Inv X pins σ H s):∀b o,X.base.get? b=some o->s.heap.get? b=some o/\H b=none:=λb o e=>⟨I.base.keep b o (I.ok.bs b o e).1 (I.ok.bs b o e).2 (I.ok.nofr e) (I.ok.noex b o e),I.base.free b o (I.ok.bs b o e).1 (I.ok.bs b o e).2 (I.ok.noex b o e)⟩
def Inv.bk (I:Inv X pins σ H s):∀b o,X.base.get? b=some o->s.heap.get? b=some o:=λb o e=>(I.bs b o e).1
def Inv.mod (I:Inv X pins σ H s):Mod X.K X.mg X.base:=I.ok.mod
def Inv.kIn (I:Inv X pins σ H s):X.K.In s.heap:=I.ok.mod.kin.keeps I.bk
def Inv.lt (I:Inv X pins σ H s):X.env.locals<s.heap.objs.size:=let⟨_,a,_⟩:=I.loc;a.lt
def Inv.sz (I:Inv X pins σ H s):X.s9.heap.objs.size<=s.heap.objs.size:=aAr I.ok.above (aDu I.lt)
def Inv.ag3 (I:Inv X pins σ H s)(h:s.heap.objs.size<=a):a∉X.fs:=λb=>by obtain⟨_,o,c,_⟩:=I.ok.funs.mem b;exact absurd (aAu (aAg c)<|aAr I.sz h) (aBg _)
def Inv.cne (I:Inv X pins σ H s):∀x c,X.env.cells.lookup x=some c->c≠X.env.locals:=λx c e z=>by obtain⟨v,o,a,b⟩:=I.cell x c e;obtain⟨m,⟨g,h,k,d,f,_⟩,_⟩:=I.loc;rw[z,d]at a;cases a;rw[f]at b;cases b
def Inv.funs (I:Inv X pins σ H s):s.heap.FunFrames X.base X.outer:=by
 have all:∀(l:List Env),(∀b∈AL l,b∈X.fs)->X.s9.heap.FunFrames X.base l->s.heap.FunFrames X.base l:=by
  intro l;induction l with
  |nil=>intro _ _;trivial
  |cons g r h=>intro f k;obtain⟨m,⟨L,o,a,n,p,q⟩,t⟩:=k;have c:L∈X.fs:=f L (by unfold AL;rw[aCH,a];exact aBa);obtain⟨u,e⟩:=I.base.slot L o p (I.ok.frf L c) c λz=>I.ok.exfs L z c;exact⟨m,⟨L,_,a,n,e,q⟩,h (λb d=>f b (by unfold AL;rw[aCH,a];exact aAe _ d)) t⟩
 exact all X.outer (λ_ d=>d) I.ok.funs
def Inv.stack (I:Inv X pins σ H s):s.heap.FunFrames X.base X.stack:=by
 rcases I.ok.stk with e|⟨e,a⟩
 .rw[e];exact I.funs
 .rw[e];obtain⟨m,b,_⟩:=I.loc;refine .cons (by rw[I.ok.kind];decide) a b ?_ I.funs;exact aEu (aAr I.ok.bsz I.ok.above)
def Inv.ab3 (I:Inv X pins σ H s):∀b∈AL X.stack,b∈X.env.locals::X.fs:=λb a=>by
 rcases I.ok.stk with e|⟨e,c⟩
 .rw[e]at a;exact aAe _ a
 .rw[e]at a;unfold AL at a;rw[aCH,c]at a;exact a
def Inv.ad6 (I:Inv X pins σ H s):∀b∈AL X.stack,H b=none:=λb a=>by
 rcases aAd.mp (I.ab3 b a)with e|a
 .rw[e];exact I.free
 .obtain⟨_,o,c,_⟩:=I.ok.funs.mem a;exact I.base.free b o c (I.ok.frf b a) λz=>I.ok.exfs b z a
def Inv.step {g':Array GenState}{t':Nat}{d':Drawn}{ch:List bb}(I:Inv X pins σ H s)
  (J:∀b∈ch,(b∈X.ex\/X.s9.heap.objs.size<=b)/\b≠X.env.locals/\(∀x c,X.env.cells.lookup x=some c->c≠b)/\∀p∈X.pn++pins,p.1≠b)
  (g:∀b o,b≠X.env.locals->b∉X.fs->b∉ch->s.heap.get? b=some o->H b=none->h'.get? b=some o)
  (slot:∀b o,b≠X.env.locals->b∈X.fs->b∉ch->s.heap.get? b=some o->H b=none->∃sl,h'.get? b=some {o with slots:=sl}) (f:∀b o,b∉ch->s.heap.get? b=some o->H b=none->H' b=none)
  (A:∀b o,b∉ch->s.heap.get? b=some o->∃L,h'.get? b=some L)
  (N:∀b Y,H b=some (.tup Y)->H' b=some (.tup Y)) (O:∀b o u,H b=some (.frz o u)->H' b=some (.frz o u)) (Q:∀b tb,H b=some (.tbl tb)->H' b=some (.tbl tb))
  (ns:∀m,s.heap.Ns X.env.locals m->h'.Ns X.env.locals m) (U:gN X.prog X.w H' h') (hg:AllBare g'):
  Inv X pins σ H' {s with heap:=h',gens:=g',drawn:=d',toks:=t'}:=by
 have T:∀b o,X.s9.heap.get? b=some o->b≠X.env.locals:=λb o e=>aAl (aAu (aAg e) I.ok.above);have y:∀b o,X.s9.heap.get? b=some o->b∉X.ex->b∉ch:=λb o e a B=>by
  rcases(J b B).1 with z|z
  .exact a z
  .exact absurd (aAu (aAg e) z) (aBg _)
 have h:∀x c,X.env.cells.lookup x=some c->∀v,s.heap.IsCell c v->h'.IsCell c v:=λx c e v ⟨o,E,hd⟩=>by
  have t:c∉ch:=λz=>(J c z).2.2.1 x c e rfl;by_cases hc:c∈X.fs
  .obtain⟨sl,q⟩:=slot c o (I.cne x c e) hc t E (I.freeC x c e);exact⟨_,q,hd⟩
  .exact⟨o,g c o (I.cne x c e) hc t E (I.freeC x c e),hd⟩
 refine⟨I.ok,I.os,hg,⟨λb o e n B a=>?_,λb o e n B a=>?_,λb o e n a=>?_,λb o e a=>?_,λb Y e=>N b Y (I.base.tups b Y e),λb o Y e=>O b o Y (I.base.frzs b o Y e),λb ps e=>?_⟩,?_,λx c e=>?_,?_,λx c e=>?_,λp hp=>?_,U,I.len⟩
 .exact g b o (T b o e) B (y b o e a) (I.base.keep b o e n B a) (I.base.free b o e n a)
 .obtain⟨sl,C⟩:=I.base.slot b o e n B a;obtain⟨sl',e2⟩:=slot b _ (T b o e) B (y b o e a) C (I.base.free b o e n a);exact⟨sl',e2⟩
 .obtain⟨L,C⟩:=I.base.there b o e a;exact f b L (y b o e a) C (I.base.free b o e n a)
 .obtain⟨L,C⟩:=I.base.there b o e a;exact A b L (y b o e a) C
 .exact Q b ps (I.base.tbls b ps e)
 .obtain⟨m,hn,hl⟩:=I.loc;refine⟨m,ns m hn,λi x v C e2 e3=>?_⟩;obtain⟨u,r,l⟩:=hl i x v C e2 e3;refine⟨u,r,?_⟩;rcases l with l|⟨k,c,e,z⟩
  .exact .inl l
  .exact .inr ⟨k,c,e,h x c e _ z⟩
 .obtain⟨v,z⟩:=I.cell x c e;exact⟨v,h x c e v z⟩
 .obtain⟨m,⟨o,_,_,E,_⟩,_⟩:=I.loc;exact f _ o (λz=>(J _ z).2.1 rfl) E I.free
 .obtain⟨v,o,E,hd⟩:=I.cell x c e;exact f c o (λz=>(J c z).2.2.1 x c e rfl) E (I.freeC x c e)
 .obtain⟨e,n,ne,nf,d⟩:=I.pin p hp;have t:p.1∉ch:=λz=>(J p.1 z).2.2.2 p hp rfl;exact⟨g p.1 p.2 ne nf t e n,f p.1 p.2 t e n,ne,nf,d⟩
def Inv.un {t':Nat}(I:Inv X pins σ H s)(u:Un X.fs [] H H' s.heap h')(a:gN X.prog X.w H' h'):Inv X pins σ H' {s with heap:=h',toks:=t'}:=by
 obtain⟨m,⟨o,q,t,g,r⟩,_⟩:=id I.loc;obtain⟨v,k⟩:=u.any g I.free (by simp);exact I.step (g':=s.gens) (d':=s.drawn) (ch:=[]) (λ_ z=>nomatch z) (λb o _ c _ e n=>u.keep b o e n c (by simp)) (λb o _ c _ e n=>u.slot b o e n c (by simp)) (λb o _ e n=>u.free b o e n (by simp)) (λb o _ e=>u.there b o e (by simp)) u.tups u.frzs u.tbls (λx l=>by obtain⟨y,d,f,h,p⟩:=l;rw[g]at h;cases h;exact⟨_,d,f,k,p⟩) a I.bare
def Inv.call {g':Array GenState}{t':Nat}{d':Drawn}{ch:List bb}(I:Inv X pins σ H s)(u:Un (AL X.stack) ch H H' s.heap h')(d:gN X.prog X.w H' h')(t:AllBare g')
  (k:∀b∈ch,(b∈X.ex\/X.s9.heap.objs.size<=b)/\b≠X.env.locals/\(∀x c,X.env.cells.lookup x=some c->c≠b)/\∀p∈X.pn++pins,p.1≠b):
  Inv X pins σ H' {s with heap:=h',gens:=g',drawn:=d',toks:=t'}:=by
 obtain⟨m,⟨o,B,C,l,r⟩,_⟩:=id I.loc;obtain⟨E,f⟩:=u.any l I.free λz=>(k _ z).2.1 rfl;exact I.step (ch:=ch) k (λb o f v a e n=>u.keep b o e n (λz=>(aAd.mp<|I.ab3 b z).elim f v) a) (λb o _ _ a e n=>u.any e n a) (λb o a e n=>u.free b o e n a) (λb o a e=>u.there b o e a) u.tups u.frzs u.tbls (λJ y=>by obtain⟨L,g,h,q,A⟩:=y;rw[l]at q;cases q;exact⟨_,g,h,f,A⟩) d t
def Inv.turned {t':Nat}{it:bb}(I:Inv X pins σ H s)(k:∀b o,b≠it->s.heap.get? b=some o->h'.get? b=some o)(g:H it=none)(f:it≠X.env.locals)
  (h:it∈X.ex\/X.s9.heap.objs.size<=it) (l:∀x c,X.env.cells.lookup x=some c->c≠it) (t:∀p∈X.pn++pins,p.1≠it):Inv X pins σ H {s with heap:=h',toks:=t'}:=by
 have d:∀b u,H b=some u->b≠it:=λb u e z=>by rw[z,g]at e;cases e
 refine I.step (g':=s.gens) (d':=s.drawn) (ch:=[it]) (λb w=>?_) (λb o _ _ a e _=>k b o (λz=>a (by simp[z])) e) (λb o _ _ a e _=>⟨o.slots,k b o (λz=>a (by simp[z])) e⟩) (λ_ _ _ _ n=>n)
  (λb o a e=>⟨o,k b o (λz=>a (by simp[z])) e⟩) (λ_ _ e=>e) (λ_ _ _ e=>e) (λ_ _ e=>e) (λm y=>?_) (λb u e=>?_) I.bare
 .have e:b=it:=by simpa using w
  subst e;exact⟨h,f,l,t⟩
 .obtain⟨o,A,B,C,r⟩:=y;exact⟨o,A,B,k _ o (aCg f) C,r⟩
 .refine(I.hok b u e).ab7 (λc v a q=>k c v ?_ q) (λ_ q=>q) λ_ _ _ q=>q;rcases a with z|z
  .rw[z];exact d b u e
  .exact d c _ z
def Inv.tok (I:Inv X pins σ H s)(t:Nat):Inv X pins σ H {s with toks:=t}:=I.un (h':=s.heap) (t':=t) Un.refl I.hok
def Inv.kept (I:Inv X pins σ H s)(k:∀b u,s.heap.get? b=some u->h'.get? b=some u):Inv X pins σ H {s with heap:=h',toks:=t'}:=I.un (Un.kept k) (I.hok.kept k)
def Inv.laid (I:Inv X pins σ H s)(k:∀b u,s.heap.get? b=some u->h'.get? b=some u)(c:s.heap.objs.size<=a)(d:ObjOk X.prog X.w (upd H a o) h' a o):
 Inv X pins σ (upd H a o) {s with heap:=h',toks:=t'}:=I.un (Un.laid k c<|I.hok.fresh c) (I.hok.laid k c d)
def Inv.write (I:Inv X pins σ H s)(d:Mut (H x))(f:e=x\/H e=some (.own x))(k:∀b u,b≠e->s.heap.get? b=some u->h'.get? b=some u)(a:∃u,h'.get? e=some u)(c:ObjOk X.prog X.w (upd H x o) h' x o):Inv X pins σ (upd H x o) {s with heap:=h',toks:=t'}:=I.un (Un.write d f k a) (I.hok.write d f k a c)
def Inv.ad5 (I:Inv X pins σ H s)(h:∀p∈a,s.heap.get? p.1=some p.2/\H p.1=none/\p.1≠X.env.locals/\p.1∉X.fs/\∀v,p.2.data≠.cell v):Inv X a σ H s:=
 ⟨I.ok,I.os,I.bare,I.base,I.loc,I.cell,I.free,I.freeC,λp b=>(aAN.mp b).elim (λz=>I.pin p (aBH _ z)) (h p),I.hok,I.len⟩
def BD {N:List Str}(c:N.Nodup){i j:Nat}{x:Str}(a:N[i]?=some x)(b:N[j]?=some x):i=j:=by obtain⟨f,d⟩:=aAx.mp a;obtain⟨g,e⟩:=aAx.mp b;exact(List.getElem_inj c).mp (d.trans e.symm)
def tR {M:Model}{A:cp}{E:E8}{i:Nat}{x:Str}{v:V}{u:ai}{Q:Unit->a9->Prop}(I:Inv X pins σ H s)(hN:X.N.Nodup)(U:X.N[i]?=some x)(B:Loc X.env.scope x)(r:RelV v u)
  (h:∀s',Inv X pins (σ.set i (some v)) H s'->(∃a,Heap.SameBut a s.heap s'.heap/\(a=X.env.locals\/X.env.cells.lookup x=some a))->Q () s') (hf:X.fn x=true\/X.env.scope.names.lookup x=some .local:=by first|exact .inl rfl|exact .inr rfl|assumption):a5 M A (storeName X.env x u) Q E s:=by
 obtain⟨m,hn,hl⟩:=id I.loc;have Y:(X.env.scope.kind==.class||(X.env.scope.kind==.module&&X.env.locals !=X.env.globals))=false:=by rw[I.ok.kind];rfl
 have J:i<σ.length:=by rw[I.len];exact(aAx.mp U).1
 have cne:=I.cne;have g:∀{a:bb} {h':cv},(∃o,s.heap.get? a=some o/\H a=none)->Heap.SameBut a s.heap h'->gN X.prog X.w H h':=λ{a h'} ha f b ob e=>by
  obtain⟨_,_,jo⟩:=ha;refine(I.hok b ob e).ab7 (λc w' t q=>(f.2 c ?_).trans q) (λ_ q=>q) λ_ _ _ q=>q;rintro rfl;rcases t with rfl|t
  .rw[jo]at e;cases e
  .rw[jo]at t;cases t
 rcases B with L|L
 .refine wpAny_storeName_local L hn (λh' hn' f=>?_) Y;obtain⟨oL,_,_,hoL,_⟩:=id hn;refine h _ ⟨I.ok,I.os,I.bare,⟨λb o e n O B=>?_,λb o e n O B=>?_,I.base.free,λb o e B=>?_,I.base.tups,I.base.frzs,I.base.tbls⟩,⟨_,hn',λj y v' l C e3=>?_⟩,λy c e=>?_,I.free,I.freeC,λp hp=>?_,g ⟨oL,hoL,I.free⟩ f,by simpa using I.len⟩ ⟨_,f,.inl rfl⟩
  .exact(f.2 b (aAl<|aAu (aAg e) I.ok.above)).trans (I.base.keep b o e n O B)
  .obtain⟨sl,l⟩:=I.base.slot b o e n O B;exact⟨sl,(f.2 b (aAl<|aAu (aAg e) I.ok.above)).trans l⟩
  .obtain⟨o',l⟩:=I.base.there b o e B;exact⟨o',(f.2 b (aAl<|aAu (aAg e) I.ok.above)).trans l⟩
  .by_cases T:j=i
   .subst T;rw[U]at l;cases l;rw[aBB J]at C;cases C;exact⟨u,r,.inl ⟨L,by simp⟩⟩
   .rw[aCV (aCg T)]at C;obtain⟨u',r',q⟩:=hl j y v' l C e3;refine⟨u',r',?_⟩;rcases q with⟨k,e⟩|⟨k,c,e,z⟩
    .refine .inl ⟨k,?_⟩;have:y≠x:=λe=>T (BD hN l<|e▸U);simp[this,e]
    .exact .inr ⟨k,c,e,z.sameBut f (cne y c e)⟩
  .obtain⟨w',z⟩:=I.cell y c e;exact⟨w',z.sameBut f (cne y c e)⟩
  .obtain⟨e,n,ne,nf,d⟩:=I.pin p hp;exact⟨(f.2 p.1 ne).trans e,n,ne,nf,d⟩
 .have xt:X.fn x=true:=by
   rcases hf with z|z
   .exact z
   .rw[z]at L;cases L
  obtain⟨c,t⟩:=I.ok.has x (.inl L);obtain⟨w',z⟩:=I.cell x c t;refine wpAny_storeName_cell I.ok.kind L t z (λh' xu f=>?_);obtain⟨oc,dg,hocd⟩:=id z;refine h {s with heap:=h'} ⟨I.ok,I.os,I.bare,⟨λb o e n O B=>?_,λb o e n O B=>?_,I.base.free,λb o e B=>?_,I.base.tups,I.base.frzs,I.base.tbls⟩,⟨m,hn.sameBut f (aCg<|cne x c t),λj y v' l C e3=>?_⟩,λy c' e=>?_,I.free,I.freeC,λp hp=>?_,g ⟨oc,dg,I.freeC x c t⟩ f,by simpa using I.len⟩ ⟨c,f,.inr t⟩
  .exact(f.2 b (aAl<|aAu (aAg e)<|I.ok.cab x c xt t)).trans (I.base.keep b o e n O B)
  .obtain⟨sl,l⟩:=I.base.slot b o e n O B;exact⟨sl,(f.2 b (aAl<|aAu (aAg e)<|I.ok.cab x c xt t)).trans l⟩
  .obtain⟨o',l⟩:=I.base.there b o e B;exact⟨o',(f.2 b (aAl<|aAu (aAg e)<|I.ok.cab x c xt t)).trans l⟩
  .by_cases T:j=i
   .subst T;rw[U]at l;cases l;rw[aBB J]at C;cases C;exact⟨u,r,.inr ⟨.inl L,c,t,xu⟩⟩
   .rw[aCV (aCg T)]at C;obtain⟨u',r',q⟩:=hl j y v' l C e3;refine⟨u',r',?_⟩;rcases q with q|⟨k,c',e,z'⟩
    .exact .inl q
    .refine .inr ⟨k,c',e,z'.sameBut f ?_⟩;rintro rfl;exact T (BD hN l<|I.ok.inj _ _ _ e t▸U)
  .by_cases hcc:c'=c
   .subst hcc;exact⟨_,xu⟩
   .obtain⟨w2,z2⟩:=I.cell y c' e;exact⟨w2,z2.sameBut f hcc⟩
  .obtain⟨e,n,ne,nf,d⟩:=I.pin p hp;refine⟨(f.2 p.1 ?_).trans e,n,ne,nf,d⟩;intro q;rw[q,dg]at e;have q':oc=p.2:=aAk e;exact d w' (by rw[<-q'];exact hocd)
def R4 {E:E8}{Q:Unit->a9->Prop}(I:Inv X pins σ H s)(a:X.N.Nodup)(b:X.N[i]?=some x)(c:Loc X.env.scope x)(r:RelV v u)(h:∀s',Inv X pins (σ.set i (some v)) H s'->Q () s')(d:X.fn x=true\/X.env.scope.names.lookup x=some .local:=by first|exact .inl rfl|exact .inr rfl|assumption):a5 M A (storeName X.env x u) Q E s:=
 tR I a b c r (λs' e _=>h s' e) d
def Inv.ag0 (I:Inv X pins σ H s)(d:s'.os=s.os)(u:Un (AL X.stack) ch H H' s.heap s'.heap)(a:gN X.prog X.w H' s'.heap)(f:AllBare s'.gens)(g:∀b∈ch,(b∈X.ex\/X.s9.heap.objs.size<=b)/\b≠X.env.locals/\(∀x c,X.env.cells.lookup x=some c->c≠b)/\∀p∈X.pn++pins,p.1≠b):Inv X pins σ H' s':=by obtain⟨h',g',d',t',h⟩:=s';have e:h=s.os:=d;subst e;exact I.call (g':=g') (t':=t') (d':=d') u a f g
end
abbrev XK:=ai->Option bb->Hp->Prop
abbrev St:=List (Option V)
abbrev VK:=V->Hp->Prop
abbrev TE:=St->Hp->VK->Prop
abbrev TT:=St->Hp->(Bool->Hp->Prop)->Prop
abbrev TA:=St->Hp->(List V->Hp->Prop)->Prop
structure Ends where
 nx:St->Hp->Prop
 rt:VK
 bk:St->Hp->Prop:=λ_ _=>False
 ct:St->Hp->Prop:=λ_ _=>False
abbrev TS:=Ends->St->Hp->Prop
def EP (X:Cx)(a:O5)(σ:St)(Q:VK)(u:ai)(s':a9):Prop:=∃v b,Inv X a σ b s'/\RelV v u/\Q v b
def TP (X:Cx)(a:O5)(σ:St)(Q:Bool->Hp->Prop)(b:Bool)(s':a9):Prop:=∃c,Inv X a σ c s'/\Q b c
def AP (X:Cx)(a:O5)(σ:St)(Q:List V->Hp->Prop)(d:List ai)(s':a9):Prop:=∃b c,Inv X a σ c s'/\l6 b d/\Q b c
def SP (X:Cx)(a:O5)(D:Ends)(f:Flow)(s':a9):Prop:=
 match f with
 |.next=>∃c b,Inv X a c b s'/\D.nx c b
 |.brk=>∃c b,Inv X a c b s'/\D.bk c b
 |.cont=>∃c b,Inv X a c b s'/\D.ct c b
 |.ret u=>∃v c b,Inv X a c b s'/\RelV v u/\D.rt v b
def PE (X:Cx)(e:cy)(t:TE):Prop:=
 ∀(a:O5) (s:a9) (σ:St) (H:Hp) (Q:VK),Inv X a σ H s->t σ H Q->a5 (bc X.prog X.w) X.A (d3 e X.env) (EP X a σ Q) X.xe s
def PT (X:Cx)(e:cy)(t:TT):Prop:=
 ∀(a:O5) (s:a9) (σ:St) (H:Hp) (Q:Bool->Hp->Prop),Inv X a σ H s->t σ H Q->a5 (bc X.prog X.w) X.A (isTrue e X.env<|d3 e X.env) (TP X a σ Q) X.xe s
def PW (X:Cx)(e:cy)(t:TT):Prop:=
 ∀(b:Sem ai) (a:O5) (s:a9) (σ:St) (H:Hp) (Q:Bool->Hp->Prop),Inv X a σ H s->t σ H Q->a5 (bc X.prog X.w) X.A (isTrue e X.env b) (TP X a σ Q) X.xe s
def PW.pt (h:PW X e t):PT X e t:=h _
def PA (X:Cx)(es:List cy)(t:TA):Prop:=
 ∀(b:Pos) (a:O5) (s:a9) (σ:St) (H:Hp) (Q:List V->Hp->Prop),Inv X a σ H s->t σ H Q->a5 (bc X.prog X.w) X.A (spliced<|dq b<|av es X.env) (AP X a σ Q) X.xe s
def PS (X:Cx)(st:dm)(t:TS):Prop:=
 ∀(a:O5) (s:a9) (σ:St) (H:Hp) (D:Ends),Inv X a σ H s->t D σ H->a5 (bc X.prog X.w) X.A (exec st X.env) (SP X a D) X.xe s
def uW (X:Cx)(st:List dm)(t:TS):Prop:=
 ∀(a:O5) (s:a9) (σ:St) (H:Hp) (D:Ends),Inv X a σ H s->t D σ H->a5 (bc X.prog X.w) X.A (execs st X.env) (SP X a D) X.xe s
def E6 {α:Type}{t:Sem α}{Q b:α->a9->Prop}{M:Model}{A:cp}{E:E8}{s:a9}(h:a5 M A t Q E s)(c:∀a s,Q a s->b a s):a5 M A t b E s:=aCF h c λ_ _ x=>x
section
variable{X:Cx}
def mz (i:Nat):TE:=λσ H Q=>∃v,σ[i]?=some (some v)/\Q v H
def tC (v:V):TE:=λ_ H Q=>Q v H
def N0 (n:X.N[i]?=some x)(o:BC X.env.scope x)(f:(x==kd)=false:=by decide)(p:(x==ku)=false:=by decide):PE X (.Name x q) (mz i):=by
 intro d s σ H Q I h;obtain⟨v,e,h⟩:=h;obtain⟨m,t,w⟩:=I.loc;obtain⟨u,r,l⟩:=w i x v n e o;have a:EP X d σ Q u s:=⟨v,H,I,r,h⟩;rcases l with⟨b,y⟩|⟨b,c,g,k⟩
 .exact wpAny_Name (wpAny_loadName_local I.ok.kind b t y a) f
 .rcases b with b|b
  .exact wpAny_Name (wpAny_loadName_cell I.ok.kind b g k a) f
  .exact wpAny_Name (wpAny_loadName_free I.ok.kind b g k a p) f
def YG {i j a}:PE X (.Constant (.int i) j a) (tC (.int i)):=λ_ _ _ H _ I h=>wpAny_Constant_int ⟨.int i,H,I.tok _,⟨_,rfl⟩,h⟩
def a0i {b j a}:PE X (.Constant (.bool b) j a) (tC (.bl b)):=λ_ _ _ H _ I h=>Constant_bool ⟨.bl b,H,I,rfl,h⟩
def ZS {j a}:PE X (.Constant .none j a) (tC .non):=λ_ _ _ H _ I h=>Constant_none ⟨.non,H,I,rfl,h⟩
def Gl (X:Cx)(x:Str):Prop:=X.env.kindOf x=some .globalImplicit
def vS {E:E8}{Q:E8}(I:Inv X a σ H s)(b:Gl X x)(c:X.mg x=some u)(h:Q u s)(d:(x==kd)=false:=by decide):a5 (bc X.prog X.w) X.A (d3 (.Name x e) X.env) Q E s:=
 Calls.Name_function_global I.ok.kind b (Calls.loadGlobal_global (by rw[I.ok.glob];exact I.mod.glob.keeps I.bk) c h) d
def K8 {E:E8}{Q:E8}(I:Inv X a σ H s)(b:Gl X x)(c:X.mg x=none)(d:df x=some u)(h:Q u s)(e:x≠ "__name__":=by decide)(f:(x==kd)=false:=by decide):a5 (bc X.prog X.w) X.A (d3 (.Name x g) X.env) Q E s:=by obtain⟨m,k,l⟩:=I.mod.blt;exact Calls.Name_function_global I.ok.kind b (Calls.loadGlobal_builtin (by rw[I.ok.glob];exact I.mod.glob.keeps I.bk) c (by rw[I.ok.blt];exact k.keeps I.bk) ((l x e).trans d) h) f
def UH (a:Gl X x)(b:X.mg x=some u)(r:RelV v u)(c:(x==kd)=false:=by decide):PE X (.Name x d) (tC v):=
 λ_ _ _ H _ I h=>vS I a b ⟨v,H,I,r,h⟩ c
def VM (a:Gl X x)(b:X.mg x=none)(c:df x=some u)(r:RelV v u)(d:x≠ "__name__":=by decide)(e:(x==kd)=false:=by decide):PE X (.Name x f) (tC v):=
 λ_ _ _ H _ I h=>K8 I a b c ⟨v,H,I,r,h⟩ d e
variable{a b:cy} {ta tb:TE} {pos:Pos}
def tB (t:TE):TT:=λσ H Q=>t σ H λx d=>∃c,x=.bl c/\Q c d
def iz {e:cy}{t:TE}(h:PE X e t)(f:∀whole,isTrue e X.env whole=(do let v<-whole;standAt e.pos;gh [v] (truthy v)):=by intro _;rfl):PT X e (tB t):=by intro c s σ H Q I g;refine isTrue_plain (E6 (h c s σ H _ I g) λv o ⟨x,k,l,m,n⟩=>?_) (f _);obtain⟨d,rfl,q⟩:=n;cases m;exact aBG ⟨k,l,q⟩
variable{tA tB':TT} {rest:List cy}
def a2d (t u:TT):TT:=λσ H Q=>t σ H λc d=>if c=true then u σ d Q else Q false d
def tOr (t u:TT):TT:=λσ H Q=>t σ H λc d=>if c=true then Q true d else u σ d Q
def a1q (t:TT):TT:=λσ H Q=>t σ H λc d=>Q (!c) d
def SY (f:PT X a tA):PW X (.BoolOp .And [a] pos) tA:=by
 intro g d s σ H Q I h;refine isTrue_and (E6 (f d s σ H Q I h) λc k e=>?_);cases c with
 |true=>exact isTrue_and_nil e
 |false=>exact e
def ZA (f:PT X a tA):PW X (.BoolOp .Or [a] pos) tA:=by
 intro g d s σ H Q I h;refine isTrue_or (E6 (f d s σ H Q I h) λc k e=>?_);cases c with
 |false=>exact isTrue_or_nil e
 |true=>exact e
def YY (k:PT X a tA)(l:PW X (.BoolOp .And (b::rest) pos) tB'):PW X (.BoolOp .And (a::b::rest) pos) (a2d tA tB'):=by
 intro m d s σ H Q I h;refine isTrue_and (E6 (k d s σ H _ I h) λc n ⟨e,f,g⟩=>?_);cases c with
 |true=>exact l m d n σ e Q f g
 |false=>exact⟨e,f,g⟩
def yx (k:PT X a tA)(l:PW X (.BoolOp .Or (b::rest) pos) tB'):PW X (.BoolOp .Or (a::b::rest) pos) (tOr tA tB'):=by
 intro m d s σ H Q I h;refine isTrue_or (E6 (k d s σ H _ I h) λc n ⟨e,f,g⟩=>?_);cases c with
 |true=>exact⟨e,f,g⟩
 |false=>exact l m d n σ e Q f g
def bx (e:PT X a tA):PT X (.UnaryOp .Not a pos) (a1q tA):=by intro d s σ H Q I h;exact isTrue_not (e d s σ H (λc f=>Q (!c) f) I h)
def nj (ta tb:TE):TE:=λσ H Q=>ta σ H λx d=>∃c,x=.bl c/\if c=true then tb σ d Q else Q (.bl false) d
def ZF {op}(h:PE X a t):PE X (.BoolOp op [a] pos) t:=λc s σ H Q I d=>BoolOp_one (h c s σ H Q I d)
def YN (k:PE X a ta)(l:PE X (.BoolOp .And (b::rest) pos) tb):PE X (.BoolOp .And (a::b::rest) pos) (nj ta tb):=by
 intro d s σ H Q I h;refine BoolOp_and (E6 (k d s σ H _ I h) λv m ⟨x,f,g,n,e⟩=>?_);obtain⟨c,rfl,e⟩:=e;cases n;refine aBG ?_;cases c with
 |true=>exact l d m σ f Q g e
 |false=>exact⟨.bl false,f,g,rfl,e⟩
end
def K0 (K:kc)(H:Hp)(a:bb)(Y:List V):Prop:=
 Rd H a (.lst Y)\/
  ∃(o:Obj) (b:Array ai) (n:Nat),K.lookup a=some o/\o.cls=.type "list"/\o.dict=none/\o.data=.seq b n/\b.size<=sizeLine/\l6 Y b.toList
def X1 (K:kc)(H:Hp)(a:bb)(Y:List V):Prop:=
 Rd H a (.tup Y)\/
  ∃(o:Obj) (b:Array ai) (n:Nat),K.lookup a=some o/\o.cls=.type "tuple"/\o.data=.seq b n/\b.size<=sizeLine/\l6 Y b.toList
def a1t:ai->Option V
 |.none=>some .non
 |.bool b=>some (.bl b)
 |.int i _=>some (.int i)
 |.str x _=>some (.str x)
 |.bytes b _=>some (.byt b)
 |.float b _=>some (.flt b)
 |.ref a=>some (.ref a)
 |.type n=>some (.ty n)
 |_=>none
def RelV.abs (r:RelV x u):a1t u=some x:=by
 cases x with
 |non=>cases r;rfl
 |bl _=>cases r;rfl
 |int _=>obtain⟨t,rfl⟩:=r;rfl
 |str _=>obtain⟨t,rfl⟩:=r;rfl
 |byt _=>obtain⟨t,rfl⟩:=r;rfl
 |flt _=>obtain⟨t,rfl⟩:=r;rfl
 |ref _=>cases r;rfl
 |ty _=>cases r;rfl
def RelV.inj {x y:V}{u:ai}(r:RelV x u)(q:RelV y u):x=y:=aAk (r.abs.symm.trans q.abs)
theorem l6.inj:∀{Y a:List V} {b:List ai},l6 Y b->l6 a b->Y=a
 |_,_,_,.nil,.nil=>rfl
 |_,_,_,.cons r t,.cons c d=>by rw[r.inj c,l6.inj t d]
section
variable{X:Cx} {pins:O5} {σ:St} {H:Hp} {s:a9} {a:bb} {Y ys:List V}
def K0.of {K:kc}(h:H a=some (.lst Y)):K0 K H a Y:=.inl (.inl h)
def X1.of {K:kc}(h:H a=some (.tup Y)):X1 K H a Y:=.inl (.inl h)
def Inv.list (I:Inv X pins σ H s)(h:K0 X.K H a Y):∃its:List ai,l6 Y its/\PlainL s.heap a its.toArray/\Y.length<=sizeLine:=by
 rcases h with h|⟨o,its,n,b,c,d,f,g,r⟩
 .obtain⟨z,its,n,r,e⟩:=h.ok I.hok;exact⟨its,r,⟨_,n,e,rfl,rfl,rfl⟩,z⟩
 .refine⟨its.toList,r,⟨o,n,I.kIn a o b,c,d,by simpa using f⟩,?_⟩;have e:=r.length;simp only[aBd]at e
  lia
def Inv.tuple (I:Inv X pins σ H s)(h:X1 X.K H a Y):∃its:List ai,l6 Y its/\IsTup s.heap a its.toArray/\Y.length<=sizeLine:=by
 rcases h with h|⟨o,its,n,b,c,d,f,r⟩
 .obtain⟨z,its,r,p⟩:=h.ok I.hok;exact⟨its,r,p,z⟩
 .refine⟨its.toList,r,⟨o,I.kIn a o b,c,n,by simpa using d⟩,?_⟩;have e:=r.length;simp only[aBd]at e
  lia
def Inv.ab2 (I:Inv X pins σ H s)(h:K0 X.K H a Y)(h':K0 X.K H a ys):Y=ys:=by
 obtain⟨c,r,⟨o,n,e,_,_,d⟩,_⟩:=I.list h;obtain⟨b,k,⟨m,p,f,_,_,g⟩,_⟩:=I.list h';rw[e]at f;cases f;rw[d]at g;injection g with l _;have:c=b:=by simpa using kb aFH l
 subst this;exact r.inj k
def Inv.ab6 (I:Inv X pins σ H s)(h:X1 X.K H a Y)(h':X1 X.K H a ys):Y=ys:=by
 obtain⟨c,r,⟨o,e,_,n,d⟩,_⟩:=I.tuple h;obtain⟨b,k,⟨m,f,_,p,g⟩,_⟩:=I.tuple h';rw[e]at f;cases f;rw[d]at g;injection g with l _;have:c=b:=by simpa using kb aFH l
 subst this;exact r.inj k
end
abbrev Cx.ac2 (X:Cx)(E:E8):Cx:={X with xe:=E}
abbrev Cx.nox (X:Cx):Cx:=X.ac2 λ_ _=>False
def Cx.Ok.ac2 {X:Cx}(ok:X.Ok)(E:E8):(X.ac2 E).Ok:=
 ⟨ok.mod,ok.kind,ok.glob,ok.blt,ok.above,ok.inj,ok.has,ok.cab,ok.hd,ok.frames,ok.stk,ok.exf,ok.bs,ok.bsz,ok.noex,ok.exfs,ok.funs,ok.frf⟩
def Cx.Ok.aa8 {X:Cx}{E:E8}(ok:(X.ac2 E).Ok):X.Ok:=
 ⟨ok.mod,ok.kind,ok.glob,ok.blt,ok.above,ok.inj,ok.has,ok.cab,ok.hd,ok.frames,ok.stk,ok.exf,ok.bs,ok.bsz,ok.noex,ok.exfs,ok.funs,ok.frf⟩
section
variable{X:Cx} {pins:O5} {σ:St} {H:Hp} {s:a9} {E:E8}
def Inv.ac2 (I:Inv X pins σ H s)(E:E8):Inv (X.ac2 E) pins σ H s:=⟨I.ok.ac2 E,I.os,I.bare,I.base,I.loc,I.cell,I.free,I.freeC,I.pin,I.hok,I.len⟩
def Inv.aa8 (I:Inv (X.ac2 E) pins σ H s):Inv X pins σ H s:=⟨I.ok.aa8,I.os,I.bare,I.base,I.loc,I.cell,I.free,I.freeC,I.pin,I.hok,I.len⟩
def SP.aa8 (h:SP (X.ac2 E) pins D f s'):SP X pins D f s':=by
 cases f with
 |next=>obtain⟨a,b,I,q⟩:=h;exact⟨a,b,I.aa8,q⟩
 |brk=>obtain⟨a,b,I,q⟩:=h;exact⟨a,b,I.aa8,q⟩
 |cont=>obtain⟨a,b,I,q⟩:=h;exact⟨a,b,I.aa8,q⟩
 |ret u=>obtain⟨v,a,b,I,r,q⟩:=h;exact⟨v,a,b,I.aa8,r,q⟩
def uW.nox {st:List dm}{t:TS}(h:uW X.nox st t):uW X st t:=λpins s σ H D I a=>aCF (h pins s σ H D (I.ac2 _) a) (λ_ _ q=>q.aa8) λ_ _ z=>aAi z
end
section
variable{X:Cx} {st:dm} {rest:List dm} {t u:TS} {e:cy} {te:TE} {pos:Pos}
def a0a:TS:=λD σ H=>D.nx σ H
def a1l (t u:TS):TS:=λD σ H=>t {D with nx:=u D} σ H
def GD:uW X [] a0a:=λ_ _ σ H _ I h=>aEz ⟨σ,H,I,h⟩
def yI (b:PS X st t)(c:uW X rest u):uW X (st::rest) (a1l t u):=by
 intro a s σ H D I h;refine aEn (E6 (b a s σ H {D with nx:=u D} I h) λf d q=>?_);cases f with
 |next=>obtain⟨g,k,l,q⟩:=q;exact c a d g k D l q
 |ret v=>exact q
 |brk=>exact q
 |cont=>exact q
def kE (b:PS X st t):uW X [st] t:=by
 intro a s σ H D I h;refine aEn (E6 (b a s σ H D I h) λf c q=>?_);cases f with
 |next=>exact aEz q
 |ret v=>exact q
 |brk=>exact q
 |cont=>exact q
def Inv.quiet (I:Inv X a σ H s):interactive X.env=false:=by simp[interactive,I.ok.kind]
def xx (te:TE):TS:=λD σ H=>te σ H λ_ a=>D.nx σ a
def oA (b:PE X e te)(c:eZ e none pos.line X.env=pure false:=by rfl):PS X (.Expr e pos) (xx te):=by intro a s σ H D I h;exact wpAny_Expr_any (E6 (b a s σ H _ I h) λv k ⟨x,d,f,l,g⟩=>⟨σ,d,f,g⟩) I.quiet c
def a2k (te:TE):TS:=λD σ H=>te σ H D.rt
def xB (b:PE X e te):PS X (.Return (some e) pos) (a2k te):=by intro a s σ H D I h;exact wpAny_Return_some (E6 (b a s σ H _ I h) λv k ⟨x,c,d,f,g⟩=>⟨x,σ,c,d,f,g⟩)
def a1g (c:TT)(t u:TS):TS:=λD σ H=>c σ H λb a=>if b=true then t D σ a else u D σ a
def WW {c:cy}{a b:List dm}{g:TT}(o:PT X c g)(p:uW X a t)(q:uW X b u):PS X (.If c a b pos) (a1g g t u):=by
 intro f s σ H D I h;refine wpAny_If (E6 (o f s σ H _ I h) λd k ⟨l,m,n⟩=>?_);cases d with
 |true=>exact p f k σ l D m n
 |false=>exact q f k σ l D m n
def gx:TS:=λ_ _ _=>False
def OF:PS X st gx:=λ_ _ _ _ _ _ h=>h.elim
end
abbrev TG:=V->St->Hp->(St->Hp->Prop)->Prop
abbrev ZW:=List V->St->Hp->(St->Hp->Prop)->Prop
def PG (X:Cx)(a:cy)(t:TG):Prop:=
 ∀(b:O5) (s:a9) (σ:St) (H:Hp) (v:V) (u:ai) (Q:St->Hp->Prop),Inv X b σ H s->RelV v u->t v σ H Q->
  a5 (bc X.prog X.w) X.A (h9 a X.env u) (λ_ e=>∃c d,Inv X b c d e/\Q c d) X.xe s
def lw (X:Cx)(f:List cy)(t:ZW):Prop:=
 ∀(a:O5) (s:a9) (σ:St) (H:Hp) (b:List V) (c:List ai) (Q:St->Hp->Prop),Inv X a σ H s->l6 b c->t b σ H Q->
  a5 (bc X.prog X.w) X.A (assignInOrder ((et f X.env).map (·.2)) c) (λ_ g=>∃d e,Inv X a d e g/\Q d e) X.xe s
abbrev UV:=V->V->V->Hp->(Hp->Prop)->Prop
def bj (X:Cx)(t:UV):Prop:=
 ∀(a:O5) (s:a9) (σ:St) (H:Hp) (o i v:V) (b c u:ai) (Q:Hp->Prop),Inv X a σ H s->RelV o b->RelV i c->RelV v u->t o i v H Q->
  a5 (bc X.prog X.w) X.A (setItem b c u) (λ_ e=>∃d,Inv X a σ d e/\Q d) X.xe s
section
variable{X:Cx} {pos:Pos}
def XG (i:Nat):TG:=λv σ H Q=>Q (σ.set i<|some v) H
def GQ (b:X.N.Nodup)(c:X.N[i]?=some x)(d:Loc X.env.scope x)(e:X.fn x=true\/X.env.scope.names.lookup x=some .local:=by first|exact .inl rfl|exact .inr rfl|assumption):PG X (.Name x pos) (XG i):=by intro a s σ H v u Q I r h;exact wpAny_assign_Name (R4 I b c d r (λg f=>⟨_,H,f,h⟩) e)
def a1z:ZW:=λa σ H Q=>a=[]/\Q σ H
def xq (t:TG)(u:ZW):ZW:=λa σ H Q=>∃v r,a=v::r/\t v σ H λb c=>u r b c Q
def SN:lw X [] a1z:=by intro a s σ H b c Q I r h;obtain⟨e,h⟩:=h;subst e;cases r;exact assignInOrder_nil ⟨σ,H,I,h⟩
def QL {e:cy}{es:List cy}{t:TG}{u:ZW}(c:PG X e t)(d:lw X es u)
  (f:(et (e::es) X.env).map (·.2)=h9 e X.env::(et es X.env).map (·.2):=by rfl):lw X (e::es) (xq t u):=by
 intro a s σ H p q Q I r h;obtain⟨v,w,g,h⟩:=h;subst g;cases r with
 |cons r k=>rw[f];refine aES (E6 (c a s σ H _ _ _ I r h) λ_ l ⟨b,m,n,o⟩=>?_);exact d a l b m _ _ Q n k o
def a0x (a b:TE)(t:UV):TG:=λv σ H Q=>a σ H λo c=>b σ c λi d=>t o i v d λe=>Q σ e
def OM {o i:cy}{d e:TE}{t:UV}(f:PE X o d)(g:PE X i e)(k:bj X t)
  (l:∀v,h9 (.Subscript o i pos) X.env v=(do
   let b<-gh [v] (d3 o X.env)
   let c<-gh [v,b] (d3 i X.env)
   standAt pos
   gh [v,b,c] (setItem b c v)
   release [v,b,c] []):=by intro _;rfl):PG X (.Subscript o i pos) (a0x d e t):=by
 intro a s σ H v u Q I r h;rw[l];refine aAa (aAK<|E6 (f a s σ H _ I h) λb m ⟨x,n,p,q,w⟩=>?_);refine aAa (aAK<|E6 (g a m σ n _ p w) λc z ⟨y,A,B,C,E⟩=>?_);refine aAa (aEv<|aAa<|aAK<|E6 (k a z σ A x y v b c u _ B q C r E) λ_ O ⟨J,L,N⟩=>?_);exact wpAny_release ⟨σ,J,L,N⟩
def oj (a:TE)(g:TG):TS:=λD σ H=>a σ H λx b=>g x σ b D.nx
def EG {b e:cy}{c:TE}{g:TG}(d:PE X e c)(f:PG X b g)(k:gs [b] e pos.line X.env=pure false:=by rfl)(l:gv [b] e X.env=pure none:=by rfl)
  (m:(et [b] X.env).map (·.2)=[h9 b X.env]:=by rfl):PS X (.Assign [b] e pos) (oj c g):=by
 intro a s σ H D I h;refine wpAny_Assign_stores (E6 (d a s σ H _ I h) λv n ⟨x,o,p,r,t⟩=>?_) k l;rw[m];exact E6 (f a n σ o x v _ p r t) λ_ u q=>q
def OB {i:Nat}{x:Str}{e:cy}{c:TE}{a:Pos}(d:X.N.Nodup)(f:X.N[i]?=some x)(g:Loc X.env.scope x)(k:PE X e c)(l:eZ e (some (.Name x a)) pos.line X.env=pure false:=by rfl)(m:X.fn x=true\/X.env.scope.names.lookup x=some .local:=by first|exact .inl rfl|exact .inr rfl|assumption):
  PS X (.Assign [.Name x a] e pos) (oj c (XG i)):=by
 intro b s σ H D I h;refine aFf (E6 (k b s σ H _ I h) λv t ⟨y,n,o,p,q⟩=>?_) l;exact R4 o d f g p (λu r=>⟨_,n,r,q⟩) m
def a1c (i j:Nat)(ta:TA):TS:=λD σ H=>ta σ H λa b=>∃v w,a=[v,w]/\D.nx ((σ.set i<|some v).set j (some w)) b
def jy {i j:Nat}{x y:Str}{a b:cy}{ta:TA}{k l pt:Pos}{m n zU}(L:X.calm=true)(z:X.N.Nodup)(O:X.N[i]?=some x)(Q:X.N[j]?=some y)(T:i≠j)
  (B:X.env.scope.names.lookup x=some .local) (C:X.env.scope.names.lookup y=some .local) (U:PA X [a,b] ta)
  (Y:gv [.Tuple [.Name x k,.Name y l] m pt] (.Tuple [a,b] n zU) X.env=pure (some [x,y]))
  (hs:gs [.Tuple [.Name x k,.Name y l] m pt] (.Tuple [a,b] n zU) pos.line X.env=pure false:=by rfl):
  PS X (.Assign [.Tuple [.Name x k,.Name y l] m pt] (.Tuple [a,b] n zU) pos) (a1c i j ta):=by
 intro c s σ H D I h;rw[exec_Assign_arm];refine aAa (aEv ?_);rw[hs];refine aAa (aAb ?_);rw[ka (by decide)];refine aAa (Tuple_<|E6 (U _ c s σ H _ I h) λus d ⟨vs,E,I1,r1,r⟩=>?_);obtain⟨v,w,e1,r⟩:=r;subst e1;obtain⟨f,g,rfl,rv,t⟩:∃f g,us=[f,g]/\RelV v f/\RelV w g:=by
  cases r1 with
  |cons p q=>
   cases q with
   |cons p' q'=>cases q';exact⟨_,_,rfl,p,p'⟩
 refine aAS ?_ (by show 2<=sizeLine;decide);have I2:Inv X c σ E {d with heap:=d.heap.push {cls:=.type "tuple",data:=.seq [f,g].toArray}}:=I1.kept (t':=d.toks) λb o e=>aAc _ e;rw[Y];refine aAa (aAb ?_);show a5 (bc X.prog X.w) X.A (do rule "assign.swapped-stores";let items<-unpackItems (.ref d.heap.objs.size) 2 none;assignInOrder [λv=>bindName X.env y v,λv=>bindName X.env x v] items.reverse;pure Flow.next) _ _ _;refine aAa (aDz<|aAa<|unpackItems_tuple (items:=#[f,g]) (I.ok.hd L) (IsTup.new d.heap _) λh' u=>?_);have I3:=I2.kept (h':=h') (t':=d.toks) λb o e=>u b o (aAl<|aAg e) e;show a5 _ _ (assignInOrder [λv=>bindName X.env y v,λv=>bindName X.env x v] [g,f]>>=λ_=>pure Flow.next) _ _ _;refine aAa (aES<|wpAny_bindName<|R4 I3 z Q (.inl C) t (λs2 I4=>?_)<|.inr C);refine aES (wpAny_bindName<|R4 I4 z O (.inl B) rv (λs3 J=>assignInOrder_nil (aAb ?_))<|.inr B);rw[List.set_comm _ _ (aCg T)]at J;exact⟨_,E,J,r⟩
end
section
variable{X:Cx} {pos:Pos}
def YR (c:TT)(tb:TS):TS:=λD σ H=>∃W:Nat->St->Hp->Prop,(∃m,W m σ H)/\∀m σ H,W m σ H->
 c σ H λb a=>if b=true then∃N:St->Hp->Prop,(∀d e,N d e->∃f,f<m/\W f d e)/\tb {D with nx:=N,ct:=N,bk:=D.nx} σ a else D.nx σ a
def PJ {c:cy}{body:List dm}{t:TT}{tb:TS}(u:PassesOwn (bc X.prog X.w) X.A X.env X.xe)(J:PT X c t)(L:uW X body tb):PS X (.While c body [] pos) (YR t tb):=by
 intro a s σ H D I h;obtain⟨W,⟨O,Q⟩,turn⟩:=h;refine wpAny_While (codeAny_whileLoop (λn T=>∃x y,Inv X a x y T/\W n x y) ?_ O ⟨σ,H,I,Q⟩);rintro n U ⟨d,z,Y,w1⟩;refine aCX u (E6 (J a U d z _ Y<|turn n d z w1) λb s2 ⟨B,C,k⟩=>?_);cases b with
 |true=>
  obtain⟨N,E,k⟩:=k;rw[jk rfl];refine aCX u (E6 (L a s2 d B _ C k) λf s3 l=>?_);cases f with
  |next=>obtain⟨e,g,m,o⟩:=l;obtain⟨p,q,r⟩:=E e g o;exact⟨p,q,e,g,m,r⟩
  |cont=>obtain⟨e,g,m,o⟩:=l;obtain⟨p,q,r⟩:=E e g o;exact⟨p,q,e,g,m,r⟩
  |brk=>exact l
  |ret v=>exact l
 |false=>rw[ka aAP];exact aEz ⟨d,B,C,k⟩
end
structure It where
 go:Nat->Hp->Prop
 yld:Nat->Hp->V->Hp->Prop
 stop:Nat->Hp->Prop
def nI (X:Cx)(pins:O5)(H:Hp)(b:bb):Prop:=
 H b=none/\b≠X.env.locals/\b∉X.fs/\(b∈X.ex\/X.s9.heap.objs.size<=b)/\(∀x c,X.env.cells.lookup x=some c->c≠b)/\∀p∈X.pn++pins,p.1≠b
def Inv.ae8 (I:Inv X a σ H s)(d:s.heap.objs.size<=b)(f:H' b=none):nI X a H' b:=by
 refine⟨f,aCC (aAu I.lt d),I.ag3 d,.inr (aAr I.sz d),λx c e z=>?_,λp g z=>?_⟩
 .obtain⟨v,q⟩:=I.cell x c e;exact absurd (aAu q.lt (by rw[z];exact d)) (aBg _)
 .exact absurd (aAu (aAg (I.pin p g).1) (by rw[z];exact d)) (aBg _)
structure Turn (P:Program)(w:World)(K:PySem.W.Frag)(tg:Expr)(J:It)(fp:List Addr)(it:Addr)(tn:Nat->Heap->Prop):Prop where
 mem:it∈fp
 obj:∀i h,tn i h->∀b∈fp,∃o,h.get? b=some o/\∀v,o.data≠.cell v
 keep:∀i h h',tn i h->(∀b∈fp,∀o,h.get? b=some o->h'.get? b=some o)->tn i h'
 item:∀(X:Cx),X.prog=P->X.w=w->X.K=K->X.calm=true->∀(i:Nat) (pins:O5) (s:Shared) (σ:St) (H:Hp) (E:E8),Inv X pins σ H s->(∀b∈fp,nI X pins H b)->tn i s.heap->J.go i H->
  wpAny (model P w) X.A (pyNext (.ref it)) (λr s1=>∃u,r=some u/\
   wpAny (model P w) X.A (letOwnedTupleGo tg (.ref it) u) (λ_ s2=>∃x H',Inv X pins σ H' s2/\RelV x u/\J.yld i H x H'/\tn (i+1) s2.heap/\∀b∈fp,H' b=none) E s1) E s
 done:∀(X:Cx),X.prog=P->X.w=w->X.K=K->X.calm=true->∀(i:Nat) (pins:O5) (s:Shared) (σ:St) (H:Hp) (E:E8),Inv X pins σ H s->(∀b∈fp,nI X pins H b)->tn i s.heap->J.stop i H->
  wpAny (model P w) X.A (pyNext (.ref it)) (λr s1=>r=none/\Inv X pins σ H s1) E s
 self:∀(A:Around) (i:Nat) (s:Shared) (Q:E8) (E:E8),tn i s.heap->Q (.ref it) s->wpAny (model P w) A (pyIter (.ref it)) Q E s
abbrev TI:=St->Hp->(It->Hp->Prop)->Prop
def PIE (X:Cx)(a:O5)(σ:St)(k:cy)(R:It->Hp->Prop)(c:ai)(e:a9):Prop:=
 ∃(f:bb) (g:List bb) (h:Nat->cv->Prop) (J:It) (d:Hp),c=.ref f/\Inv X a σ d e/\Turn X.prog X.w X.K k J g f h/\h 0 e.heap/\(∀b∈g,nI X a d b)/\R J d
def PI (X:Cx)(b iter:cy)(c:TI):Prop:=
 ∀(a:O5) (s:a9) (σ:St) (H:Hp) (R:It->Hp->Prop),Inv X a σ H s->c σ H R->
  a5 (bc X.prog X.w) X.A (d3 iter X.env) (λv d=>a5 (bc X.prog X.w) X.A (pyIter v) (PIE X a σ b R) X.xe d) X.xe s
def NX {E : ai → a9 → Prop} {Q : Unit → a9 → Prop} (b : s.heap.get? it = some o) (c : o.cls = .type n) (d : o.data = .fields vs) (e : ["enumerate", "zip", "dict_itemiterator", "dict_reverseitemiterator", "odict_iterator", "itertools.zip_longest", "itertools.pairwise"].contains n = false) (a : Q () s) : a5 M A (letOwnedTupleGo f (.ref it) u) Q E s := by
  unfold letOwnedTupleGo;cases f <;> first
    | exact aAb a
    | (cases u <;> first
        | exact aAb a
        | (refine aAa (wpAny_load b ?_)
           rw [c, d];show a5 M A (if (["enumerate", "zip", "dict_itemiterator", "dict_reverseitemiterator", "odict_iterator", "itertools.zip_longest", "itertools.pairwise"].contains n && vs[0]? == some (d9 _)) = true then _ else _) Q E s;rw [ka (by intro h; rw [e, Bool.false_and] at h; cases h)];exact aAb a))
def Itl (K:kc)(a:bb):It:=
 ⟨λi H=>∃Y x,K0 K H a Y/\Y[i]?=some x,λi H x b=>b=H/\∀Y,K0 K H a Y->Y[i]?=some x,λi H=>∃Y,K0 K H a Y/\Y.length<=i⟩
def Itt (K:kc)(a:bb):It:=
 ⟨λi H=>∃Y x,X1 K H a Y/\Y[i]?=some x,λi H x b=>b=H/\∀Y,X1 K H a Y->Y[i]?=some x,λi H=>∃Y,X1 K H a Y/\Y.length<=i⟩
def KH {P:bt}{w:cq}{K:kc}{tg:cy}(a it:bb):Turn P w K tg (Itl K a) [it] it (λi h=>h.IsListIter it a i)where
 mem:=by simp
 obj:=λi h st b g=>by
  have e:b=it:=by simpa using g
  subst e;obtain⟨o,e,c,d⟩:=st;exact⟨o,e,λv z=>by rw[d]at z;cases z⟩
 keep:=λi h m st k=>st.at λo e=>k it (by simp) o e
 item:=by intro X r t y U i f s σ H E I n st A;subst r t y;obtain⟨Y,x,q,B⟩:=A;obtain⟨C,J,p,hz⟩:=I.list q;obtain⟨u,hu,ru⟩:=J.get B;obtain⟨L,N,f2,O,Q,T⟩:=n it (by simp);refine wpAny_pyNext_list_item st p.isList (x:=u) (by simpa using hu) λm l sb=>?_;have I1:Inv X f σ H {s with heap:=m}:=I.turned (t':=s.toks) (λb o g e=>(sb.2 b g).trans e) L N O Q T;obtain⟨o,e,c,d⟩:=id l;exact⟨u,rfl,NX (s:={s with heap:=m}) e c d (by decide) ⟨x,H,I1,ru,⟨rfl,λys hy=>by rw[I.ab2 hy q];exact B⟩,l,λb g=>(n b g).1⟩⟩
 done:=by intro X r t y U i f s σ H E I n st A;subst r t y;obtain⟨Y,q,B⟩:=A;obtain⟨C,J,p,hz⟩:=I.list q;obtain⟨L,N,f2,O,Q,T⟩:=n it (by simp);have hl:=J.length;exact wpAny_pyNext_list_end (I.ok.hd U) st p.isList (by simp;lia) λm eb=>⟨rfl,I.turned (t':=s.toks) (λb o g e=>eb b o g e) L N O Q T⟩
 self:=λ_ _ _ _ _ st h=>wpAny_pyIter_listiter st h
def BR {P:bt}{w:cq}{K:kc}{tg:cy}(a it:bb):Turn P w K tg (Itt K a) [it] it (λi h=>h.IsTupleIter it a i)where
 mem:=by simp
 obj:=λi h st b g=>by
  have e:b=it:=by simpa using g
  subst e;obtain⟨o,e,c,d⟩:=st;exact⟨o,e,λv z=>by rw[d]at z;cases z⟩
 keep:=λi h n st k=>st.at λo e=>k it (by simp) o e
 item:=by intro X t y A U i f s σ H E I q st B;subst t y A;obtain⟨Y,x,r,C⟩:=B;obtain⟨l,J,p,hz⟩:=I.tuple r;obtain⟨u,hu,ru⟩:=J.get C;obtain⟨L,N,f2,O,Q,T⟩:=q it (by simp);refine wpAny_pyNext_tuple_item st (show s.heap.IsTuple a l.toArray from p) (x:=u) (by simpa using hu) λn m sb=>?_;have I1:Inv X f σ H {s with heap:=n}:=I.turned (t':=s.toks) (λb o g e=>(sb.2 b g).trans e) L N O Q T;obtain⟨o,e,c,d⟩:=id m;exact⟨u,rfl,NX (s:={s with heap:=n}) e c d (by decide) ⟨x,H,I1,ru,⟨rfl,λys hy=>by rw[I.ab6 hy r];exact C⟩,m,λb g=>(q b g).1⟩⟩
 done:=by intro X t y A U i f s σ H E I q st B;subst t y A;obtain⟨Y,r,C⟩:=B;obtain⟨l,J,p,hz⟩:=I.tuple r;obtain⟨L,N,f2,O,Q,T⟩:=q it (by simp);have hl:=J.length;exact wpAny_pyNext_tuple_end (I.ok.hd U) st (show s.heap.IsTuple a l.toArray from p) (by simp;lia) λn eb=>⟨rfl,I.turned (t':=s.toks) (λb o g e=>eb b o g e) L N O Q T⟩
 self:=λ_ _ _ _ _ st h=>wpAny_pyIter_tupleiter st h
section
variable{X:Cx} {tg:cy}
def uz (K:kc)(c:TE):TI:=λσ H R=>c σ H λx b=>∃a,x=.ref a/\(∃Y,K0 K b a Y)/\R (Itl K a) b
def a0z (K:kc)(c:TE):TI:=λσ H R=>c σ H λx b=>∃a,x=.ref a/\(∃Y,X1 K b a Y)/\R (Itt K a) b
def GS (g:PE X l k):PI X tg l (uz X.K k):=by
 intro c s σ H R I h;refine E6 (g c s σ H _ I h) λv d ⟨x,m,f,n,r⟩=>?_;obtain⟨a,e,⟨Y,t⟩,q⟩:=r;subst e;cases n;obtain⟨u,y,p,z⟩:=f.list t;refine aDB p.isList ?_;refine⟨d.heap.objs.size,[d.heap.objs.size],_,_,m,rfl,f.kept (t':=d.toks) λb o e=>aAc _ e,KH a _,⟨_,aAo _ rfl,rfl,rfl⟩,λb w=>?_,q⟩;have e:b=d.heap.objs.size:=by simpa using w
 subst e;exact f.ae8 (aAj _) (f.hok.fresh<|aAj _)
def ZR {l:cy}{k:TE}(m:PE X l k):PI X tg l (a0z X.K k):=by
 intro c s σ H R I h;refine E6 (m c s σ H _ I h) λv d ⟨x,n,f,r,t⟩=>?_;obtain⟨a,e,⟨Y,u⟩,q⟩:=t;subst e;cases r;obtain⟨g,y,p,z⟩:=f.tuple u;refine wpAny_pyIter_tuple (show d.heap.IsTuple a g.toArray from p) ?_;refine⟨d.heap.objs.size,[d.heap.objs.size],_,_,n,rfl,f.kept (t':=d.toks) λb o e=>aAc _ e,BR a _,⟨_,aAo _ rfl,rfl,rfl⟩,λb w=>?_,q⟩;have e:b=d.heap.objs.size:=by simpa using w
 subst e;exact f.ae8 (aAj _) (f.hok.fresh<|aAj _)
def a1b (d:TI)(g:TG)(tb:TS):TS:=λD σ H=>d σ H λJ e=>∃W:Nat->Nat->St->Hp->Prop,(∃m,W 0 m σ e)/\∀i m σ H,W i m σ H->
 (J.stop i H/\D.nx σ H)\/(J.go i H/\∃N:St->Hp->Prop,(∀b a,N b a->∃c,c<m/\W (i+1) c b a)/\∀x a,J.yld i H x a->g x σ a λf h=>tb {D with nx:=N,ct:=N,bk:=D.nx} f h)
def qE (a:List bb)(h:cv):List (bb×Obj):=a.filterMap λb=>(h.get? b).map λo=>(b,o)
def cN (a:b∈c)(e:h.get? b=some o):(b,o)∈qE c h:=aBW.mpr ⟨b,a,by rw[e];rfl⟩
def JY (a:p∈qE c h):p.1∈c/\h.get? p.1=some p.2:=by
 obtain⟨b,d,e⟩:=aBW.mp a;cases q:h.get? b with
 |none=>rw[q]at e;cases e
 |some o=>rw[q]at e;have f:(b,o)=p:=aAk e;subst f;exact⟨d,q⟩
def Inv.pinned (I:Inv X a σ H s)(h:∀b∈c,nI X a H b)(k:∀b∈c,∃o,s.heap.get? b=some o/\∀v,o.data≠.cell v):Inv X (a++qE c s.heap) σ H s:=
 I.ad5 λp l=>(aAN.mp l).elim (λz=>I.pin p (aAH _ z)) λz=>by obtain⟨f,e⟩:=JY z;obtain⟨m,n,q,_⟩:=h p.1 f;obtain⟨o,g,d⟩:=k p.1 f;rw[e]at g;cases g;exact⟨e,m,n,q,d⟩
def Inv.ab1 (I:Inv X (a++c) σ H s):Inv X a σ H s:=I.ad5 λp b=>I.pin p (aAH _<|aBH _ b)
def RZ (B:PassesOwn (bc X.prog X.w) X.A X.env X.xe)(hc:X.calm=true)(hi:PI X tg iter wi)(hg:PG X tg g)(c:uW X body tb)(hs:∀x,ff iter X.env x=pure x:=by intro _;rfl):PS X (.For tg iter body [] pos) (a1b wi g tb):=by
 intro a s σ H D I h;refine wpAny_For (E6 (hi a s σ H _ I h) λv s1 h1=>E6 h1 λitv s2 h2=>?_) hs;obtain⟨it,C,tn,J,H2,e,I2,T,lu,f2,W,⟨m0,w0⟩,turn⟩:=h2;subst e;have k:∀{t:Hp},(∀b∈C,t b=none)->∀b∈C,nI X a t b:=λhn b c=>⟨hn b c,(f2 b c).2⟩;refine codeAny_forLoop_any (λn s'=>∃i E t,Inv X a E t s'/\tn i s'.heap/\(∀b∈C,t b=none)/\W i n E t) ?_ m0 ⟨0,σ,H2,I2,lu,λb c=>(f2 b c).1,w0⟩;rintro n s3 ⟨i,L,U,I3,yp,O,w3⟩;rcases turn i n L U w3 with⟨stop,qn⟩|⟨go,N,hN,step⟩
 .refine aCX B (E6 (T.done X rfl rfl rfl hc i a s3 L U X.xe I3 (k O) yp stop) λr s4 ⟨Y,I4⟩=>?_);subst Y;exact aEz ⟨L,U,I4,qn⟩
 .refine aCX B (E6 (T.item X rfl rfl rfl hc i a s3 L U X.xe I3 (k O) yp go) λr s4 ⟨u,Y,h4⟩=>?_);subst Y;refine aCX B (E6 h4 λ_ s5 ⟨x,H5,I5,r5,y5,z,fr5⟩=>?_);have I5':=I5.pinned (k fr5) (T.obj _ _ z);refine aCX B (E6 (hg _ s5 L H5 x u _ I5' r5<|step x H5 y5) λ_ s6 ⟨σ6,H6,I6,q6⟩=>?_);refine aCX B (E6 (c _ s6 σ6 H6 _ I6 q6) λf s7 y=>?_);have again:∀{l:St} {p:Hp},Inv X (a++qE C s5.heap) l p s7->N l p->∃m,m<n/\∃i E t,Inv X a E t s7/\tn i s7.heap/\(∀b∈C,t b=none)/\W i m E t:=λ{l p} q Q=>by obtain⟨m',hm,w7⟩:=hN l p Q;refine⟨m',hm,i+1,l,p,q.ab1,T.keep _ _ _ z λb c o e=>(q.pin (b,o)<|aAH _<|aAH _<|cN c e).1,λb c=>?_,w7⟩;obtain⟨o,e,d⟩:=T.obj _ _ z b c;exact(q.pin (b,o)<|aAH _<|aAH _<|cN c e).2.1
  cases f with
  |next=>obtain⟨l,p,q,Q⟩:=y;exact again q Q
  |cont=>obtain⟨l,p,q,Q⟩:=y;exact again q Q
  |brk=>obtain⟨l,p,q,y⟩:=y;exact⟨l,p,q.ab1,y⟩
  |ret v=>obtain⟨x7,l,p,q,r7,y⟩:=y;exact⟨x7,l,p,q.ab1,r7,y⟩
end
abbrev R2:=V->V->Hp->VK->Prop
def lP (X:Cx)(f:ai->ai->Sem ai)(r:R2):Prop:=
 ∀(a:O5) (s:a9) (σ:St) (H:Hp) (x y:V) (v u:ai) (Q:VK),Inv X a σ H s->RelV x v->RelV y u->r x y H Q->
  a5 (bc X.prog X.w) X.A (f v u) (EP X a σ Q) X.xe s
def UnR (X:Cx)(f:ai->Sem ai)(r:V->Hp->VK->Prop):Prop:=
 ∀(a:O5) (s:a9) (σ:St) (H:Hp) (x:V) (v:ai) (Q:VK),Inv X a σ H s->RelV x v->r x H Q->
  a5 (bc X.prog X.w) X.A (f v) (EP X a σ Q) X.xe s
def uM (X:Cx)(f:ai)(r:List V->Hp->VK->Prop):Prop:=
 ∀(a:O5) (s:a9) (σ:St) (H:Hp) (Y:List V) (b:List ai) (Q:VK),Inv X a σ H s->l6 Y b->r Y H Q->
  a5 (bc X.prog X.w) X.A (call f b) (EP X a σ Q) X.xe s
def tUn (r:V->Hp->VK->Prop)(ta:TE):TE:=λσ H Q=>ta σ H λx a=>r x a Q
def rI (C:Int->Int->Prop)(g:Int->Int->V):R2:=λx y H Q=>∃i j,x=.int i/\y=.int j/\C i j/\Q (g i j) H
def VC (g:Int->Int->V):R2:=λx y H Q=>∃i j,x=.int i/\y=.int j/\Q (g i j) H
def rU (g:Int->V):V->Hp->VK->Prop:=λx H Q=>∃i,x=.int i/\Q (g i) H
section
variable{X:Cx} {a b c:cy} {ta tb tc:TE} {pos:Pos}
def MR (l:PE X a ta)(m:PE X b tb){d:O5}{s:a9}{σ:St}{H:Hp}{R:V->V->Hp->Prop}(I:Inv X d σ H s)
  (h:ta σ H λx k=>tb σ k λy e=>R x y e) {Q:E8} {f:ai->ai->Sem ai}
  (n:∀v u g x y e,Inv X d σ e g->RelV x v->RelV y u->R x y e->a5 (bc X.prog X.w) X.A (f v u) Q X.xe g):
  a5 (bc X.prog X.w) X.A (d3 a X.env) (λv o=>a5 (bc X.prog X.w) X.A (d3 b X.env) (λu p=>a5 (bc X.prog X.w) X.A (f v u) Q X.xe p) X.xe o) X.xe s:=by
 refine E6 (l d s σ H _ I h) λv q ⟨x,k,r,t,z⟩=>?_;refine E6 (m d q σ k _ r z) λu g ⟨y,e,B,C,E⟩=>?_;exact n v u g x y e B t C E
def tw {r:V->Hp->VK->Prop}(e:UnR X (unaryOp op) r)(f:PE X a ta):PE X (.UnaryOp op a pos) (tUn r ta):=by intro d s σ H Q I h;exact UnaryOp_ (E6 (f d s σ H _ I h) λv g ⟨x,k,l,m,n⟩=>e d g σ k x v Q l m n)
def opI {f:ai->ai->Sem ai}{C:Int->Int->Prop}{g:Int->Int->Int}
  (rule:∀(i j:Int) (t u:Tok) (s:a9) (Q:E8) (E:E8),C i j->Q (.int (g i j) s.toks) {s with toks:=s.toks+1}->a5 (bc X.prog X.w) X.A (f (.int i t) (.int j u)) Q E s):
  lP X f (rI C λi j=>.int (g i j)):=by
 intro d s σ H x y v u Q I e k h;obtain⟨i,j,rfl,rfl,l,q⟩:=h;obtain⟨t,rfl⟩:=e;obtain⟨m,rfl⟩:=k;exact rule i j t m s _ _ l ⟨.int (g i j),H,I.tok _,⟨_,rfl⟩,q⟩
def vq {f:ai->ai->Sem ai}{g:Int->Int->Int}
  (rule:∀(i j:Int) (t u:Tok) (s:a9) (Q:E8) (E:E8),Q (.int (g i j) s.toks) {s with toks:=s.toks+1}->a5 (bc X.prog X.w) X.A (f (.int i t) (.int j u)) Q E s):
  lP X f (VC λi j=>.int (g i j)):=by
 intro d s σ H x y v u Q I e k h;obtain⟨i,j,rfl,rfl,q⟩:=h;obtain⟨t,rfl⟩:=e;obtain⟨l,rfl⟩:=k;exact rule i j t l s _ _ ⟨.int (g i j),H,I.tok _,⟨_,rfl⟩,q⟩
def VY {f:ai->ai->Sem ai}{g:Int->Int->Bool}
  (rule:∀(i j:Int) (t u:Tok) (s:a9) (Q:E8) (E:E8),Q (.bool (g i j)) s->a5 (bc X.prog X.w) X.A (f (.int i t) (.int j u)) Q E s):
  lP X f (VC λi j=>.bl (g i j)):=by
 intro d s σ H x y v u Q I e k h;obtain⟨i,j,rfl,rfl,q⟩:=h;obtain⟨t,rfl⟩:=e;obtain⟨l,rfl⟩:=k;exact rule i j t l s _ _ ⟨.bl (g i j),H,I,rfl,q⟩
def a1d (i j:Int):Prop:=0<=j/\j<=1000000/\i.natAbs<2^64
def YC:lP X (eR .Add) (VC λi j=>.int (i+j)):=vq λ_ _ _ _ _ _ _ q=>add_int q
def fw:lP X (eR .Sub) (VC λi j=>.int (i-j)):=vq λ_ _ _ _ _ _ _ q=>sub_int q
def VV:lP X (eR .Mod) (rI (λ_ j=>j≠0) λi j=>.int (i.fmod j)):=opI λ_ _ _ _ _ _ _ d q=>mod_int' d q
def ZE:lP X (eR .Pow) (rI a1d λi j=>.int (i^j.toNat)):=opI λ_ _ _ _ _ _ _ d q=>pow_int_small d.1 d.2.1 d.2.2 q
def unI {f:ai->Sem ai}{g:Int->Int}
  (rule:∀(i:Int) (t:Tok) (s:a9) (Q:E8) (E:E8),Q (.int (g i) s.toks) {s with toks:=s.toks+1}->a5 (bc X.prog X.w) X.A (f (.int i t)) Q E s):
  UnR X f (rU λi=>.int (g i)):=by
 intro d s σ H x v Q I e h;obtain⟨i,rfl,q⟩:=h;obtain⟨t,rfl⟩:=e;exact rule i t s _ _ ⟨.int (g i),H,I.tok _,⟨_,rfl⟩,q⟩
def YU:UnR X (unaryOp .USub) (rU λi=>.int (-i)):=unI λ_ _ _ _ _ q=>neg_int q
end
section
variable{X:Cx} {a b c:cy} {ta tb tc:TE} {pos:Pos}
def YH (I:Inv X d σ H s)(q:Q (.bl k) H)(e:k=f):EP X d σ Q (.bool f) s:=by subst e;exact⟨.bl k,H,I,rfl,q⟩
def lz:lP X (ee .Lt) (VC λi j=>.bl (decide (i<j))):=VY λ_ _ _ _ _ _ _ q=>lt_int q
def xy:lP X (ee .LtE) (VC λi j=>.bl (decide (i<=j))):=VY λ_ _ _ _ _ _ _ q=>le_int q
def a0f:lP X (ee .Gt) (VC λi j=>.bl (decide (j<i))):=VY λ_ _ _ _ _ _ _ q=>gt_int q
def uw:lP X (ee .GtE) (VC λi j=>.bl (decide (j<=i))):=VY λ_ _ _ _ _ _ _ q=>ge_int q
def iq:lP X (ee .Is) (λx y H Q=>y=.non/\Q (.bl (decide (x=.non))) H):=by
 intro d s σ H x y v u Q I e f h;obtain⟨rfl,q⟩:=h;cases f;refine is_none_gen (YH I q ?_);cases x<;>first
  |(cases e;rfl)
  |(obtain⟨t,rfl⟩:=e;rfl)
def ND (b:cy)(h:op≠.In:=by decide)(d:op≠.NotIn:=by decide):i5 op b=false:=by
 have e:(op==CmpOp.In)=false:=by cases op<;>first|rfl|exact absurd rfl h
 have f:(op==CmpOp.NotIn)=false:=by cases op<;>first|rfl|exact absurd rfl d
 cases b<;>simp[i5,e,f]
def wV:(sizeLine:Nat)<2^63:=by rw[aFm];decide
def vals1 (r:l6 [x] d):∃u,d=[u]/\RelV x u:=by
 cases r with
 |cons e f=>cases f;exact⟨_,rfl,e⟩
def vals2 (r:l6 [x,y] e):∃u d,e=[u,d]/\RelV x u/\RelV y d:=by
 cases r with
 |cons f g=>
  cases g with
  |cons h k=>cases k;exact⟨_,_,rfl,f,h⟩
def PU:uM X (.builtin "abs") (λY H Q=>∃i,Y=[.int i]/\Q (.int (if i<0 then-i else i)) H):=by intro d s σ H Y e Q I r h;obtain⟨i,rfl,q⟩:=h;obtain⟨u,rfl,t,rfl⟩:=vals1 r;exact call_abs_int λu f=>⟨.int (if i<0 then-i else i),H,I.tok _,⟨_,rfl⟩,q⟩
end
section
variable{prog:bt} {w:cq} {A:cp} {E:E8} {s:a9} {K:kc} {x dx C f:bb} {mA:dG} {name:Str} {v:ai}
end
section
variable{P:bt} {w:cq} {H H':Hp} {h h':cv} {a C dx:bb} {fs xp:List (Str×V)}
end
section
variable{X:Cx} {pins:O5} {σ:St} {H:Hp} {s:a9} {a C dx:bb} {fs:List (Str×V)} {f:Str} {v:V} {A:cp} {E:E8}
end
section
variable{X:Cx} {o e value:cy} {f:Str} {pos pos' tpos:Pos} {ta tv:TE}
end
section
variable{X:Cx} {pins:O5} {σ:St} {H:Hp} {s:a9} {A:cp} {E:E8} {Q:E8} {c:ai} {b:Bool}
end
structure Room (k:Nat)(A:Around):Prop where
 hd:A.handled=none
 dp:A.depth+3*k+5<recursionLimit
 un:A.units+16*k+200<cLine
def Room.mono (r:Room k A)(h:j<=k):Room j A:=⟨r.hd,by have:=r.dp;lia,by have:=r.un;lia⟩
def Room.deeper (r:Room (k+1) A)(env:Env):Room k (A.deeper env):=
 ⟨r.hd,by have:=r.dp;show A.depth+1+3*k+5<_;lia,by have:=r.un;show A.units+3+16*k+200<_;lia⟩
def Room.depth (r:Room k A):A.depth<recursionLimit:=by have:=r.dp;lia
def Room.units (r:Room k A):A.units+64<dA:=by have:=r.un;lia
def a1n:TA:=λ_ H Q=>Q [] H
def uq (ta:TE)(tr:TA):TA:=λσ H Q=>ta σ H λx a=>tr σ a λY b=>Q (x::Y) b
section
variable{X:Cx} {e:cy} {es:List cy} {te:TE} {t:TA} {pos:Pos}
def aM:PA X [] a1n:=λ_ _ _ _ H Q I h=>aFg ⟨[],H,I,.nil,h⟩
def J0 (b:PE X e te)(c:PA X es t)(d:av (e::es) X.env=(false,d3 e X.env)::av es X.env:=by rfl):PA X (e::es) (uq te t):=by intro pos a s σ H Q I h;rw[d];show a5 _ _ (spliced ((false,d3 e X.env)::dq pos (av es X.env))) _ _ s;refine aET (E6 (b a s σ H _ I h) λu f ⟨x,g,k,l,m⟩=>?_);exact E6 (c pos a f σ g _ k m) λr v ⟨Y,n,o,p,q⟩=>⟨x::Y,n,o,.cons l p,q⟩
def a1y (t:TA):TE:=λσ H Q=>t σ H λY a=>Y.length<=sizeLine/\∀p,a p=none->Q (.ref p) (upd a p<|.tup Y)
def a2a (t:TA):TE:=λσ H Q=>t σ H λY a=>Y.length<=sizeLine/\∀p,a p=none->Q (.ref p) (upd a p<|.lst Y)
def ZC {g}(h:PA X es t):PE X (.Tuple es g pos) (a1y t):=by intro a s σ H Q I k;refine wpAny_Tuple_spliced (E6 (h pos a s σ H _ I k) λl c ⟨Y,d,f,r,z,q⟩=>⟨by rw[<-r.length];exact z,?_⟩);have m:d c.heap.objs.size=none:=f.hok.fresh (aAj _);refine⟨.ref c.heap.objs.size,upd d c.heap.objs.size (.tup Y),f.laid (t':=c.toks) (λb u e=>aAc _ e) (aAj _) ?_,rfl,q _ m⟩;exact⟨z,l,r,⟨_,aAo _ rfl,rfl,_,rfl⟩⟩
def QF (h:PA X es t):PE X (.List es pos) (a2a t):=by intro a s σ H Q I g;refine wpAny_List_spliced (E6 (h pos a s σ H _ I g) λk c ⟨Y,d,f,r,z,q⟩=>⟨by rw[<-r.length];exact z,?_⟩);have l:d c.heap.objs.size=none:=f.hok.fresh (aAj _);refine⟨.ref c.heap.objs.size,upd d c.heap.objs.size (.lst Y),f.laid (t':=c.toks) (λb u e=>aAc _ e) (aAj _) ?_,rfl,q _ l⟩;exact⟨z,k,0,r,aAo _ rfl⟩
end
abbrev Sp:=List V->Hp->VK->XK->Prop
abbrev SF:=List Env->Hp->a9->XK->ai->a9->Prop
structure Env0 (P:Program)(w:World)(K:PySem.W.Frag)(mg:dG)(base:Heap)(A:Around)(outer:List Env)(s:Shared)(H:Hp):Prop where
 frames:A.frames=some outer
 mod:Mod K mg base
 bs:∀b o,base.get? b=some o->s.heap.get? b=some o/\H b=none
 bsz:base.objs.size<=s.heap.objs.size
 funs:s.heap.FunFrames base outer
 frf:∀b∈AL outer,H b=none
 hok:gN P w H s.heap
 bare:AllBare s.gens
def CE (a:List Env)(P:bt)(w:cq)(H:Hp)(s:a9)(Q:VK)(u:ai)(s':a9):Prop:=
 ∃v b,s'.os=s.os/\AllBare s'.gens/\Un (AL a) [] H b s.heap s'.heap/\gN P w b s'.heap/\RelV v u/\Q v b
def CR (b:SF)(a:List Env)(P:bt)(w:cq)(H:Hp)(s:a9)(Q:VK)(E:XK)(r:Result)(s':a9):Prop:=
 match r with
 |.ok (.ret u)=>CE a P w H s Q u s'
 |.ok _=>False
 |.error e=>b a H s E e s'
structure FnOk (P:Program)(w:World)(K:PySem.W.Frag)(mg:dG)(base:Heap)(CX:SF)(k:Nat)(f:Addr)(fd:FuncData)(ps:List Str)(sp:Sp):Prop where
 len:∀vs H Q E,sp vs H Q E->vs.length=ps.length
 run:∀(A:Around) (outer:List Env) (s:Shared) (H:Hp) (args:Args) (us:List Value) (vs:List V) (Q:VK) (E:XK),Room k A->Env0 P w K mg base A outer s H->BindsTo s fd args (ps.zip us)->l6 vs us->sp vs H Q E->
  codeAny (model P w) A (.call (.ref f) args) (CR CX outer P w H s Q E) s
def FnOk.imp {P:bt}{w:cq}{K:kc}{mg:dG}{base:cv}{d:SF}{k:Nat}{f:bb}{fd:ek}{ps:List Str}{e b:Sp}(F:FnOk P w K mg base d k f fd ps e)
  (h:∀vs H Q E,b vs H Q E->e vs H Q E):FnOk P w K mg base d k f fd ps b:=
 ⟨λvs H Q E q=>F.len vs H Q E (h _ _ _ _ q),λA a s H c g vs Q E l m n o p=>F.run A a s H c g vs Q E l m n o (h _ _ _ _ p)⟩
section
variable{X:Cx} {pins:O5} {σ:St} {H:Hp} {s s':a9}
def Inv.af4 (I:Inv X pins σ H s):Env0 X.prog X.w X.K X.mg X.base X.A X.stack s H:=
 ⟨I.ok.frames,I.ok.mod,I.bs,aAr I.ok.bsz I.sz,I.stack,I.ad6,I.hok,I.bare⟩
def Inv.after (I:Inv X pins σ H s)(h:CE X.stack X.prog X.w H s Q u s'):EP X pins σ Q u s':=by obtain⟨v,f,os,a,un,c,r,q⟩:=h;obtain⟨k,g,d,t,e⟩:=s';obtain rfl:e=s.os:=os;exact⟨v,f,I.call (h':=k) (g':=g) (d':=d) (t':=t) (ch:=[]) un c a (λb z=>absurd z (by simp)),r,q⟩
end
def uk (b:Sp)(a:List V)(E:XK)(t:TA):TE:=λσ H Q=>t σ H λc d=>b (c++a) d Q E
def Binds (K:kc)(fd:ek)(ps:List Str)(ds:List ai):Prop:=
 ∀(s:a9) (us:List ai),K.In s.heap->(us++ds).length=ps.length->BindsTo s fd ⟨us,[]⟩ (ps.zip<|us++ds)
def Binds.all {K:kc}{fd:ek}{ps:List Str}(h:∀a:List ai,a.length=ps.length->bindArgs fd ⟨a,[]⟩=pure (ps.zip a)):Binds K fd ps []:=λs a _ b=>by rw[aCn]at b⊢;exact .of_eq (h a b)
def CM (c:SF)(X:Cx)(E:XK):Prop:=∀(a:O5) (σ:St) (H:Hp) (s:a9) (e:ai) (b:a9),Inv X a σ H s->c X.stack H s E e b->X.xe e b
section
variable{X:Cx} {CX:SF} {k:Nat} {f C:bb} {fd:ek} {ps:List Str} {sp:Sp} {dvs:List V} {ds:List ai} {E:XK} {x m:Str} {p pos apos:Pos} {e o:cy} {es:List cy} {ta:TE} {t:TA}
def ZI (F:FnOk X.prog X.w X.K X.mg X.base CX k f fd ps sp)(g:Room k X.A)(l:Binds X.K fd ps ds)(n:l6 dvs ds)(q:CM CX X E)(I:Inv X a σ H s)(r:l6 vs b)(h:sp (vs++dvs) H Q E):a5 (bc X.prog X.w) X.A (call (.ref f) b) (EP X a σ Q) X.xe s:=by
 have d:l6 (vs++dvs) (b++ds):=r.append n;have v:(b++ds).length=ps.length:=by rw[<-d.length];exact F.len _ _ _ _ h
 refine wpAny_call (aDP (F.run X.A X.stack s H ⟨b,[]⟩ (b++ds) (vs++dvs) Q E g I.af4 (l s b I.kIn v) d h) λr y c=>?_);cases r with
 |error e=>exact q a σ H s e y I c
 |ok z=>
  cases z with
  |ret u=>exact I.after c
  |next=>exact aAi c
  |brk=>exact aAi c
  |cont=>exact aAi c
def GI (F:FnOk X.prog X.w X.K X.mg X.base CX k f fd ps sp)(c:Room k X.A)(d:Gl X x)(g:X.mg x=some (.ref f))(l:PySem.W.keepIn X.K (.ref f)=true)(n:Binds X.K fd ps ds)(u:l6 dvs ds)(v:CM CX X E)
  (y:PA X (e::es) t) (z:(x==kd)=false:=by decide) (B:av (e::es) X.env=(false,d3 e X.env)::av es X.env:=by rfl) (J:(dq pos (av es X.env)).any (·.1)=false:=by rfl):
  PE X (.Call (.Name x p) (e::es) [] pos) (uk sp dvs E t):=by
 intro a s σ H Q I h;refine aAL (vS I d g ?_ z);refine PySem.W.callWith_K (h₀:=X.base) I.ok.mod.kin l (E6 (y pos a s σ H _ I h) λL N ⟨O,T,b,r,q⟩=>⟨b.kIn,?_⟩) B J;exact ZI F c n u v b r q
end
section
variable{X:Cx} {CX:SF} {k:Nat} {f C:bb} {fd:ek} {ps ks:List Str} {sp:Sp} {E:XK} {x m:Str} {p pos apos kpos:Pos} {e o:cy} {es:List cy} {kws:List Keyword} {te ta:TE} {t tk:TA} {nm:Option Str}
variable{g:List ai->List ai->List ai} {gV:List V->List V->List V}
end
structure FnScope (N P:List Str)(sc:Scope):Prop where
 kind:sc.kind=.function
 co:sc.isCoroutine=false
 gen:sc.isGenerator=false
 nd:N.Nodup
 pre:N.take P.length=P
 par:∀x∈P,sc.names.lookup x=some .local\/sc.names.lookup x=some .cell
 nofree:∀y∈sc.names,y.2≠.free
theorem uL {kindOf:Str->Option eY}{x:Str}:∀{binds:List (Str×ai)} {m:dG},(∀v,(x,v)∉binds)->bindL kindOf binds m x=m x
 |[],_,_=>rfl
 |(n,v)::r,m,h=>by
  unfold bindL;rw[uL λw a=>h w (aAe _ a)];split
  .have:x≠n:=by rintro rfl;exact h v aBa
   simp[this]
  .rfl
theorem tQ {kindOf:Str->Option eY}{x:Str}:∀{binds:List (Str×ai)} {m:dG},(∀v,(x,v)∉binds)->bindC kindOf binds m x=m x
 |[],_,_=>rfl
 |(n,v)::r,m,h=>by
  unfold bindC;rw[tQ λw a=>h w (aAe _ a)];split
  .rfl
  .have:x≠n:=by rintro rfl;exact h v aBa
   simp[this]
theorem tK {kindOf:Str->Option eY}{x:Str}{v:ai}:∀{P:List Str} {vs:List ai} {i:Nat} {m:dG},P.Nodup->P[i]?=some x->vs[i]?=some v->kindOf x=some .local->
  bindL kindOf (P.zip vs) m x=some v
 |[],_,_,_,_,h,_,_=>by simp at h
 |_::_,[],_,_,_,_,h,_=>by simp at h
 |p::P,w::vs,0,m,c,a,b,d=>by simp at a b;subst a;subst b;show bindL kindOf ((p,w)::P.zip vs) m p=_;unfold bindL;rw[uL λv e=>(aAI.mp c).1 (aDS e).1,jk d];simp
 |p::P,w::vs,i+1,m,c,a,b,d=>by show bindL kindOf ((p,w)::P.zip vs) m x=_;unfold bindL;exact tK (i:=i) (aAI.mp c).2 (by simpa using a) (by simpa using b) d
theorem tU {kindOf:Str->Option eY}{x:Str}{v:ai}:∀{P:List Str} {vs:List ai} {i:Nat} {m:dG},P.Nodup->P[i]?=some x->vs[i]?=some v->kindOf x≠some .local->
  bindC kindOf (P.zip vs) m x=some v
 |[],_,_,_,_,h,_,_=>by simp at h
 |_::_,[],_,_,_,_,h,_=>by simp at h
 |p::P,w::vs,0,m,c,a,b,d=>by simp at a b;subst a;subst b;show bindC kindOf ((p,w)::P.zip vs) m p=_;unfold bindC;rw[tQ λv e=>(aAI.mp c).1 (aDS e).1,ka d];simp
 |p::P,w::vs,i+1,m,c,a,b,d=>by show bindC kindOf ((p,w)::P.zip vs) m x=_;unfold bindC;exact tU (i:=i) (aAI.mp c).2 (by simpa using a) (by simpa using b) d
def start (N:List Str)(vs:List V):St:=vs.map some++aCP (N.length-vs.length) none
def CI (c:SF)(P:bt)(w:cq)(K:kc)(mg:dG)(base:cv)(N:List Str)(qual:Str)(a:i6)(f:bb)(cd:ai)(A:cp)(outer:List Env)(s:a9)(H:Hp)(E:XK):Cx where
 prog:=P
 w:=w
 K:=K
 mg:=mg
 base:=base
 A:=A.deeper (envOfC qual a s.heap.objs.size f cd)
 N:=N
 s9:=s
 H9:=H
 env:=envOfC qual a s.heap.objs.size f cd
 outer:=outer
 stack:=envOfC qual a s.heap.objs.size f cd::outer
 ex:=[]
 calm:=true
 fn:=λ_=>true
 pn:=[]
 xe:=λe d=>a5 (bc P w) (A.deeper<|envOfC qual a s.heap.objs.size f cd) (leaving (envOfC qual a s.heap.objs.size f cd) e) (λ_ b=>c outer H s E e b) (λg b=>c outer H s E g b) d
def AB {sc:i6}{n:Nat}{x:Str}(h:sc.names.lookup x=some .cell):∃c,(eQ n sc.names []).lookup x=some c:=by have q:=PySem.W.cellsFrom_some sc.names n [] (.inl h);exact aFh.mp q
def JI {O:SF}{P:bt}{w:cq}{K:kc}{mg:dG}{base:cv}{N ps:List Str}{qual:Str}{d:i6}{f:bb}{cd:ai}{A:cp}{g:List Env}{s Q:a9}{H:Hp}{E:XK}{L:List ai}{vs:List V}
  (S:FnScope N ps d) (Y:A.handled=none) (m:Env0 P w K mg base A g s H) (hl:vs.length=ps.length) (r:l6 vs L)
  (x:InCallC s s.heap.objs.size (bindL (envOfC qual d s.heap.objs.size f cd).kindOf (ps.zip L) λ_=>none) (eQ (s.heap.objs.size+1) d.names []) (bindC (envOfC qual d s.heap.objs.size f cd).kindOf (ps.zip L) λ_=>none) Q):
  Inv (CI O P w K mg base N qual d f cd A g s H E) [] (start N vs) H Q:=by
 have bg:ps.length<=N.length:=by have:=kb aGb S.pre;rw[aBP]at this;lia
 obtain⟨I,tk,rfl,T⟩:=x.done;have o:∀b:bb,b∉(CI O P w K mg base N qual d f cd A g s H E).ex:=λb z=>absurd (show b∈([]:List bb)from z) (by simp);refine⟨⟨m.mod,S.kind,rfl,rfl,aAj _,λy z c I l=>?_,λy t=>?_,λy c _ h=>?_,λ_=>Y,aFP m.frames,.inr ⟨rfl,rfl⟩,λb z=>absurd z (o b),m.bs,m.bsz,λb _ _=>o b,λb z=>absurd z (o b),m.funs,m.frf⟩,
  rfl,m.bare,Un.kept T,⟨_,x.toInCall.ns,λi y v I l h3=>?_⟩,λy c h=>⟨_,x.cell y c h⟩,m.hok.fresh (aAj _),λy c h=>?_,λp B=>absurd (show p∈([]:O5)from B) (by simp),m.hok.kept T,?_⟩
 .exact name_of_addr x.apart (PySem.mem_of_lookup I) (PySem.mem_of_lookup l)
 .have t:d.names.lookup y=some .cell\/d.names.lookup y=some .free:=t;rcases t with t|t
  .exact AB t
  .exact absurd rfl (S.nofree _<|PySem.mem_of_lookup t)
 .exact aDu (x.above y c<|PySem.mem_of_lookup h)
 .have J:i<vs.length:=by
   unfold start at l;by_cases J:i<vs.length
   .exact J
   .rw[aAz (by simpa using J)]at l;rw[aBq]at l;split at l<;>cases l
  have ha:vs[i]?=some v:=by
   unfold start at l;rw[aAQ (by simpa using J),aAG]at l;cases e:vs[i]? with
   |none=>rw[e]at l;cases l
   |some a=>rw[e]at l;cases l;rfl
  obtain⟨u,U,rv⟩:=r.get ha;have B:ps[i]?=some y:=by rw[<-S.pre,List.getElem?_take_of_lt (by lia)];exact I
  have C:ps.Nodup:=by rw[<-S.pre];exact S.nd.sublist (List.take_sublist _ _)
  refine⟨u,rv,?_⟩;rcases S.par y (aAn B)with k|k
  .exact .inl ⟨k,tK C B U k⟩
  .obtain⟨c,e⟩:=AB (n:=s.heap.objs.size+1) k;refine .inr ⟨.inl k,c,e,?_⟩;have q:=x.cell y c e;rw[tU C B U (by show d.names.lookup y≠_;rw[k];decide)]at q;exact q
 .exact m.hok.fresh (aDu<|x.above y c<|PySem.mem_of_lookup h)
 .unfold start;show _=N.length;rw[aAE,aAf,aCo]
  lia
def XS {z:SF}{P:bt}{w:cq}{K:kc}{mg:dG}{base:cv}{k:Nat}{f:bb}{name qual:Str}{d:Arguments}{body:List dm}{a:i6}{dV kV h pm T ct oc:ai}{an od:Option bb}
  {C:Array (Option ai)} {N ps:List Str} {L:Sp} (lk:K.lookup f=some ⟨oc,od,.func (PySem.W.fnOf name qual d body a dV kV h pm an T ct),C⟩) (fb:PySem.W.codeIn K T qual=true) (S:FnScope N ps a)
  (len:∀vs H Q E,L vs H Q E->vs.length=ps.length)
  (vm:∀(A:cp) (c:List Env) (s:a9) (H:Hp) (vs:List V) (Q:VK) (E:XK),Room k (A.deeper (envOfC qual a s.heap.objs.size f T))->L vs H Q E->
   ∃t,uW (CI z P w K mg base N qual a f T A c s H E) body t/\t {nx:=λ_ H'=>Q .non H',rt:=Q} (start N vs) H):
  FnOk P w K mg base z (k+1) f (PySem.W.fnOf name qual d body a dV kV h pm an T ct) ps L:=by
 refine⟨len,λA c s H args us vs Q E O l hb r m=>?_⟩;have hl:=len _ _ _ _ m;have KX:K.In s.heap:=l.mod.kin.keeps λb o e=>(l.bs b o e).1;have U:s.heap.NoLimit:=l.mod.nolimit.keeps λb o e=>(l.bs b o e).1;have om:∀y∈ps.zip us,a.names.lookup y.1=some .local\/(a.names.lookup y.1=some .cell/\((eQ (s.heap.objs.size+1) a.names []).lookup y.1).isSome=true):=λ⟨n,v⟩ hy=>by
  rcases S.par n (aDS hy).1 with q|q
  .exact .inl q
  .exact .inr ⟨q,PySem.W.cellsFrom_some _ _ _ (.inl q)⟩
 refine codeAny_call_function O.depth (KX _ _ lk) rfl S.co S.gen rfl (PySem.W.codeRec_of KX fb) (hb _ _ _ _ ?_);refine wpAny_newFunctionEnv_cells S.kind om λenv he s1 x=>?_;subst he;refine⟨U.keeps x.toInCall.keep,codeAny_func ?_⟩;obtain⟨t,ht,hq⟩:=vm A c s H vs Q E (O.deeper _) m;have I:Inv (CI z P w K mg base N qual a f T A c s H E) [] (start N vs) H s1:=JI S O.hd l hl r x;refine aCF (ht [] s1 (start N vs) H _ I hq) (λfl Y g=>?_) λe Y g=>g;have p:∀{B:St} {H':Hp} {v:V} {u:ai},Inv (CI z P w K mg base N qual a f T A c s H E) [] B H' Y->RelV v u->Q v H'->CE c P w H s Q u Y:=
  λ{B H' v u} J rv q=>⟨v,H',J.os,J.bare,J.base,J.hok,rv,q⟩
 cases fl with
 |ret u=>obtain⟨v,B,H',J,rv,q⟩:=g;exact p J rv q
 |next=>obtain⟨B,H',J,q⟩:=g;exact p (v:=V.non) (u:=Value.none) J rfl q
 |brk=>obtain⟨_,_,_,q⟩:=g;exact aAi q
 |cont=>obtain⟨_,_,_,q⟩:=g;exact aAi q
section
variable{X:Cx} {x:Str} {p pos:Pos} {e:cy} {es:List cy} {t:TA} {id T:String} {r:List V->Hp->VK->Prop}
end
end L2
namespace HT
open PySem PyProof.Rows
def lexLt:List Int->List Int->Bool
 |[],[]=>false
 |[],_::_=>true
 |_::_,[]=>false
 |x::Y,y::a=>if x=y then lexLt Y a else decide (x<y)
def G2 (x y:Int)(Y a:List Int):lexLt (x::Y) (y::a)=if x=y then lexLt Y a else decide (x<y):=rfl
def aO:lexLt [] []=false:=rfl
def N8 (y:Int)(a:List Int):lexLt [] (y::a)=true:=rfl
def C7 (x:Int)(Y:List Int):lexLt (x::Y) []=false:=rfl
def yS (A:cp)(s:a9)(a:Int)(t:Tok)(c:Int)(u:Tok):∃e,SeqAt.EqAt A s (.int a t) (.int c u) e/\(e=true↔a=c):=
 ⟨(a==c),aEU a t c u,by simp⟩
def zH (A:cp)(s:a9)(a:Int)(t:Tok)(c:Int)(u:Tok)(prog:bt)(w:cq)(E:E8)(Q:E8)(h:Q (.bool (decide (a<c))) s):
  a5 (bc prog w) A (richCompare .Lt (.int a t) (.int c u)) Q E s:=
 (PyProof.Rows.lt_int h:a5 (bc prog w) A (ee .Lt (.int a t) (.int c u)) Q E s)
section
open PySem.SeqAt
open PySem.AutoSeq1 (wpAny_loadPart')
open PySem.MeetsSeq PySem.MeetsSeq2 PySem.MeetsSeq3
def rR (l b:bb)(items p:Array ai)(n n2:Nat)(dd vo:Option bb)(sl um:Array (Option ai))(ns C:List Int)(Y:IntsAre items.toList ns)(hj:IntsAre p.toList C):
  Meets (Builtin.«tuple.__lt__» ⟨[.ref l,.ref b],[]⟩)
   (λ_ R s=>s.heap.get? l=some {cls:=.type "tuple",dict:=dd,data:=.seq items n,slots:=sl}/\s.heap.get? b=some {cls:=.type "tuple",dict:=vo,data:=.seq p n2,slots:=um}/\
    R (.ok (.ret (.bool (lexLt ns C)))) s):=
 .of_wp λm w A R s h=>by
  obtain⟨E,g,d,H,os⟩:=s;obtain⟨hl,hb,h⟩:=h;have f2:=AutoSeq1.sub_tuple_tuple;have z1:items.size=ns.length:=by rw[<-Y.length];simp
  have z2:p.size=C.length:=by rw[<-hj.length];simp
  wp_walk using aEA hl,aEA hb,aCu _ (λrest b N=>b.1=none/\N=⟨E,g,d,H,os⟩/\∃(I J:List ai) (r v:List Int),rest=I.zip J/\
   IntsAre I r/\IntsAre J v/\r.length+p.size=v.length+items.size/\R (.ok (.ret (.bool (lexLt r v)))) ⟨E,g,d,H,os⟩) _
  case turn=>
   rintro⟨y,x⟩ rest b N ⟨O,rfl,I,J,r,v,k,Q,L,f,o⟩;cases Q with
   |nil=>rw[List.zip_nil_left]at k;cases k
   |cons a t z=>
    cases L with
    |nil=>rw[List.zip_nil_right]at k;cases k
    |cons c u B=>
     rw[aBV]at k;injection k with T ah;injection T with hy hx;subst hy hx;rw[G2]at o;simp only[aAw]at f;obtain⟨e,he,vp⟩:=yS A.in1 ⟨E,g,d,H,os⟩ a t c u;refine aAa (he m w _ _ ?_);cases e with
     |true=>
      rw[jk (vp.mp rfl)]at o
      wp_walk
      exact⟨rfl,rfl,_,_,_,_,ah,z,B,by lia,o⟩
     |false=>
      rw[ka (λq=>absurd (vp.mpr q) aAP)]at o;have U:=zH A.in1 ⟨E,g,d,H,os⟩ a t c u m w
      wp_walk using U
      exact⟨_,rfl,by simpa using o⟩
  case fin=>
   rintro⟨b1,b2⟩ N ⟨O,rfl,I,J,r,v,k,Q,L,f,o⟩;simp only at O;subst O;have hv:lexLt r v=decide (items.size<p.size):=by
    cases Q with
    |nil=>
     cases L with
     |nil=>simp only[aBL]at f;rw[aO];exact(decide_eq_false (by lia)).symm
     |cons c u hw=>simp only[aBL,aAw]at f;rw[N8];exact(decide_eq_true (by lia)).symm
    |cons a t hv=>
     cases L with
     |nil=>simp only[aBL,aAw]at f;rw[C7];exact(decide_eq_false (by lia)).symm
     |cons c u hw=>rw[aBV]at k;cases k
   rw[hv]at o
   wp_walk
   exact⟨_,rfl,by simpa[Builtin.Tuple.tupleCompareSizes]using o⟩
  case h=>exact⟨rfl,rfl,items.toList,p.toList,ns,C,rfl,Y,hj,by lia,h⟩
end
section
variable{prog:bt} {w:cq} {A:cp} {E:E8} {s:a9}
def lt_tupInts {Q:E8}(q:IsTup s.heap l items)(r:IsTup s.heap b d)(t:IntsAre items.toList ns)(u:IntsAre d.toList c)(v:A.units<dA)(h:Q (.bool (lexLt ns c)) s):a5 (bc prog w) A (ee .Lt (.ref l) (.ref b)) Q E s:=by
 obtain⟨⟨y,z,e,B⟩,f,g,n,k⟩:=id q;obtain⟨⟨m,C,data2,H⟩,o,p,I,a⟩:=id r;simp only at g k p a;subst g k p a;exact richCompare_meets_room (op:=.Lt) ⟨_,f,rfl⟩ ⟨_,o,rfl⟩ PySem.F.slot_tuple_lt PySem.F.entry_tuple_lt (PySem.F.args_tuple_lt_2 _ _) (rR l b items d n I z C B H ns c t u)
  ⟨f,o,show aDA (lexLt ns c)≠Value.notImplemented/\Q (.bool (lexLt ns c)) s from⟨(λx=>nomatch x),h⟩⟩ v
def cat_tup {Q:E8}(x:IsTup s.heap t vs.toArray)(y:IsTup s.heap b ws.toArray)(h:vs≠[])(z:ws=[]->Q (.ref t) s)(B:ws≠[]->Q (.ref s.heap.objs.size) {s with heap:=s.heap.push {cls:=.type "tuple",data:=.seq (vs++ws).toArray}})(g:vs.length+ws.length<=sizeLine):a5 (bc prog w) A (eR .Add (.ref t) (.ref b)) Q E s:=by
 obtain⟨⟨cls,k,data,l⟩,c,m,n,o⟩:=id x;obtain⟨⟨p,q,data2,r⟩,d,u,v,a⟩:=id y;simp only at m o u a;subst m o u a;have e:vs.toArray++ws.toArray=(vs++ws).toArray:=by simp
 by_cases f:ws=[]
 .exact aFI ⟨_,c,rfl⟩ ⟨_,d,rfl⟩ aFt seq_tuple_add PySem.F.slot_tuple_add PySem.F.entry_tuple_add (PySem.F.args_tuple_add_2 _ _)
   (tuple_addW1 t b vs.toArray ws.toArray n v k q l r (by simpa using h) (by simp[f])) ⟨c,d,z f⟩
 .refine aFI ⟨_,c,rfl⟩ ⟨_,d,rfl⟩ aFt seq_tuple_add PySem.F.slot_tuple_add PySem.F.entry_tuple_add (PySem.F.args_tuple_add_2 _ _)
   (tuple_addW2 t b vs.toArray ws.toArray n v k q l r (by simpa using h) (by simpa using f) (by rw[aAm,aAm];exact g)) ⟨c,d,?_⟩
  rw[e];exact B f
def sIx (n d:Nat):Option Int->Nat
 |none=>d
 |some v=>if v<0 then(v+(n:Int)).toNat else min v.toNat n
def xj (n d:Nat):sIx n d none=d:=rfl
def YS (n d:Nat)(b:d<=n)(o:Option Int):sIx n d o<=n:=by
 cases o with
 |none=>exact b
 |some v=>
  show(if v<0 then(v+(n:Int)).toNat else min v.toNat n)<=n;by_cases a:v<0
  .rw[jk a];lia
  .rw[ka a];exact Nat.min_le_right _ _
def HB (v:Int)(n d:Nat):(if v<0 then max (v+(n:Int)) 0 else min v (n:Int))=((sIx n d (some v):Nat):Int):=by
 show(if v<0 then max (v+(n:Int)) 0 else min v (n:Int))=(((if v<0 then(v+(n:Int)).toNat else min v.toNat n):Nat):Int);by_cases a:v<0
 .simp only[jk a];lia
 .simp only[ka a];lia
def EL (lo a:Option Int)(n:Nat):aDG lo a 1 (n:Int)=(((sIx n 0 lo:Nat):Int),((sIx n n a:Nat):Int)):=by
 have b:¬((1:Int)<0):=by lia
 unfold aDG;simp only[b,if_false];refine aFl ?_ ?_
 .cases lo with
  |none=>rfl
  |some v=>exact HB v n 0
 .cases a with
  |none=>rfl
  |some v=>exact HB v n n
def DW (i j:Nat):aCQ (i:Int) (j:Int) 1=j-i:=by
 unfold aCQ;have a:(1:Int)>0:=by lia
 simp only[a,if_true,Int.ediv_one];split<;>lia
def pZ {Q:Option Int->a9->Prop}(p:IsPart v o)(h:Q o s):a5 (bc prog w) A (Builtin.Slice.slicePartIndex v) Q E s:=by
 cases p with
 |none=>exact slicePart_none h
 |int i t=>exact slicePart_int h
def lD {sl:bb}{c d:ai}{lo a:Option Int}{n:Nat}{Q:Int×Int×Nat->a9->Prop}(f:s.heap.IsSliceOf sl c d .none)(g:IsPart c lo)(k:IsPart d a)
  (h:Q (((sIx n 0 lo:Nat):Int),1,sIx n n a-sIx n 0 lo) s):a5 (bc prog w) A (aEL (.ref sl) (pure (n:Int))) Q E s:=by
 obtain⟨os,b,l,e⟩:=id f;unfold aEL Builtin.Slice.sliceFields;refine aAa (aAa<|aCR b e (x:=c) rfl<|aAa<|aCR b e (x:=d) rfl<|aAa<|aCR b e (x:=.none) rfl<|aAb ?_);refine aAa (slicePart_none ?_);show a5 _ _ (if((1:Int)==0)=true then _ else _) _ _ s;rw[ka (by decide)];refine aAa (pZ g<|aAa<|pZ k<|aAa<|aAb ?_);show a5 _ _ (match aDG lo a 1 (n:Int)with|(lo,a)=>pure (lo,(1:Int),aCQ lo a 1)) _ _ s;rw[EL lo a n];show a5 _ _ (pure (((sIx n 0 lo:Nat):Int),(1:Int),aCQ ((sIx n 0 lo:Nat):Int) ((sIx n n a:Nat):Int) 1)) _ _ s;rw[DW];exact aAb h
def QC (Y:Array ai)(i k:Nat):((aBw k).filterMap λ(m:Nat)=>Y[((i:Int)+(m:Int)*1).toNat]?).toArray=((Y.toList.drop i).take k).toArray:=by
 have e:(λ(m:Nat)=>Y[((i:Int)+(m:Int)*1).toNat]?)=λm=>Y[i+m]?:=by
  funext m
  have:((i:Int)+(m:Int)*1).toNat=i+m:=by lia
  rw[this]
 rw[e];have:=pick_run Y i k;rw[aDn]at this;have a:((λx=>Y[x]?)∘λx=>i+x)=λm=>Y[i+m]?:=rfl;rw[a]at this;rw[this]
def getItem_tuple_cut {t sl:bb}{items:Array ai}{g k:ai}{lo a:Option Int}{Q:E8}(b:IsTup s.heap t items)(l:s.heap.IsSliceOf sl g k .none)(n:IsPart g lo)(o:IsPart k a)
  (p:¬(sIx items.size 0 lo=0/\sIx items.size items.size a=items.size))
  (h:Q (.ref s.heap.objs.size) {s with heap:=s.heap.push {cls:=.type "tuple",data:=.seq ((items.toList.drop (sIx items.size 0 lo)).take (sIx items.size items.size a-sIx items.size 0 lo)).toArray}})
  (r:items.size<=sizeLine):a5 (bc prog w) A (getItem (.ref t) (.ref sl)) Q E s:=by
 have c:sizeOk (.seq ((items.toList.drop<|sIx items.size 0 lo).take (sIx items.size items.size a-sIx items.size 0 lo)).toArray):=by
  show((items.toList.drop<|sIx items.size 0 lo).take (sIx items.size items.size a-sIx items.size 0 lo)).toArray.size<=sizeLine;rw[aAm,aBP,aCt,aBd]
  lia
 have v:sIx items.size items.size a<=items.size:=YS _ _ (aAj _) a;obtain⟨os,d,u,x⟩:=id l;have e:s.TypeIs (.ref sl) "slice":=⟨os,d,u⟩;unfold getItem;try with_reducible refine aAK ?_
 first|refine aAa (aAb ?_)|skip
 refine aAa (wpAny_sequenceKey b.typeIs (by decide) ?_);refine aAa (aBY (name:=aCD "__getitem__") b.typeIs aCE
  (aBh aCE b.typeIs entry_tuple_getitem ?_ (args_tuple_getitem _ _)))
 show a5 _ _ (aDD (.ref t)>>=_) _ _ s;refine aAa (tupleItemsOf_ b ?_);refine aAa (aDQ e ?_);rw[jk (by decide)];refine aAa (lD l n o ?_);have f:¬((((sIx items.size 0 lo:Nat):Int)==0&&(1:Int)==1&&(sIx items.size items.size a-sIx items.size 0 lo)==items.size)=true):=by intro q;rw[aAM,aAM]at q;have y:((sIx items.size 0 lo:Nat):Int)=0:=eq_of_beq q.1.1;have z:sIx items.size items.size a-sIx items.size 0 lo=items.size:=eq_of_beq q.2;exact p ⟨by lia,by lia⟩
 show a5 _ _ (if(((sIx items.size 0 lo:Nat):Int)==0&&(1:Int)==1&&(sIx items.size items.size a-sIx items.size 0 lo)==items.size)=true then _ else _) _ _ s;rw[ka f,QC];first
  |exact aAa (m:=aCY _) (aAS (aAb ⟨_,rfl,aAb h⟩) c)
  |exact aAa (m:=aCY _) (aAS (aAa<|aAb<|aAb ⟨_,rfl,aAb h⟩) c)
  |exact aAa (aAa (m:=aCY _)<|aAS (aAb<|aAb ⟨_,rfl,aAb h⟩) c)
  |exact aAa (aAa (m:=aCY _)<|aAS (aAb ⟨_,rfl,aAb h⟩) c)
end
end HT
namespace L2
open PySem PySem.Spec PyProof.Rows
abbrev TO:=St->Hp->(Option Int->Hp->Prop)->Prop
def PO (X:Cx)(e:Option cy)(t:TO):Prop:=
 ∀(a:O5) (s:a9) (σ:St) (H:Hp) (Q:Option Int->Hp->Prop),Inv X a σ H s->t σ H Q->
  a5 (bc X.prog X.w) X.A (evalPart e X.env) (λu c=>∃o b,Inv X a σ b c/\IsPart u o/\Q o b) X.xe s
def VQ:TO:=λ_ H Q=>Q none H
def qw (t:TE):TO:=λσ H Q=>t σ H λx a=>∃i,x=.int i/\Q (some i) a
section
variable{X:Cx} {e:cy} {te:TE} {lo hi:Option cy} {tl th:TO} {pos p2:Pos}
def vZ:PO X none VQ:=by intro a s σ H Q I h;rw[evalPart_none];exact aAb ⟨none,H,I,.none,h⟩
def UP (h:PE X e te):PO X (some e) (qw te):=by intro a s σ H Q I b;rw[evalPart_some];refine E6 (h a s σ H _ I b) λu k ⟨x,c,d,f,g⟩=>?_;obtain⟨i,rfl,q⟩:=g;obtain⟨t,rfl⟩:=f;exact⟨some i,c,d,.int i t,q⟩
def jq (X:Cx)(r:V->Option Int->Option Int->Hp->VK->Prop):Prop:=
 ∀(a:O5) (s:a9) (σ:St) (H:Hp) (x:V) (v b c:ai) (lo hi:Option Int) (d:bb) (Q:VK),Inv X a σ H s->RelV x v->s.heap.IsSliceOf d b c .none->IsPart b lo->IsPart c hi->r x lo hi H Q->
  ∃T id,typeLookup (.type T) "__getitem__"=pure (some<|.builtin id)/\s.TypeIs v T/\a5 (bc X.prog X.w) X.A (getItem v<|.ref d) (EP X a σ Q) X.xe s
def jq.or {r b:V->Option Int->Option Int->Hp->VK->Prop}(h:jq X r)(h':jq X b):jq X (λx lo hi H Q=>r x lo hi H Q\/b x lo hi H Q):=by
 intro a s σ H x v c d lo hi f Q I g k l m q;rcases q with q|q
 .exact h a s σ H x v c d lo hi f Q I g k l m q
 .exact h' a s σ H x v c d lo hi f Q I g k l m q
def tSl (r:V->Option Int->Option Int->Hp->VK->Prop)(te:TE)(tl th:TO):TE:=λσ H Q=>te σ H λx a=>tl σ a λl b=>th σ b λu c=>r x l u c Q
def OV {r:V->Option Int->Option Int->Hp->VK->Prop}(k:jq X r)(m:PE X e te)(n:PO X lo tl)(o:PO X hi th):PE X (.Subscript e (.Slice lo hi none p2) pos) (tSl r te tl th):=by intro a s σ H Q I h;refine Subscript_ (E6 (m a s σ H _ I h) λv p ⟨x,t,y,z,B⟩=>?_);refine wpAny_Slice (E6 (n a p σ t _ y B) λd C ⟨l,E,J,L,N⟩=>E6 (o a C σ E _ J N) λf c ⟨u,g,O,U,Y⟩=>?_);rw[evalPart_none];refine aAb ?_;have I4:Inv X a σ g {c with heap:=c.heap.push {cls:=.type "slice",data:=.fields #[d,f,.none]}}:=O.kept (t':=c.toks) λb ob q=>aAc _ q;obtain⟨T,id,hT,ht,hg⟩:=k a {c with heap:=c.heap.push {cls:=.type "slice",data:=.fields #[d,f,.none]}} σ g x v d f l u c.heap.objs.size Q I4 z (Heap.IsSliceOf.new ..) L U Y;show a5 (bc X.prog X.w) X.A (subscriptTail e (.Slice lo hi none p2) v<|.ref c.heap.objs.size) (EP X a σ Q) X.xe {c with heap:=c.heap.push {cls:=.type "slice",data:=.fields #[d,f,.none]}};exact tail_any (ops:=[.ref c.heap.objs.size,v]) ht hT hg (by with_unfolding_all rfl)
def AC (Y:List V)(lo hi:Option Int):List V:=(Y.drop<|HT.sIx Y.length 0 lo).take (HT.sIx Y.length Y.length hi-HT.sIx Y.length 0 lo)
def mV (Y:List V)(lo hi:Option Int):(AC Y lo hi).length<=Y.length:=by
 unfold AC;rw[aBP,aCt]
 lia
def a0g (K:kc):V->Option Int->Option Int->Hp->VK->Prop:=λx lo hi H Q=>∃a Y,x=.ref a/\X1 K H a Y/\
 ¬(HT.sIx Y.length 0 lo=0/\HT.sIx Y.length Y.length hi=Y.length)/\∀p,H p=none->Q (.ref p) (upd H p<|.tup (AC Y lo hi))
def YE:jq X (a0g X.K):=by
 intro f s σ H x v w y lo hi z Q I l m n p h;obtain⟨a,Y,rfl,t,u,q⟩:=h;cases l;obtain⟨d,r,g,k⟩:=I.tuple t;have c:d.toArray.size=Y.length:=by rw[aAm];exact r.length.symm
 refine⟨"tuple",_,aCE.lookup,g.typeIs,?_⟩;refine HT.getItem_tuple_cut g m n p (by rw[c];exact u) ?_ (by rw[c];exact k);rw[c];refine⟨.ref s.heap.objs.size,_,I.laid (t':=s.toks) (o:=.tup (AC Y lo hi)) (λb A q=>aAc _ q) (aAj _) ?_,rfl,q _ (I.hok.fresh<|aAj _)⟩;exact⟨aAr (mV Y lo hi) k,_,(r.drop<|HT.sIx Y.length 0 lo).take (HT.sIx Y.length Y.length hi-HT.sIx Y.length 0 lo),IsTup.new _ _⟩
def a0e (K:kc):R2:=λx y H Q=>∃a b Y c,x=.ref a/\y=.ref b/\X1 K H a Y/\X1 K H b c/\Y≠[]/\Y.length+c.length<=sizeLine/\
 (c=[]->Q (.ref a) H)/\(c≠[]->∀p,H p=none->Q (.ref p) (upd H p<|.tup (Y++c)))
def l6.ac5 (r:l6 Y a):a=[]↔Y=[]:=by
 cases r with
 |nil=>simp
 |cons _ _=>simp
def FG:lP X (eR .Add) (a0e X.K):=by intro f s σ H x y v u Q I k l h;obtain⟨a,b,Y,m,rfl,rfl,n,p,r,g,t,A⟩:=h;cases k;cases l;obtain⟨B,d,C,_⟩:=I.tuple n;obtain⟨E,c,p2,_⟩:=I.tuple p;refine HT.cat_tup C p2 (λz=>r (d.ac5.mp z)) (λz=>⟨.ref a,H,I,rfl,t (c.ac5.mp z)⟩) (λz=>?_) (by rw[<-d.length,<-c.length];exact g);refine⟨.ref s.heap.objs.size,_,I.laid (t':=s.toks) (o:=.tup (Y++m)) (λb J q=>aAc _ q) (aAj _) ?_,rfl,A (λw=>z (c.ac5.mpr w)) _ (I.hok.fresh<|aAj _)⟩;exact⟨by rw[aAE];exact g,_,d.append c,IsTup.new _ _⟩
end
def IN (n:Nat)(i:Int):Option Nat:=if 0<=i then(if i<n then some i.toNat else none)else if-(n:Int)<=i then some (i+n).toNat else none
def rG {α:Type}(Y:List α)(i:Int):Option α:=(IN Y.length i).bind λj=>Y[j]?
def FW (h:IN n i=some j):seqIndex? i n=some j/\j<n/\-(n:Int)<=i/\i<n:=by
 unfold IN at h;by_cases b:0<=i
 .rw[jk b]at h;by_cases a:i<n
  .rw[jk a]at h;have e:i.toNat=j:=aAk h;exact⟨by rw[seqIndex_of b a,e],by lia,by lia,a⟩
  .rw[ka a]at h;cases h
 .rw[ka b]at h;by_cases a:-(n:Int)<=i
  .rw[jk a]at h;have e:(i+n).toNat=j:=aAk h;exact⟨by rw[seqIndex_neg (by lia) a,e],by lia,a,by lia⟩
  .rw[ka a]at h;cases h
def HD {α:Type}{Y:List α}{i:Int}{v:α}(h:rG Y i=some v):∃j,seqIndex? i Y.length=some j/\Y[j]?=some v/\j<Y.length/\-(Y.length:Int)<=i/\i<Y.length:=by
 unfold rG at h;cases e:IN Y.length i with
 |none=>rw[e]at h;cases h
 |some j=>rw[e]at h;obtain⟨a,b,c,d⟩:=FW e;exact⟨j,a,h,b,c,d⟩
def TM (b:cy):Prop:=∀o i,subscripted b false o i=operate [o,i] (getItem o i)
def IxR (X:Cx)(r:R2):Prop:=
 ∀(c a:cy) (b:O5) (s:a9) (σ:St) (H:Hp) (x y:V) (v u:ai) (Q:VK),Inv X b σ H s->RelV x v->RelV y u->r x y H Q->
  subscripted a false v u=operate [v,u] (getItem v u)->a5 (bc X.prog X.w) X.A (subscriptTail c a v u) (EP X b σ Q) X.xe s
def MtR (X:Cx)(id:String)(r:V->List V->Hp->VK->Prop):Prop:=
 ∀(a:O5) (s:a9) (σ:St) (H:Hp) (x:V) (Y:List V) (v:ai) (b:List ai) (Q:VK),Inv X a σ H s->RelV x v->l6 Y b->r x Y H Q->
  a5 (bc X.prog X.w) X.A (call (.builtin id) (v::b)) (EP X a σ Q) X.xe s
section
variable{X:Cx} {a b:cy} {ta tb:TE} {pos:Pos}
def a1p (K:kc):R2:=λx y H Q=>∃p Y i v,x=.ref p/\y=.int i/\K0 K H p Y/\rG Y i=some v/\Q v H
def a2f (K:kc):R2:=λx y H Q=>∃p Y i v,x=.ref p/\y=.int i/\X1 K H p Y/\rG Y i=some v/\Q v H
def TZ:IxR X (a1p X.K):=by
 intro f g c s σ H x y v u Q I C E h o;obtain⟨p,Y,i,z,rfl,rfl,J,L,q⟩:=h;cases C;obtain⟨t,rfl⟩:=E;obtain⟨k,r,l,hz⟩:=I.list J;obtain⟨j,e,N,h3,O,T⟩:=HD L;obtain⟨w,A,m⟩:=r.get N;have U:=r.length;have hn:=wV;have d:EP X c σ Q w s:=⟨z,H,I,m,q⟩;by_cases B:0<=i
 .have n:i.toNat=j:=by rw[seqIndex_of B T]at e;exact aAk e
  exact item_listR l.isList B (by lia) (by rw[n];simpa using A) d o
 .have n:(i+(k.toArray.size:Int)).toNat=j:=by rw[seqIndex_neg (by lia) O]at e;rw[aAm,<-U];exact aAk e
  exact subscriptTail_builtinR (x:=w) l.isList.typeIs aFi.lookup
   (wpAny_getItem_list_neg (Q:=λr s'=>r=w/\EP X c σ Q r s') l.isList (by lia) (by rw[aAm]<;>lia) (by lia) (by rw[n];simpa using A) ⟨rfl,d⟩) o
def YD:IxR X (a2f X.K):=by
 intro d e c s σ H x y v u Q I l m h n;obtain⟨p,Y,i,z,rfl,rfl,o,A,q⟩:=h;cases l;obtain⟨t,rfl⟩:=m;obtain⟨B,r,k,O⟩:=I.tuple o;obtain⟨j,C,E,T,U,h5⟩:=HD A;obtain⟨w,J,f⟩:=r.get E;have L:=r.length;have hn:=wV;have g:EP X c σ Q w s:=⟨z,H,I,f,q⟩;exact subscriptTail_builtinR (x:=w) k.typeIs aCE.lookup
  (getItem_tuple (j:=j) (Q:=λr N=>r=w/\EP X c σ Q r N) k (by lia) (by lia) (by rw[aAm,<-L];exact C) (by simpa using J) ⟨rfl,g⟩) n
def FC (its:List ai)(n j:Nat)(u:ai):aBx (·.setIfInBounds j u) {cls:=.type "list",data:=.seq its.toArray n}={cls:=.type "list",data:=.seq (its.set j u).toArray n}:=by simp[aBx]
def Inv.lst {c:O5}{σ:St}{H:Hp}{s:a9}{p:bb}{Y:List V}(I:Inv X c σ H s)(h:H p=some (.lst Y)):
  ∃(its:List ai) (n:Nat),l6 Y its/\s.heap.get? p=some {cls:=.type "list",data:=.seq its.toArray n}/\Y.length<=sizeLine:=by
 obtain⟨z,its,n,r,e⟩:=I.hok p _ h;exact⟨its,n,r,e,z⟩
def Inv.af2 {c:O5}{σ:St}{H:Hp}{s:a9}{p:bb}{Y d:List V}{its its':List ai}{n g:Nat}{f:Obj->Obj}(I:Inv X c σ H s)(h:H p=some (.lst Y))
  (l:s.heap.get? p=some {cls:=.type "list",data:=.seq its.toArray n}) (k:f {cls:=.type "list",data:=.seq its.toArray n}={cls:=.type "list",data:=.seq its'.toArray g}) (r:l6 d its') (hz:d.length<=sizeLine) (t:Nat):
  Inv X c σ (upd H p (.lst d)) {s with heap:=s.heap.update p f,toks:=t}:=by
 have e:(s.heap.update p f).get? p=some {cls:=.type "list",data:=.seq its'.toArray g}:=by rw[aAZ f l (by rw[k]<;>rfl),k]
 refine I.write (x:=p) (e:=p) (by rw[h];trivial) (.inl rfl) (λb u m q=>(aAC _ _<|aCg m).trans q) ⟨_,e⟩ ?_;exact⟨hz,its',g,r,e⟩
def xk:V->V->V->Hp->(Hp->Prop)->Prop:=λo i v H Q=>∃p Y k j,o=.ref p/\i=.int k/\H p=some (.lst Y)/\IN Y.length k=some j/\Q (upd H p<|.lst (Y.set j v))
def QK:bj X xk:=by
 intro c s σ H o i v L N u Q I A B C h;obtain⟨p,Y,k,j,rfl,rfl,m,E,q⟩:=h;cases A;obtain⟨t,rfl⟩:=B;obtain⟨d,n,r,f,J⟩:=I.lst m;obtain⟨e,O,w,x⟩:=FW E;have g:=r.length;have T:=wV;have y:Inv X c σ (upd H p<|.lst (Y.set j v)) {s with heap:=s.heap.update p (aBx (·.setIfInBounds j u))}:=
  I.af2 m f (FC d n j u) (r.set C j) (by rw[List.length_set];exact J) s.toks
 by_cases z:0<=k
 .have l:k.toNat=j:=by rw[seqIndex_of z x]at e;exact aAk e
  exact PySem.W.ki_setAt f z (by lia) (by rw[aAm,<-g];exact x) (by rw[l];exact⟨_,y,q⟩)
 .have l:(k+(d.toArray.size:Int)).toNat=j:=by rw[seqIndex_neg (by lia) w]at e;rw[aAm,<-g];exact aAk e
  exact PySem.W.ki_setBack f (by lia) (by rw[aAm,<-g];exact w) (by lia) (by rw[l];exact⟨_,y,q⟩)
def vN (lo c:Option Int)(n:Nat):(ij lo c none n).1=((HT.sIx n 0 lo:Nat):Int)/\(ij lo c none n).2.1=((HT.sIx n n c:Nat):Int)/\(ij lo c none n).2.2=1:=by
 refine⟨?_,?_,rfl⟩
 .cases lo with
  |none=>simp[ij,HT.sIx]
  |some i=>
   simp only[ij,HT.sIx,Option.getD_none,show(1:Int)>0 by decide,if_true];by_cases h:i<0
   .simp only[h,if_true]<;>lia
   .simp only[h,if_false]<;>lia
 .cases c with
  |none=>simp[ij,HT.sIx]
  |some i=>
   simp only[ij,HT.sIx,Option.getD_none,show(1:Int)>0 by decide,if_true];by_cases h:i<0
   .simp only[h,if_true]<;>lia
   .simp only[h,if_false]<;>lia
def rK (its:List ai)(lo c:Option Int):slicePick its.toArray lo c none=((its.drop (HT.sIx its.length 0 lo)).take (HT.sIx its.length its.length c-HT.sIx its.length 0 lo)).toArray:=by obtain⟨d,e,f⟩:=vN lo c its.toArray.size;unfold slicePick;rw[d,e,f];simp only[sliceRange_one,pick_run,aAm]<;>rfl
def rj (K:kc):V->Option Int->Option Int->Hp->VK->Prop:=λx lo c H Q=>∃a Y,x=.ref a/\K0 K H a Y/\∀p,H p=none->Q (.ref p) (upd H p<|.lst (AC Y lo c))
def VE:jq X (rj X.K):=by intro d s σ H x v t u lo c w Q I f g k l h;obtain⟨a,Y,rfl,m,q⟩:=h;cases f;obtain⟨n,r,e,p⟩:=I.list m;have hlen:=r.length;refine⟨"list",_,aFi.lookup,e.isList.typeIs,?_⟩;refine wpAny_getItem_list_slice e.isList g k l .none (by simp) ?_ (by rw[aAm]<;>lia);rw[rK,<-hlen];refine⟨.ref s.heap.objs.size,_,I.laid (t':=s.toks) (o:=.lst (AC Y lo c)) (λb y q=>aAc _ q) (aAj _) ?_,rfl,q _ (I.hok.fresh<|aAj _)⟩;exact⟨aAr (mV Y lo c) p,_,0,(r.drop<|HT.sIx Y.length 0 lo).take (HT.sIx Y.length Y.length c-HT.sIx Y.length 0 lo),aAo _ rfl⟩
def my:V->Bool
 |.non=>true
 |.bl _=>true
 |.int _=>true
 |.str _=>true
 |_=>false
def kH:uM X (.builtin "len") (λY H Q=>∃p d,Y=[.ref p]/\(K0 X.K H p d\/X1 X.K H p d)/\Q (.int d.length) H):=by
 intro l s σ H Y o Q I r h;obtain⟨p,d,rfl,e,q⟩:=h;obtain⟨u,rfl,m⟩:=vals1 r;cases m;have t:=wV;rcases e with e|e
 .obtain⟨f,g,k,n⟩:=I.list e;have c:=g.length;exact Calls.call_len_list k.isList (by simp only[aAm]<;>lia) ⟨.int d.length,H,I.tok _,⟨s.toks+1,by rw[aAm,c]⟩,q⟩
 .obtain⟨f,g,k,n⟩:=I.tuple e;have c:=g.length;exact len_tuple k (by simp only[aAm]<;>lia) ⟨.int d.length,H,I.tok _,⟨s.toks+1,by rw[aAm,c]⟩,q⟩
def jM:uM X (.type "list") (λY H Q=>∃p f,Y=[.ref p]/\(K0 X.K H p f\/X1 X.K H p f)/\∀l,H l=none->Q (.ref l) (upd H l (.lst f))):=by
 intro m s σ H Y N Q I r h;obtain⟨p,f,rfl,t,q⟩:=h;obtain⟨u,rfl,L⟩:=vals1 r;cases L;have v:∀(c:List ai),l6 f c->f.length<=sizeLine->∀(d:cv) (g:Nat),(∀b J,s.heap.get? b=some J->d.get? b=some J)->
   d.get? s.heap.objs.size=some {cls:=.type "list",dict:=none,data:=.seq c.toArray g,slots:=#[]}->EP X m σ Q (.ref s.heap.objs.size) {s with heap:=d}:=λc k x d g y e=>
  ⟨.ref s.heap.objs.size,_,I.laid (t':=s.toks) y (aAj _) (show ObjOk X.prog X.w _ d _ (.lst f)from⟨x,c,g,k,e⟩),rfl,q _ (I.hok.fresh<|aAj _)⟩
 rcases t with t|t
 .obtain⟨c,k,A,x⟩:=I.list t;have z:=k.length;obtain⟨o,B,C,n,E⟩:=A.isList;exact call_list_seq p (.inl rfl) B C E (λd g y e=>v c k x d g y e) (by simp only[aAm]<;>lia)
 .obtain⟨c,k,A,x⟩:=I.tuple t;have z:=k.length;obtain⟨o,B,C,n,E⟩:=A;exact call_list_seq p (.inr rfl) B C E (λd g y e=>v c k x d g y e) (by simp only[aAm]<;>lia)
def gH:uM X (.type "tuple") (λY H Q=>∃p f,Y=[.ref p]/\((K0 X.K H p f/\∀l,H l=none->Q (.ref l) (upd H l (.tup f)))\/(X1 X.K H p f/\Q (.ref p) H))):=by
 intro c s σ H Y B Q I r h;obtain⟨p,f,rfl,h⟩:=h;obtain⟨u,rfl,y⟩:=vals1 r;cases y;rcases h with⟨k,q⟩|⟨k,q⟩
 .obtain⟨d,m,n,t⟩:=I.list k;have v:=m.length;refine call_tuple_list n.isList (λg z=>?_) (by simp only[aAm]<;>lia);have x:Inv X c σ H {s with heap:=g}:=I.kept (t':=s.toks) z;have A:Inv X c σ (upd H g.objs.size<|.tup f) {s with heap:=g.push {cls:=.type "tuple",data:=.seq d.toArray}}:=
   x.laid (t':=s.toks) (λb o e=>aAc _ e) (aAj _) (show ObjOk X.prog X.w _ _ _ (.tup f)from⟨t,d,m,IsTup.new _ _⟩)
  exact⟨.ref g.objs.size,_,A,rfl,q _ (x.hok.fresh<|aAj _)⟩
 .obtain⟨d,m,n,t⟩:=I.tuple k;exact call_tuple_same n ⟨.ref p,H,I,rfl,q⟩
def tyV (K : kc) (T : String) (x : V) (H : Hp) : Prop := match x with
  | .str _ => T = "str"
  | .int _ => T = "int"
  | .ref p => (T = "list" ∧ ∃ Y, K0 K H p Y) ∨ (T = "tuple" ∧ ∃ o, K.lookup p = some o ∧ o.cls = .type "tuple" ∧ o.dict = none) ∨
      (T = "dict" ∧ ((∃ U, H p = some (.dK U)) ∨ ∃ U, H p = some (.dT U))) ∨ (T = "set" ∧ ∃ S n, H p = some (.set S n))
  | _ => False
def OX (I:Inv X l σ H s)(r:RelV x v)(g:tyV X.K T x H):
  s.TypeIs v T/\∀a,v=.ref a->∃m,s.heap.get? a=some m/\m.dict=none:=by
 cases x with
 |str z=>obtain⟨t,rfl⟩:=r;cases(show T= "str"from g);exact⟨typeIs_str s z t,λ_ e=>nomatch e⟩
 |int i=>obtain⟨t,rfl⟩:=r;cases(show T= "int"from g);exact⟨typeIs_int s i t,λ_ e=>nomatch e⟩
 |ref p=>
  cases r;rcases g with⟨rfl,Y,u⟩|⟨rfl,o,d,w,h⟩|⟨rfl,d⟩|⟨rfl,S,n,d⟩
  .obtain⟨y,_,q,_⟩:=I.list u;refine⟨q.isList.typeIs,λa e=>?_⟩;cases e;obtain⟨o,n,e,c,h,_⟩:=q;exact⟨o,e,h⟩
  .refine⟨⟨o,I.kIn p o d,w⟩,λa e=>?_⟩;cases e;exact⟨o,I.kIn _ o d,h⟩
  .have z:∃o,s.heap.get? p=some o/\o.ExactDict:=by
    rcases d with⟨U,d⟩|⟨U,d⟩
    .obtain⟨_,_,_,_,o,_,_,e,f,_⟩:=I.hok p _ d;exact⟨o,e,f⟩
    .obtain⟨_,_,_,_,o,_,_,e,f,_⟩:=I.hok p _ d;exact⟨o,e,f⟩
   obtain⟨o,e,f⟩:=z;refine⟨⟨o,e,f.1⟩,λa k=>?_⟩;cases k;exact⟨o,e,f.2.1⟩
  .obtain⟨o,_,_,_,e,f,_⟩:=I.hok p _ d;refine⟨⟨o,e,f.1⟩,λa k=>?_⟩;cases k;exact⟨o,e,f.2.1⟩
 |_=>exact aAi g
def a2e (K:kc)(T:String)(r:V->List V->Hp->VK->Prop)(d:TE):TE:=λσ H Q=>d σ H λx c=>tyV K T x c/\r x [] c Q
def tBM (K:kc)(T:String)(r:V->List V->Hp->VK->Prop)(d:TE)(t:TA):TE:=λσ H Q=>d σ H λx c=>tyV K T x c/\t σ c λY e=>r x Y e Q
variable{o e:cy} {es:List cy} {to:TE} {t:TA} {name:Str} {apos bf:Pos} {T id:String} {r:V->List V->Hp->VK->Prop}
def QH (k:PlainAttrs T)(slot:Slot T name id)(d:typeOf (.builtin id)=pure (.type "method_descriptor"))(l:MtR X id r)(m:PE X o to)
  (n:gW o name X.env (d3 o X.env)=d3 o X.env:=by rfl) (p:(apos.endLine==bf.line)=true:=by rfl):PE X (.Call (.Attribute o name apos) [] [] bf) (a2e X.K T r to):=by
 intro c s σ H Q I h;refine wpAny_Call_method0_late n p (E6 (m c s σ H _ I h) λv q ⟨x,u,f,g,w,y⟩=>?_);obtain⟨z,A⟩:=OX f g w;exact⟨T,id,k,slot,d,z,A,aFA rfl (PySem.evalArgs_none<|l c q σ u x [] v [] Q f g .nil y)⟩
def XB (l:PlainAttrs T)(slot:Slot T name id)(d:typeOf (.builtin id)=pure (.type "method_descriptor"))(m:MtR X id r)(n:PE X o to)(p:PA X (e::es) t)
  (q:gW o name X.env (d3 o X.env)=d3 o X.env:=by rfl)
  (u:((dq bf (av (e::es) X.env)).all (λx=>!x.1)&&(backToKw bf (keywordEach [] X.env)).all (λx=>x.1.isSome)
   &&decide ((e::es).length+([]:List Keyword).length+(if([]:List Keyword).isEmpty then 0 else 1)<30))=true:=by rfl)
  (w:(apos.endLine==bf.line)=true:=by rfl) (y:av (e::es) X.env=(false,d3 e X.env)::av es X.env:=by rfl) (z:(dq bf (av es X.env)).any (·.1)=false:=by rfl):
  PE X (.Call (.Attribute o name apos) (e::es) [] bf) (tBM X.K T r to t):=by
 intro c s σ H Q I h;refine wpAny_Call_method_late q u w rfl (E6 (n c s σ H _ I h) λv A ⟨x,B,f,g,C,E⟩=>?_);obtain⟨J,L⟩:=OX f g C;refine⟨T,id,l,slot,d,J,L,?_⟩;have k:=p bf c A σ B _ f E;rw[y]at k⊢;refine aFA (by show(false||(dq bf<|av es X.env).any (·.1))=false;rw[z]<;>rfl) (Calls.evalArgs_plain ?_);exact E6 k λN O ⟨U,Y,I2,r2,q2⟩=>m c O σ Y x U v N Q I2 g r2 q2
end
def MtM (X:Cx)(id:String)(r:V->List V->Hp->VK->Prop):Prop:=
 ∀(a:O5) (s:a9) (σ:St) (H:Hp) (x:V) (Y:List V) (v:ai) (b:List ai) (Q:VK),Inv X a σ H s->RelV x v->l6 Y b->r x Y H Q->
  a5 (bc X.prog X.w) X.A (call (.builtin id) (v::b)) (EP X a σ Q) X.xe s
theorem l6.one:∀{x:V} {a:List ai},l6 [x] a->∃u,a=[u]/\RelV x u
 |_,_,.cons r .nil=>⟨_,rfl,r⟩
theorem l6.zero:∀{a:List ai},l6 [] a->a=[]
 |_,.nil=>rfl
def l6.dropLast (h:l6 Y a):l6 Y.dropLast a.dropLast:=by
 induction h with
 |nil=>exact .nil
 |cons r t b=>
  cases t with
  |nil=>exact .nil
  |cons q c=>exact .cons r b
def l6.reverse (h:l6 Y a):l6 Y.reverse a.reverse:=by
 induction h with
 |nil=>exact .nil
 |cons r t b=>rw[aAF,aAF];exact l6.append b (.cons r .nil)
def DY {α:Type}(l:List α):l.eraseIdx (l.length-1)=l.dropLast:=by
 induction l with
 |nil=>rfl
 |cons a r c=>
  cases r with
  |nil=>rfl
  |cons b r=>
   have e:(a::b::r).length-1=((b::r).length-1)+1:=by
    have d:(a::b::r).length=r.length+2:=rfl;have f:(b::r).length=r.length+1:=rfl
    lia
   rw[e,aFn,c]
   all_goals rfl
section
variable{X:Cx} {pins:O5} {σ:St} {H:Hp} {s:a9} {l b:bb} {Y ys zs:List V}
def Inv.af3 {its its':List ai}{n:Nat}{f:Array ai->Array ai}{t':Nat}(I:Inv X pins σ H s)(a:H l=some (.lst Y))
  (e:s.heap.get? l=some {cls:=.type "list",data:=.seq its.toArray n}) (c:f its.toArray=its'.toArray) (d:l6 ys its') (hz:ys.length<=sizeLine):
  Inv X pins σ (upd H l (.lst ys)) {s with heap:=s.heap.update l (aBx f),toks:=t'}:=by
 have q:=PySem.IsL.update e f;rw[c]at q;refine I.write (x:=l) (e:=l) (by rw[a];exact trivial) (.inl rfl) (λk u g h=>(aAC s.heap (aBx f)<|aCg g).trans h) ⟨_,q⟩ ?_;exact⟨hz,its',_,d,q⟩
def Inv.ag2 (I:Inv X pins σ H s)(a:l6 ys its)(hz:ys.length<=sizeLine):
  Inv X pins σ (upd H s.heap.objs.size (.lst ys)) {s with heap:=s.heap.push {cls:=.type "list",data:=.seq its.toArray},toks:=t'}:=
 I.laid (λ_ _ q=>aAc _ q) (aAj _) ⟨hz,its,0,a,aAo _ rfl⟩
def Inv.fresh (I:Inv X pins σ H s):H s.heap.objs.size=none:=I.hok.fresh (aAj _)
def Inv.af5 (I:Inv X pins σ H s)(a:H l=some (.lst Y)):Y.length<=sizeLine/\∃(its:List ai) (n:Nat),l6 Y its/\Y.length=its.length/\s.heap.get? l=some {cls:=.type "list",data:=.seq its.toArray n}:=by obtain⟨z,its,n,r,e⟩:=I.hok l _ a;exact⟨z,its,n,r,r.length,e⟩
def RB (h:n<=sizeLine):aCZ n=false:=by unfold aCZ;exact decide_eq_false (by lia)
end
section
variable{X:Cx}
def VF:V->List V->Hp->VK->Prop:=λx a H Q=>∃l Y y,x=.ref l/\a=[y]/\H l=some (.lst Y)/\Y.length<sizeLine/\Q .non (upd H l<|.lst (Y++[y]))
def tZ:MtM X "list.append" VF:=by
 intro b s σ H x k v m Q I d f h;obtain⟨l,Y,y,rfl,rfl,c,o,q⟩:=h;cases d;obtain⟨u,rfl,g⟩:=f.one;obtain⟨z,a,n,r,p,e⟩:=I.af5 c;refine call_meets F.slot_list_append ⟨_,e,rfl⟩ F.entry_list_append (F.args_list_append_2 _ _) (PySem.list_append l a.toArray n u (by rw[aAm];lia)) ⟨e,?_⟩;refine⟨.non,_,I.af3 (its':=a++[u]) c e (by simp) (r.append<|.cons g .nil) ?_,rfl,q⟩;rw[aAE,List.length_singleton]
 lia
def a0y:V->List V->Hp->VK->Prop:=λx a H Q=>∃l Y y,x=.ref l/\a=[]/\H l=some (.lst Y)/\Y[Y.length-1]?=some y/\Q y (upd H l<|.lst Y.dropLast)
def RL:MtM X "list.pop" a0y:=by
 intro d s σ H x w v A Q I g k h;obtain⟨l,Y,y,rfl,rfl,f,m,q⟩:=h;cases g;have b:=k.zero;subst b;obtain⟨z,a,n,r,o,e⟩:=I.af5 f;obtain⟨u,p,t⟩:=r.get m;have c:a.toArray[a.toArray.size-1]?=some u:=by show a.toArray[a.length-1]?=some u;rw[<-aAA,<-o];exact p
 refine call_meets F.slot_list_pop ⟨_,e,rfl⟩ F.entry_list_pop (F.args_list_pop_1 _) (MeetsSeq.list_pop_last l a.toArray n u c (by rw[aAm];lia)) ⟨e,?_⟩;refine⟨y,_,I.af3 (its':=a.dropLast) f e ?_ r.dropLast ?_,t,q⟩
 .show a.toArray.eraseIdxIfInBounds (a.toArray.size-1)=a.dropLast.toArray;rw[aAm,List.eraseIdxIfInBounds_toArray,DY]
 .rw[aFQ]
  lia
end
section
variable{prog:bt} {w:cq} {A:cp} {E:E8} {s:a9}
end
section
variable{X:Cx}
end
end L2
namespace Att
open PySem PySem.W PySem.Calls PyProof.Rows
def nK:∀(ns:List Int) (vs:List ai),WellAll P h vs (ns.map WData.int)->IntsAre vs ns:=by
 intro ns;induction ns with
 |nil=>intro vs w;rw[aEj]at w;cases w;exact .nil
 |cons n ns c=>
  intro vs w;rw[aAv]at w;cases w with
  |cons a b=>cases a;exact .cons _ _ (c _ b)
def script_of {l:OpenLaw}{n:Nat}(o:l.most=some n){P:Params}{h:cv}{args:List WData}{b:List ai}
  (k:l.row.toRowW.claim.pre args=true) (p:WellAll P h b args):
  ∃a vs ns,b=[aDv a]/\args=[WData.list (ns.map WData.int)]/\h.get? a=some {cls:=.type "list",data:=.seq vs.toArray}/\IntsAre vs ns/\ns.length<=n:=by
 have g:WShape.hasAll [] args [.list .int]=true:=(pre_splitW k).1;have m:l.pre.holds [] {args:=args}=true:=(pre_splitW k).2;obtain⟨d,r,rfl,s,t⟩:=hasAllW_cons g;obtain rfl:=hasAllW_nil t;obtain⟨Y,rfl,u⟩:=hasW_list s;obtain⟨ns,rfl⟩:=items_int u;have c:ns.length<=n:=by
  unfold OpenLaw.pre at m;have e:(WTm.not<|.lt (.lit (.int (n:Int))) (.len (.arg 0))).holds [] {args:=[.list (ns.map .int)]}=true:=by have e:=(holds_andW m).1;rw[o]at e;exact e
  have f:=condW_of e (w_not<|w_lt w_lit<|w_len_list<|w_arg rfl);rw[aAf]at f;refine aEo λq=>?_;have v:(n:Int)<((ns.length:Nat):Int):=by lia
  first
   |(rw[decide_eq_true v]at f;exact absurd f (by decide))
   |(simp at f;lia)
 cases p with
 |cons w x=>
  cases x;cases w with
  |list y z=>exact⟨_,_,ns,rfl,rfl,y,nK ns _ z,c⟩
def post_true (l:OpenLaw)(args:List WData):l.row.toRowW.claim.post args (.bool true) args=true:=
 postW_of (r:=l.row.toRowW) (X:=(true==true))
  (show WShape.has [] (.bool true) .bool=true by first|rfl|decide|simp[WShape.has,WShape.arms,WShape.armsAll])
  (show(WTm.eq .res (.lit (.bool true))).value [] {args:=args,res:=some (.bool true),after:=args}=some (.bool (true==true))from w_eq_bool (w_res rfl) w_lit) rfl
section
variable{prog:bt} {w:cq} {A:cp} {E:E8} {s:a9} {K:Frag}
def a1m (h:cv)(L d:bb):List (bb×Obj):=(aBw h.objs.size).filterMap λa=>if a=L\/a=d then none else(h.get? a).map λo=>(a,o)
end
end Att
namespace L2
open PySem PySem.Spec PyProof.Rows
theorem P3:∀{vs:List ai} {ns:List Int},IntsAre vs ns->l6 (ns.map V.int) vs
 |_,_,.nil=>.nil
 |_,_,.cons n t h=>.cons ⟨t,rfl⟩ (P3 h)
def D3 (s:dm):Arguments:=match s with
 |.FunctionDef _ a _ _ _ _ _ _ _ _=>a
 |_=>{posonlyargs:=[],args:=[],vararg:=none,kwonlyargs:=[],kw_defaults:=[],kwarg:=none,defaults:=[]}
def t6 (s:dm):List dm:=match s with
 |.FunctionDef _ _ b _ _ _ _ _ _ _=>b
 |_=>[]
def c6 (s:dm):i6:=match s with
 |.FunctionDef _ _ _ _ _ _ a _ _ _=>a
 |_=>{kind:=.function,names:=[],isGenerator:=false,isCoroutine:=false}
abbrev tV:SF:=λ_ _ _ _ _ _=>False
abbrev E0:XK:=λ_ _ _=>False
def WJ:CM tV X E0:=λ_ _ _ _ _ _ _ h=>h.elim
structure Fun (K:PySem.W.Frag)(x qual:Str)(st:Stmt)(f:Addr)(fd:FuncData):Prop where
 ex:∃(oc:Value) (od:Option Addr) (kV doc pm:Value) (an:Option Addr) (T ct:Value) (osl:Array (Option Value)),
  fd=PySem.W.fnOf x qual (D3 st) (t6 st) (c6 st) .none kV doc pm an T ct/\K.lookup f=some ⟨oc,od,.func fd,osl⟩/\PySem.W.codeIn K T qual=true
 kp:PySem.W.keepIn K (.ref f)=true
section
variable{P:bt} {w:cq} {K:kc} {mg:dG} {base:cv}
def Fun.ok {x qual:Str}{st:dm}{f:bb}{fd:ek}{N ps:List Str}{k:Nat}{b:Sp}(F:Fun K x qual st f fd)(S:FnScope N ps (c6 st))(len:∀vs H Q E,b vs H Q E->vs.length=ps.length)
  (d:∀(T:ai) (A:cp) (a:List Env) (s:a9) (H:Hp) (vs:List V) (Q:VK) (E:XK),Room k (A.deeper (envOfC qual (c6 st) s.heap.objs.size f T))->b vs H Q E->
   ∃t,uW (CI tV P w K mg base N qual (c6 st) f T A a s H E).nox (t6 st) t/\t {nx:=λ_ H'=>Q .non H',rt:=Q} (start N vs) H):FnOk P w K mg base tV (k+1) f fd ps b:=by
 obtain⟨o,p,kV,e,r,u,T,v,g,rfl,l,m⟩:=F.ex;refine XS l m S len λA a s H vs Q E n c=>?_;obtain⟨t,h,q⟩:=d T A a s H vs Q E n c;exact⟨t,h.nox,q⟩
def Fun.binds {x qual:Str}{st:dm}{f:bb}{fd:ek}{ps:List Str}(F:Fun K x qual st f fd)
  (h:∀(kV a b:ai) (c:Option bb) (T ct:ai) (d:List ai),d.length=ps.length->bindArgs (PySem.W.fnOf x qual (D3 st) (t6 st) (c6 st) .none kV a b c T ct) ⟨d,[]⟩=pure (ps.zip d)):Binds K fd ps []:=by
 obtain⟨g,k,kV,a,b,c,T,ct,e,rfl,l,m⟩:=F.ex;exact .all (h kV a b c T ct)
def OC {x qual:Str}{st:dm}{f:bb}{g:ai}{h d:Option bb}{b:Array (Option ai)}{kV a e T ct:ai}(l:K.lookup f=some ⟨g,h,.func (PySem.W.fnOf x qual (D3 st) (t6 st) (c6 st) .none kV a e d T ct),b⟩)
 (c:PySem.W.codeIn K T qual=true) (k:PySem.W.keepIn K (.ref f)=true):Fun K x qual st f (PySem.W.fnOf x qual (D3 st) (t6 st) (c6 st) .none kV a e d T ct):=⟨⟨g,h,kV,a,e,d,T,ct,b,rfl,l,c⟩,k⟩
end
section
variable{X:Cx}
end
def Same (H H':Hp):Prop:=∀b o,H b=some o->H' b=some o
def Same.refl (H:Hp):Same H H:=λ_ _ h=>h
def Same.trans (a:Same H d)(b:Same d e):Same H e:=λc o h=>b c o (a c o h)
def Same.seq {K:kc}{H H':Hp}{a:bb}{Y:List V}(e:Same H H')(h:K0 K H a Y):K0 K H' a Y:=by
 rcases h with(h|⟨o,h⟩)|h
 .exact .inl (.inl (e _ _ h))
 .exact .inl (.inr ⟨o,e _ _ h⟩)
 .exact .inr h
end L2
namespace DL
open PySem PySem.Spec L2
open PyProof.Rows hiding St
section
inductive D where
 |non|bl (b:Bool)|int (i:Int)|str (x:Str)|tup (Y:List D)|lst (Y:List D)|dct
mutual
def o6:D->Int
 |.int i=>hashInt i
 |.tup Y=>reduceHash (aAJ (wR Y))
 |_=>0
def wR:List D->List Int
 |[]=>[]
 |x::Y=>o6 x::wR Y
end
def S5:Nat->D->Bool
 |_,.int _=>true
 |n+1,.tup Y=>Y.all (S5 n)
 |_,_=>false
inductive R (α:Type)where
 |ok (a:α)|ex (e:Str)|bad
def R.bind {α β:Type}:R α->(α->R β)->R β
 |.ok a,f=>f a
 |.ex e,_=>.ex e
 |.bad,_=>.bad
@[simp]def R.aa0 {α β:Type}(a:α)(f:α->R β):(R.ok a).bind f=f a:=rfl
section
variable(K:kc) (H:Hp) (O:bb->Prop)
mutual
inductive Rep:V->D->Prop
 |non:Rep .non .non
 |bl {b:Bool}:Rep (.bl b) (.bl b)
 |int {i:Int}:Rep (.int i) (.int i)
 |str {x:Str}:Rep (.str x) (.str x)
 |tup {a:Addr} {vs:List V} {ds:List D} (h:X1 K H a vs) (r:Reps vs ds):Rep (.ref a) (.tup ds)
 |lst {a:Addr} {vs:List V} {ds:List D} (h:K0 K H a vs) (n:¬O a) (r:Reps vs ds):Rep (.ref a) (.lst ds)
 |dct {a:Addr} {o:Obj} (h:H a=some (.ext λh=>h.get? a=some o)) (x:o.ExactDict) (n:¬O a):Rep (.ref a) .dct
inductive Reps:List V->List D->Prop
 |nil:Reps [] []
 |cons {v:V} {d:D} {vs:List V} {ds:List D} (h:Rep v d) (t:Reps vs ds):Reps (v::vs) (d::ds)
end
end
section
variable{K:kc}
def _root_.L2.Same.tup {a:bb}{Y:List V}(e:Same H H')(h:X1 K H a Y):X1 K H' a Y:=by
 rcases h with(h|⟨o,h⟩)|h
 .exact .inl (.inl (e _ _ h))
 .exact .inl (.inr ⟨o,e _ _ h⟩)
 .exact .inr h
mutual
theorem Rep.mono (e:∀a Y,X1 K H a Y->X1 K H' a Y)(b:∀a Y,¬O a->K0 K H a Y->¬f a/\K0 K H' a Y)(c:∀a φ,¬O a->H a=some (.ext φ)->¬f a/\H' a=some (.ext φ)):∀{v:V} {d:D},Rep K H O v d->Rep K H' f v d
 |_,_,.non=>.non
 |_,_,.bl=>.bl
 |_,_,.int=>.int
 |_,_,.str=>.str
 |_,_,.tup h r=>.tup (e _ _ h) (Reps.mono e b c r)
 |_,_,.lst h n r=>.lst (b _ _ n h).2 (b _ _ n h).1 (Reps.mono e b c r)
 |_,_,.dct h x n=>.dct (c _ _ n h).2 x (c _ _ n h).1
theorem Reps.mono (b:∀a Y,X1 K H a Y->X1 K H' a Y)(c:∀a Y,¬O a->K0 K H a Y->¬d a/\K0 K H' a Y)(e:∀a φ,¬O a->H a=some (.ext φ)->¬d a/\H' a=some (.ext φ)):∀{vs:List V} {ds:List D},Reps K H O vs ds->Reps K H' d vs ds
 |_,_,.nil=>.nil
 |_,_,.cons h t=>.cons (Rep.mono b c e h) (Reps.mono b c e t)
end
def Rep.same (e:Same H H')(r:Rep K H O v d):Rep K H' O v d:=r.mono (λ_ _ h=>e.tup h) (λ_ _ n h=>⟨n,e.seq h⟩) λ_ _ n h=>⟨n,e _ _ h⟩
def Reps.same (e:Same H H')(r:Reps K H O v d):Reps K H' O v d:=r.mono (λ_ _ h=>e.tup h) (λ_ _ n h=>⟨n,e.seq h⟩) λ_ _ n h=>⟨n,e _ _ h⟩
def Rep.sub (e:∀a,b a->O a)(r:Rep K H O v d):Rep K H b v d:=r.mono (λ_ _ h=>h) (λ_ _ n h=>⟨λz=>n (e _ z),h⟩) λ_ _ n h=>⟨λz=>n (e _ z),h⟩
def Reps.sub (e:∀a,b a->O a)(r:Reps K H O v d):Reps K H b v d:=r.mono (λ_ _ h=>h) (λ_ _ n h=>⟨λz=>n (e _ z),h⟩) λ_ _ n h=>⟨λz=>n (e _ z),h⟩
theorem Reps.length:∀{vs:List V} {ds:List D},Reps K H O vs ds->vs.length=ds.length
 |_,_,.nil=>rfl
 |_,_,.cons _ t=>by simp[Reps.length t]
theorem Reps.get:∀{vs:List V} {ds:List D} {i:Nat} {d:D},Reps K H O vs ds->ds[i]?=some d->∃v,vs[i]?=some v/\Rep K H O v d
 |_,_,_,_,.nil,e=>by simp at e
 |_,_,0,_,.cons r _,e=>by simp at e;subst e;exact⟨_,rfl,r⟩
 |_,_,i+1,d,.cons _ t,e=>by obtain⟨u,a,b⟩:=Reps.get (i:=i) (d:=d) t (by simpa using e);exact⟨u,by simpa using a,b⟩
theorem Reps.append:∀{vs ws:List V} {ds es:List D},Reps K H O vs ds->Reps K H O ws es->Reps K H O (vs++ws) (ds++es)
 |_,_,_,_,.nil,s=>s
 |_,_,_,_,.cons r t,s=>.cons r (Reps.append t s)
theorem Reps.take:∀{vs:List V} {ds:List D} (n:Nat),Reps K H O vs ds->Reps K H O (vs.take n) (ds.take n)
 |_,_,0,_=>.nil
 |_,_,_+1,.nil=>.nil
 |_,_,n+1,.cons r t=>.cons r (Reps.take n t)
theorem Reps.drop:∀{vs:List V} {ds:List D} (n:Nat),Reps K H O vs ds->Reps K H O (vs.drop n) (ds.drop n)
 |_,_,0,r=>r
 |_,_,_+1,.nil=>.nil
 |_,_,n+1,.cons _ t=>Reps.drop n t
theorem Reps.set (r:Rep K H O v d):∀{vs:List V} {ds:List D} (i:Nat),Reps K H O vs ds->Reps K H O (vs.set i v) (ds.set i d)
 |_,_,_,.nil=>.nil
 |_,_,0,.cons _ t=>.cons r t
 |_,_,i+1,.cons q t=>.cons q (Reps.set r i t)
def Reps.dropLast (r:Reps K H O vs ds):Reps K H O vs.dropLast ds.dropLast:=by rw[aEk,aEk,r.length];exact r.take _
def Reps.snoc (r:Reps K H O vs ds)(h:Rep K H O v d):Reps K H O (vs++[v]) (ds++[d]):=r.append (.cons h .nil)
theorem Reps.ints:∀(ns:List Int),Reps K H O (ns.map V.int) (ns.map D.int)
 |[]=>.nil
 |_::ns=>.cons .int (Reps.ints ns)
theorem Reps.reverse:∀{vs:List V} {ds:List D},Reps K H O vs ds->Reps K H O vs.reverse ds.reverse
 |_,_,.nil=>.nil
 |_,_,.cons r t=>by rw[aAF,aAF];exact(Reps.reverse t).snoc r
end
def Kp (H:Hp)(O:bb->Prop)(H':Hp)(a:bb->Prop):Prop:=∀b o,H b=some o->¬O b->H' b=some o/\¬a b
section
def Kp.refl (H:Hp)(O:bb->Prop):Kp H O H O:=λ_ _ h n=>⟨h,n⟩
def Kp.of (s:Same H H'):Kp H O H' O:=λb o h n=>⟨s b o h,n⟩
def Kp.trans (a:Kp H O H' f)(b:Kp H' f d e):Kp H O d e:=λc o h n=>let⟨g,k⟩:=a c o h n;b c o g k
end
class Tabs where
 tbs:List (Addr×List (Pos×Str))
inductive Sl where
 |no|v (d:D)|o (Y:List D)|x (C:Value)|c (m:List D->R D) (φ:Hp->(Addr->Prop)->Addr->Prop)|d (U:List (D×D))
abbrev Ev:=List Sl
def Mt:HO->Prop
 |.lst _=>True
 |.dK _=>True
 |.dT _=>True
 |.ext _=>True
 |_=>False
def nU (K:kc)(H:Hp)(O:bb->Prop)(es:List ik)(U:List (D×D)):Prop:=
 Paired (λ(e:ik) (p:D×D)=>(∃a,e.key=.ref a/\Rep K H O (.ref a) p.1)/\(∃v,RelV v e.val/\Rep K H O v p.2)/\e.hash=o6 p.1/\S5 7 p.1=true) es U
def QW (a:bb)(o:Obj)(es:List ik):Prop:=(a==hV)=false/\o.ExactDict/\∃b c,o.data=.dict b c/\b.toList=es
def JE:Sl->Prop
 |.o _=>True
 |.d _=>True
 |_=>False
section
variable(K:kc) (H9 H:Hp) (O:bb->Prop)
def cF (x:Option (Option V)):Sl->Prop
 |.no=>True
 |.v d=>∃v,x=some (some v)/\Rep K H O v d
 |.o Y=>∃a b,x=some (some (V.ref a))/\O a/\H9 a=none/\H a=some (.lst b)/\Reps K H O b Y
 |.x C=>∃a o,x=some (some (V.ref a))/\H a=some (.frz o (.own a))/\o.cls=C
 |.c m φ=>∃a,x=some (some (V.ref a))/\∀e f,Kp H O e f->φ e f a
 |.d U=>∃a o g,x=some (some (V.ref a))/\O a/\H9 a=none/\H a=some (.ext λh=>h.get? a=some o)/\QW a o g/\nU K H O g U/\(U.map (·.1)).Nodup
end
variable [Tabs]
def Tb (H:Hp):Prop:=∀p∈Tabs.tbs,H p.1=some (.tbl p.2)
structure EnvOk (K:PySem.W.Frag)(H9:Hp)(O0:Addr->Prop)(H:Hp)(O:Addr->Prop)(σ:St)(ρ:Ev):Prop where
 len:σ.length=ρ.length
 same:Same H9 H
 sub:∀a,O0 a->O a
 trk:∀a,O a->∃o,H a=some o/\Mt o
 trk0:∀a,O0 a->∃o,H9 a=some o
 tab:Tb H
 slot:∀(i:Nat) (sl:Sl),ρ[i]?=some sl->cF K H9 H O σ[i]? sl
 inj:∀(i j:Nat) (x y:Sl) (a:Addr),ρ[i]?=some x->ρ[j]?=some y->JE x->JE y->σ[i]?=some (some (V.ref a))->σ[j]?=some (some (V.ref a))->i=j
section
variable{K:kc} {O0 O O':bb->Prop}
def Tb.same (h:Tb H)(s:Same H H'):Tb H':=λp a=>s _ _ (h p a)
def EnvOk.val (E:EnvOk K a O0 H O σ ρ)(i:Nat)(d:D)(h:ρ[i]?=some (Sl.v d)):∃v,σ[i]?=some (some v)/\Rep K H O v d:=E.slot i _ h
def EnvOk.own (E:EnvOk K b O0 H O σ ρ)(i:Nat)(Y:List D)(h:ρ[i]?=some (Sl.o Y)):∃a vs,σ[i]?=some (some (V.ref a))/\O a/\b a=none/\H a=some (.lst vs)/\Reps K H O vs Y:=E.slot i _ h
def nU.mono (f:∀{v:V} {d:D},Rep K H O v d->Rep K H' O' v d):∀{U:List (D×D)},nU K H O es U->nU K H' O' es U:=λ{_} r=>Paired.af6 r λ_ _ ⟨⟨v,a,b⟩,⟨w,c,e⟩,g⟩=>⟨⟨v,a,f b⟩,⟨w,c,f e⟩,g⟩
def cF.move (h:cF K A H O x sl)(l:∀a Y,X1 K H a Y->X1 K H' a Y)(p:∀a Y,¬O a->K0 K H a Y->¬O' a/\K0 K H' a Y)(B:∀a o u,H a=some (.frz o u)->H' a=some (.frz o u))(q:Kp H O H' O')(z:JE sl->∀a o,x=some (some (V.ref a))->O a->H a=some o->O' a/\H' a=some o):cF K A H' O' x sl:=by
 have s:∀a φ,¬O a->H a=some (.ext φ)->¬O' a/\H' a=some (.ext φ):=λa φ n h=>⟨(q a _ h n).2,(q a _ h n).1⟩;cases sl with
 |no=>trivial
 |v d=>obtain⟨v,b,e⟩:=h;exact⟨v,b,e.mono l p s⟩
 |o Y=>obtain⟨a,E,b,e,f,t,w⟩:=h;obtain⟨g,y⟩:=z trivial a _ b e t;exact⟨a,E,b,g,f,y,w.mono l p s⟩
 |x C=>obtain⟨a,o,b,e,f⟩:=h;exact⟨a,o,b,B _ _ _ e,f⟩
 |c m φ=>obtain⟨a,b,e⟩:=h;exact⟨a,b,λI J k=>e I J (q.trans k)⟩
 |d U=>obtain⟨a,o,L,b,e,f,t,w,g⟩:=h;obtain⟨y,N⟩:=z trivial a _ b e t;exact⟨a,o,L,b,y,f,N,w,g.1.mono λr=>r.mono l p s,g.2⟩
def cF.grow (h:cF K a H O x sl)(e:Same H H'):cF K a H' O x sl:=
 h.move (λ_ _ q=>e.tup q) (λ_ _ n q=>⟨n,e.seq q⟩) (λ_ _ _ q=>e _ _ q) (Kp.of e) λ_ _ _ _ b c=>⟨b,e _ _ c⟩
def EnvOk.grow (E:EnvOk K b O0 H O σ ρ)(e:Same H H'):EnvOk K b O0 H' O σ ρ where
 len:=E.len
 same:=E.same.trans e
 sub:=E.sub
 trk:=λa h=>let⟨o,q,m⟩:=E.trk a h;⟨o,e a o q,m⟩
 trk0:=E.trk0
 tab:=E.tab.same e
 slot:=λi c h=>(E.slot i c h).grow e
 inj:=E.inj
def EnvOk.fresh (E:EnvOk K a O0 H O σ ρ)(h:H p=none):¬O p:=λz=>by obtain⟨o,q,_⟩:=E.trk p z;rw[h]at q;cases q
def v6 {α:Type}{l:List α}{i j:Nat}{x:α}(h:i≠j):(l.set i x)[j]?=l[j]?:=aCV h
def B8 {α:Type}{l:List α}{i:Nat}{x y:α}(h:(l.set i x)[i]?=some y):y=x/\i<l.length:=by
 have a:i<l.length:=by have:=(aAx.mp h).1;simpa using this
 rw[aBB a]at h;exact⟨(aAk h).symm,a⟩
def EnvOk.put (E:EnvOk K d O0 H O σ ρ){v:Option V}{sl:Sl}(i:Nat)(no:¬JE sl)(r:cF K d H O (some v) sl):EnvOk K d O0 H O (σ.set i v) (ρ.set i sl)where
 len:=by simpa using E.len
 same:=E.same
 sub:=E.sub
 trk:=E.trk
 trk0:=E.trk0
 tab:=E.tab
 slot:=λj s h=>by
  by_cases f:i=j
  .subst f;obtain⟨e,t⟩:=B8 h;subst e;rw[aBB (by rw[E.len];exact t)];exact r
  .rw[v6 f]at h⊢;exact E.slot j s h
 inj:=λj k x y a b c g m n p=>by
  have ne:∀(l:Nat) (z:Sl),(ρ.set i sl)[l]?=some z->JE z->i≠l:=λl z q o e=>by subst e;obtain⟨e,_⟩:=B8 q;subst e;exact no o
  have u:=ne j x b g;have w:=ne k y c m;rw[v6 u]at b n;rw[v6 w]at c p;exact E.inj j k x y a b c g m n p
def EnvOk.set (E:EnvOk K a O0 H O σ ρ)(i:Nat)(r:Rep K H O v d):EnvOk K a O0 H O (σ.set i (some v)) (ρ.set i (.v d)):=E.put i (λz=>z) ⟨v,rfl,r⟩
def cF.at_ (h:cF K g H O x sl)(o:JE sl):∃a u,x=some (some (V.ref a))/\O a/\g a=none/\H a=some u/\Mt u:=by
 cases sl with
 |o Y=>obtain⟨a,k,b,c,e,f,_⟩:=h;exact⟨a,_,b,c,e,f,trivial⟩
 |d U=>obtain⟨a,u,l,b,c,e,f,_⟩:=h;exact⟨a,_,b,c,e,f,trivial⟩
 |_=>exact o.elim
def EnvOk.af7 (E:EnvOk K p O0 H O σ ρ){a:bb}{sl:Sl}(i:Nat)(t:∀(j:Nat) (y:Sl),i≠j->ρ[j]?=some y->JE y->σ[j]?≠some (some (V.ref a)))(r:cF K p H O (some (some (V.ref a))) sl):
  EnvOk K p O0 H O (σ.set i (some (V.ref a))) (ρ.set i sl)where
 len:=by simpa using E.len
 same:=E.same
 sub:=E.sub
 trk:=E.trk
 trk0:=E.trk0
 tab:=E.tab
 slot:=λj s h=>by
  by_cases c:i=j
  .subst c;obtain⟨e,w⟩:=B8 h;subst e;rw[aBB (by rw[E.len];exact w)];exact r
  .rw[v6 c]at h⊢;exact E.slot j s h
 inj:=λj k x y b m n u v f g=>by
  have at_:∀(l:Nat),i=l->(σ.set i<|some<|V.ref a)[l]?=some (some<|V.ref b)->b=a:=λl e q=>by subst e;obtain⟨e,_⟩:=B8 q;injection e with e;injection e
  by_cases c:i=j
  .by_cases d:i=k
   .exact c.symm.trans d
   .exfalso;have o:=at_ j c f;subst o;rw[v6 d]at n g;exact t k y d n v g
  .by_cases d:i=k
   .exfalso;have o:=at_ k d g;subst o;rw[v6 c]at m f;exact t j x c m u f
   .rw[v6 c]at m f;rw[v6 d]at n g;exact E.inj j k x y b m n u v f g
def j6 (h:H p=none)(o:HO):Same H (upd H p o):=λb u q=>by rw[k8 (t9 q h)];exact q
def EnvOk.ab8 (E:EnvOk K d O0 H O σ ρ)(h:H a=none)(f:K.lookup a=none)(m:Mt u):EnvOk K d O0 (upd H a u) (λb=>O b\/b=a) σ ρ:=by
 have s:=j6 h u;have ne:∀b Y,K0 K H b Y->b≠a:=λb Y q z=>by
  subst z;rcases q with(q|⟨o,q⟩)|⟨o,_,_,q,_⟩
  .rw[h]at q;cases q
  .rw[h]at q;cases q
  .rw[f]at q;cases q
 refine⟨E.len,E.same.trans s,λb z=>.inl (E.sub b z),λb z=>?_,E.trk0,E.tab.same s,λi g e=>?_,E.inj⟩
 .rcases z with z|z
  .obtain⟨o,q,m⟩:=E.trk b z;exact⟨o,s b o q,m⟩
  .subst z;exact⟨_,j3,m⟩
 .exact(E.slot i g e).move (λ_ _ q=>s.tup q) (λb Y n q=>⟨λz=>z.elim n (ne b Y q),s.seq q⟩) (λ_ _ _ q=>s _ _ q) (λb o c n=>⟨s b o c,λz=>z.elim n λe=>by subst e;rw[h]at c;cases c⟩) λ_ b o _ k l=>⟨.inl k,s _ _ l⟩
def YI (h:H a=none)(c:K.lookup a=none)(q:K0 K H b Y):b≠a:=λz=>by
 subst z;rcases q with(q|⟨o,q⟩)|⟨o,_,_,q,_⟩
 .rw[h]at q;cases q
 .rw[h]at q;cases q
 .rw[c]at q;cases q
def Reps.ab8 (h:H a=none)(c:K.lookup a=none)(r:Reps K H O v d):Reps K (upd H a u) (λb=>O b\/b=a) v d:=
 r.mono (λ_ _ q=>(j6 h u).tup q) (λb Y n q=>⟨λz=>z.elim n (YI h c q),(j6 h u).seq q⟩) λb φ n q=>⟨λz=>z.elim n (t9 q h),j6 h u _ _ q⟩
def EnvOk.ad9 (E:EnvOk K d O0 H O σ ρ)(i:Nat)(h:H a=none)(g:K.lookup a=none)(m:Mt u)(r:d a=none->cF K d (upd H a u) (λb=>O b\/b=a) (some (some (V.ref a))) sl):
  EnvOk K d O0 (upd H a u) (λb=>O b\/b=a) (σ.set i (some (.ref a))) (ρ.set i sl):=by
 have k:d a=none:=by
  cases e:d a with
  |none=>rfl
  |some o=>have:=E.same a o e;rw[h]at this;cases this
 refine(E.ab8 h g m).af7 i (λj y _ e o q=>?_) (r k);obtain⟨b,w,c,_,_,f,_⟩:=(E.slot j y e).at_ o;rw[q]at c;injection c with c;injection c with c;injection c with c;subst c;rw[h]at f;cases f
def wO (h:H a=some u)(m:Mt u)(q:X1 K H b Y):X1 K (upd H a u') b Y:=by
 have ne:∀w,H b=some w->¬Mt w->b≠a:=λw e n z=>by subst z;rw[h]at e;cases e;exact n m
 rcases q with(q|⟨o,q⟩)|q
 .exact .inl (.inl (by rw[k8 (ne _ q λz=>z)];exact q))
 .exact .inl (.inr ⟨o,by rw[k8 (ne _ q λz=>z)];exact q⟩)
 .exact .inr q
def vV (c:O a)(n:¬O b)(q:K0 K H b Y):K0 K (upd H a u') b Y:=by
 have ne:b≠a:=λz=>by subst z;exact n c
 rcases q with(q|⟨o,q⟩)|q
 .exact .inl (.inl (by rw[k8 ne];exact q))
 .exact .inl (.inr ⟨o,by rw[k8 ne];exact q⟩)
 .exact .inr q
def Rep.upd (h:H a=some u)(m:Mt u)(c:O a)(r:Rep K H O v d):Rep K (upd H a u') O v d:=r.mono (λ_ _ q=>wO h m q) (λ_ _ n q=>⟨n,vV c n q⟩) λb _ n q=>⟨n,by rw[k8 (λz=>n (by rw[z];exact c))];exact q⟩
def Reps.upd (h:H a=some u)(m:Mt u)(c:O a)(r:Reps K H O v d):Reps K (upd H a u') O v d:=r.mono (λ_ _ q=>wO h m q) (λ_ _ n q=>⟨n,vV c n q⟩) λb _ n q=>⟨n,by rw[k8 (λz=>n (by rw[z];exact c))];exact q⟩
def EnvOk.ae4 {i:Nat}{sl sl':Sl}{a:bb}{u u':HO}(E:EnvOk K g O0 H O σ ρ)(e:ρ[i]?=some sl)(t:JE sl)(v:σ[i]?=some (some (V.ref a)))(A:H a=some u)(m':Mt u')(ow':JE sl')
  (r:O a->g a=none->Mt u->cF K g (upd H a u') O (some (some (V.ref a))) sl'):EnvOk K g O0 (upd H a u') O σ (ρ.set i sl')/\Kp H O (upd H a u') O:=by
 obtain⟨b,w,c,B,T,U,m⟩:=(E.slot i sl e).at_ t;rw[v]at c;injection c with c;injection c with c;injection c with c;subst c;rw[A]at U;cases U;have Y:Kp H O (upd H a u') O:=λb o f n=>⟨by rw[k8 (λz=>by subst z;exact n B)];exact f,n⟩;have nf:∀b w,H b=some w->¬Mt w->upd H a u' b=some w:=λb w q n=>by rw[k8 (λz=>by subst z;rw[A]at q;cases q;exact n m)];exact q
 refine⟨⟨by simpa using E.len,λb o q=>?_,E.sub,λb z=>?_,E.trk0,λp hp=>nf _ _ (E.tab p hp) λz=>z,λj s h=>?_,λj k x y b C I o1 o2 J q4=>?_⟩,Y⟩
 .rw[k8 (λz=>by subst z;rw[T]at q;cases q)];exact E.same b o q
 .by_cases f:b=a
  .subst f;exact⟨_,j3,m'⟩
  .obtain⟨o,q,m⟩:=E.trk b z;exact⟨o,by rw[k8 f];exact q,m⟩
 .by_cases L:i=j
  .subst L;obtain⟨e',_⟩:=B8 h;subst e';rw[v];exact r B T m
  .rw[v6 L]at h;refine(E.slot j s h).move (λ_ _ q=>wO A m q) (λ_ _ n q=>⟨n,vV B n q⟩) (λb o w q=>nf _ _ q λz=>z) Y λo b w C I J=>⟨I,?_⟩;rw[k8 (λz=>by subst z;exact L (E.inj i j sl s b e h t o v C))];exact J
 .have d:∀l z,(ρ.set i sl')[l]?=some z->JE z->∃z',ρ[l]?=some z'/\JE z':=λl z q o=>by
   by_cases hl:i=l
   .subst hl;exact⟨sl,e,t⟩
   .rw[v6 hl]at q;exact⟨z,q,o⟩
  obtain⟨x',u1,N⟩:=d j x C o1;obtain⟨y',u2,Q⟩:=d k y I o2;exact E.inj j k x' y' b u1 u2 N Q J q4
def EnvOk.ae7 {i:Nat}{sl sl':Sl}{a:bb}(E:EnvOk K u O0 H O σ ρ)(e:ρ[i]?=some sl)(v:JE sl)(l:σ[i]?=some (some (V.ref a)))(no:¬JE sl')(r:cF K u H (λb=>O b/\b≠a) (some (some (V.ref a))) sl'):
  EnvOk K u O0 H (λb=>O b/\b≠a) σ (ρ.set i sl'):=by
 obtain⟨b,w,c,Q,C,T,m⟩:=(E.slot i sl e).at_ v;rw[l]at c;injection c with c;injection c with c;injection c with c;subst c;have sub:∀b,(O b/\b≠a)->O b:=λb z=>z.1;refine⟨by simpa using E.len,E.same,λb z=>⟨E.sub b z,λq=>?_⟩,λb z=>E.trk b z.1,E.trk0,E.tab,λj s h=>?_,λj k x y b d f A B p I=>?_⟩
 .subst q;obtain⟨o,q⟩:=E.trk0 b z;rw[C]at q;cases q
 .by_cases t:i=j
  .subst t;obtain⟨g,_⟩:=B8 h;subst g;rw[l];exact r
  .rw[v6 t]at h;refine(E.slot j s h).move (λ_ _ q=>q) (λ_ _ n q=>⟨λz=>n z.1,q⟩) (λ_ _ _ q=>q) (λb o J n=>⟨J,λz=>n z.1⟩) λo b w d f p=>⟨⟨f,λz=>?_⟩,p⟩;subst z;exact t (E.inj i j sl s b e h v o l d)
 .have L:i≠j:=λz=>by subst z;obtain⟨g,_⟩:=B8 d;subst g;exact no A
  have N:i≠k:=λz=>by subst z;obtain⟨g,_⟩:=B8 f;subst g;exact no B
  rw[v6 L]at d;rw[v6 N]at f;exact E.inj j k x y b d f A B p I
end
def XW (X:Cx)(e:Str)(H:Hp):Prop:=False
def RC (X:Cx)(H:Hp)(O:bb->Prop)(r:R D)(Q:VK):Prop:=match r with
 |.ok d=>∀v a,Same H a->Rep X.K a O v d->Q v a
 |.ex e=>∀a,Same H a->XW X e a
 |.bad=>False
def A9 (K:kc)(H:Hp)(O:bb->Prop)(v:V)(d:D):Prop:=Rep K H O v d\/∃a b c,v=.ref a/\d=.lst c/\K0 K H a b/\Reps K H O b c
def OK (X:Cx)(H:Hp)(O:bb->Prop)(r:R D)(Q:VK):Prop:=match r with
 |.ok d=>∀v a,Same H a->A9 X.K a O v d->Q v a
 |.ex e=>∀a,Same H a->XW X e a
 |.bad=>False
def xM (X:Cx)(H:Hp)(r:R Bool)(Q:Bool->Hp->Prop):Prop:=match r with
 |.ok b=>∀a,Same H a->Q b a
 |.ex e=>∀a,Same H a->XW X e a
 |.bad=>False
def IG (X:Cx)(H:Hp)(O:bb->Prop)(r:R (List D))(Q:List V->Hp->Prop):Prop:=match r with
 |.ok c=>∀b a,Same H a->Reps X.K a O b c->Q b a
 |.ex e=>∀a,Same H a->XW X e a
 |.bad=>False
def QN (X:Cx)(H:Hp)(O:bb->Prop)(r:R (List D))(Q:List V->Hp->Prop):Prop:=match r with
 |.ok c=>∀b a,Same H a->Paired (A9 X.K a O) b c->Q b a
 |.ex e=>∀a,Same H a->XW X e a
 |.bad=>False
def tD (X:Cx)(f:Ev->R D):TE:=λσ H Q=>∃a b O ρ,EnvOk X.K a b H O σ ρ/\RC X H O (f ρ) Q
def tDB (X:Cx)(f:Ev->R D):TE:=λσ H Q=>∃a b O ρ,EnvOk X.K a b H O σ ρ/\OK X H O (f ρ) Q
def tDT (X:Cx)(f:Ev->R Bool):TT:=λσ H Q=>∃a b O ρ,EnvOk X.K a b H O σ ρ/\xM X H (f ρ) Q
def tDs (X:Cx)(f:Ev->R (List D)):TA:=λσ H Q=>∃a b O ρ,EnvOk X.K a b H O σ ρ/\IG X H O (f ρ) Q
def a2v (X:Cx)(f:Ev->R (List D)):TA:=λσ H Q=>∃a b O ρ,EnvOk X.K a b H O σ ρ/\QN X H O (f ρ) Q
def PD (X:Cx)(e:cy)(f:Ev->R D):Prop:=PE X e (tD X f)
def PB (X:Cx)(e:cy)(f:Ev->R D):Prop:=PE X e (tDB X f)
def AH (X:Cx)(e:cy)(f:Ev->R Bool):Prop:=PT X e (tDT X f)
def KR (X:Cx)(es:List cy)(f:Ev->R (List D)):Prop:=PA X es (tDs X f)
def fj (X:Cx)(es:List cy)(f:Ev->R (List D)):Prop:=PA X es (a2v X f)
def SA {r:Hp->(bb->Prop)->Ev->VK->Prop}(h:PE X e t)(i:∀σ H Q a b O ρ,EnvOk X.K a b H O σ ρ->r H O ρ Q->t σ H Q):PE X e λσ H Q=>∃a b O ρ,EnvOk X.K a b H O σ ρ/\r H O ρ Q:=λc s σ H Q I q=>h c s σ H Q I (let⟨a,b,O,ρ,E,q⟩:=q;i σ H Q a b O ρ E q)
def ptI {r:Hp->(bb->Prop)->Ev->(Bool->Hp->Prop)->Prop}(h:PT X e t)(i:∀σ H Q a b O ρ,EnvOk X.K a b H O σ ρ->r H O ρ Q->t σ H Q):PT X e λσ H Q=>∃a b O ρ,EnvOk X.K a b H O σ ρ/\r H O ρ Q:=λc s σ H Q I q=>h c s σ H Q I (let⟨a,b,O,ρ,E,q⟩:=q;i σ H Q a b O ρ E q)
def paI {r:Hp->(bb->Prop)->Ev->(List V->Hp->Prop)->Prop}(h:PA X es t)(i:∀σ H Q a b O ρ,EnvOk X.K a b H O σ ρ->r H O ρ Q->t σ H Q):PA X es λσ H Q=>∃a b O ρ,EnvOk X.K a b H O σ ρ/\r H O ρ Q:=λd c s σ H Q I q=>h d c s σ H Q I (let⟨a,b,O,ρ,E,q⟩:=q;i σ H Q a b O ρ E q)
def sG {β:Type}{r:Hp->(bb->Prop)->Ev->β->Prop}{G:List (bb×Obj)->a9->St->Hp->β->Prop}(h:∀a s σ H Q,Inv X a σ H s->∀b c O ρ,EnvOk X.K b c H O σ ρ->r H O ρ Q->G a s σ H Q)(a s σ H Q)(I:Inv X a σ H s)(q:∃b c O ρ,EnvOk X.K b c H O σ ρ/\r H O ρ Q):G a s σ H Q:=let⟨b,c,O,ρ,E,q⟩:=q;h a s σ H Q I b c O ρ E q
def PD.pb (h:PD X e f):PB X e f:=SA h λσ H Q a b O ρ E q=>⟨a,b,O,ρ,E,by
 unfold RC OK at*
 cases e:f ρ with
 |ok d=>rw[e]at q;exactλv c s r=>q v c s (.inl r)
 |ex x=>rw[e]at q;exact q
 |bad=>rw[e]at q;exact q⟩
def RC.seq {O:bb->Prop}(h:RC X H O (r.bind g) Q):
  RC X H O r λv b=>∃d,r=.ok d/\Same H b/\Rep X.K b O v d/\RC X b O (g d) Q:=by
 cases r with
 |ok d=>
  intro v b c l;refine⟨d,rfl,c,l,?_⟩;have a:RC X H O (g d) Q:=h;cases e:g d with
  |ok n=>rw[e]at a;exactλw f k m=>a w f (c.trans k) m
  |ex x=>rw[e]at a;exactλf k=>a f (c.trans k)
  |bad=>rw[e]at a;exact a
 |ex x=>exact h
 |bad=>exact h
def OK.seq {O:bb->Prop}(h:RC X H O (r.bind g) Q):
  OK X H O r λv b=>∃d,r=.ok d/\Same H b/\A9 X.K b O v d/\RC X b O (g d) Q:=by
 cases r with
 |ok d=>
  intro v b c l;refine⟨d,rfl,c,l,?_⟩;have a:RC X H O (g d) Q:=h;cases e:g d with
  |ok n=>rw[e]at a;exactλw f k m=>a w f (c.trans k) m
  |ex x=>rw[e]at a;exactλf k=>a f (c.trans k)
  |bad=>rw[e]at a;exact a
 |ex x=>exact h
 |bad=>exact h
def RC.grow {O:bb->Prop}(h:RC X H O r Q)(c:Same H e):RC X e O r Q:=by
 cases r with
 |ok d=>exactλw a b f=>h w a (c.trans b) f
 |ex x=>exactλa b=>h a (c.trans b)
 |bad=>exact h
end
section
variable [Tabs]
section
variable{X:Cx}
def A9.same (e:Same H H')(r:A9 X.K H O v d):A9 X.K H' O v d:=by
 rcases r with r|⟨a,b,c,f,g,h,k⟩
 .exact .inl (r.same e)
 .exact .inr ⟨a,b,c,f,g,e.seq h,k.same e⟩
def A9.aa3 {K:kc}{ds:List D}(r:A9 K H O v (.lst ds)):∃a vs,v=.ref a/\K0 K H a vs/\Reps K H O vs ds:=by
 rcases r with r|⟨a,vs,f,c,b,d,e⟩
 .cases r with|lst h n r=>exact⟨_,_,rfl,h,r⟩
 .injection b with b;subst b;exact⟨a,vs,c,d,e⟩
def A9.af9 {K:kc}(r:A9 K H O v .dct):∃a o,v=.ref a/\H a=some (.ext λh=>h.get? a=some o)/\o.ExactDict:=by
 rcases r with r|⟨a,c,d,e,b,f,g⟩
 .cases r with|dct h x n=>exact⟨_,_,rfl,h,x⟩
 .cases b
def A9.tupI {K:kc}{ds:List D}(r:A9 K H O v (.tup ds)):∃a vs,v=.ref a/\X1 K H a vs/\Reps K H O vs ds:=by
 rcases r with r|⟨a,vs,c,d,b,e,f⟩
 .cases r with|tup h r=>exact⟨_,_,rfl,h,r⟩
 .cases b
def A9.aa6 {K:kc}{i:Int}(r:A9 K H O v (.int i)):v=.int i:=by
 rcases r with r|⟨a,c,d,e,b,f,g⟩
 .cases r;rfl
 .cases b
def A9.blI {K:kc}{i:Bool}(r:A9 K H O v (.bl i)):v=.bl i:=by
 rcases r with r|⟨a,c,d,e,b,f,g⟩
 .cases r;rfl
 .cases b
def A9.ac1 {K:kc}(r:A9 K H O v .non):v=.non:=by
 rcases r with r|⟨a,c,d,e,b,f,g⟩
 .cases r;rfl
 .cases b
def A9.ac4 {K:kc}{i:Str}(r:A9 K H O v (.str i)):v=.str i:=by
 rcases r with r|⟨a,c,d,e,b,f,g⟩
 .cases r;rfl
 .cases b
end
def T0 (i:Nat)(ρ:Ev):R D:=match ρ[i]? with
 |some (.v d)=>.ok d
 |_=>.bad
def rJ (i:Nat)(ρ:Ev):R D:=match ρ[i]? with
 |some (.v d)=>.ok d
 |some (.o Y)=>.ok (.lst Y)
 |_=>.bad
section
def c5 (i:Nat)(a:X.N[i]?=some x:=by rfl)(b:BC X.env.scope x:=by first|exact aCw rfl|exact aBE (aCw rfl)|exact aBE (aBE rfl))(f:(x==kd)=false:=by decide)(g:(x==ku)=false:=by decide):PD X (.Name x h) (T0 i):=SA (N0 a b f g) λσ H Q p r O ρ E q=>by
 unfold T0 at q;cases e:ρ[i]? with
 |none=>rw[e]at q;exact q.elim
 |some k=>
  rw[e]at q;cases k with
  |no=>exact q.elim
  |x C=>exact q.elim
  |c m φ=>exact q.elim
  |d U=>exact q.elim
  |o Y=>exact q.elim
  |v d=>obtain⟨v,l,n⟩:=E.val i d e;exact⟨v,l,q v H (Same.refl H) n⟩
def b8 (i:Nat)(g:X.N[i]?=some x:=by rfl)(h:BC X.env.scope x:=by first|exact aCw rfl|exact aBE (aCw rfl)|exact aBE (aBE rfl))(k:(x==kd)=false:=by decide)(l:(x==ku)=false:=by decide):PB X (.Name x n) (rJ i):=SA (N0 g h k l) λσ H Q u w O ρ E q=>by
 unfold rJ at q;cases e:ρ[i]? with
 |none=>rw[e]at q;exact q.elim
 |some p=>
  rw[e]at q;cases p with
  |no=>exact q.elim
  |x C=>exact q.elim
  |c m φ=>exact q.elim
  |d U=>exact q.elim
  |o Y=>obtain⟨a,r,b,f,y,s,t⟩:=E.own i Y e;exact⟨_,b,q _ H (Same.refl H) (.inr ⟨a,r,Y,rfl,rfl,K0.of s,t⟩)⟩
  |v d=>obtain⟨v,b,f⟩:=E.val i d e;exact⟨v,b,q v H (Same.refl H) (.inl f)⟩
def XE (d:D)(_:Ev):R D:=.ok d
def wM (h:PE X e (tC v))(r:∀H O,Rep X.K H O v d):PD X e (XE d):=SA h λσ H Q a b O ρ E q=>q v H (Same.refl H) (r H O)
def d4 {j a}:PD X (.Constant (.int i) j a) (XE (.int i)):=wM YG λ_ _=>.int
def gG {j a}:PD X (.Constant (.bool i) j a) (XE (.bl i)):=wM a0i λ_ _=>.bl
def EK {j a}:PD X (.Constant .none j a) (XE .non):=wM ZS λ_ _=>.non
def kP (X:Cx)(f:ai->ai->Sem ai)(g:D->D->R D):Prop:=
 ∀(H:Hp) (O:bb->Prop) (x y:V) (a b:D) (Q:VK),(∀p,H p=none->¬O p)->A9 X.K H O x a->A9 X.K H O y b->RC X H O (g a b) Q->∃r,lP X f r/\r x y H Q
def a1x (X:Cx)(O:bb->Prop)(g:D->D->R D)(Q:VK):V->V->Hp->Prop:=λx y H=>∃a b,(∀p,H p=none->¬O p)/\A9 X.K H O x a/\A9 X.K H O y b/\RC X H O (g a b) Q
def oG {c O:bb->Prop}(E:EnvOk X.K l c H O σ ρ)(q:RC X H O ((m ρ).bind λx=>(n ρ).bind λy=>g x y) Q):
  tDB X m σ H λx f=>tDB X n σ f λy h=>a1x X O g Q x y h:=by
 refine⟨l,c,O,ρ,E,?_⟩;have a:=OK.seq q;revert a;cases I:m ρ with
 |ok t=>
  intro a x f o u;obtain⟨d,e,_,r,v⟩:=a x f o u;cases e;have s:=E.grow o;refine⟨l,c,O,ρ,s,?_⟩;have b:=OK.seq v;revert b;cases J:n ρ with
  |ok w=>intro b y h k z;obtain⟨L,e,_,A,B⟩:=b y h k z;cases e;exact⟨t,w,λp C=>(s.grow k).fresh C,r.same k,A,B⟩
  |ex x=>intro b;exact b
  |bad=>intro b;exact b
 |ex x=>intro a;exact a
 |bad=>intro a;exact a
def c7 (e:kP X (eR op) g)(f:PB X a k)(l:PB X b m):PD X (.BinOp a op b n) (λρ=>(k ρ).bind λx=>(m ρ).bind λy=>g x y):=by refine sG λc s σ H Q I T U O ρ E q=>?_;refine wpAny_BinOp (MR f l I (oG E q) λv u o x y d p t w h=>?_);obtain⟨z,A,B,C,J,q⟩:=h;obtain⟨r,L,N⟩:=e d O x y z A Q B C J q;exact L c o σ d x y v u Q p t w N
def eN (e:kP X (ee op) g)(f:PB X a k)(l:PB X b m)(n:i5 op b=false:=by first|exact ND _|with_unfolding_all rfl):
  PD X (.Compare a [op] [b] o) (λρ=>(k ρ).bind λx=>(m ρ).bind λy=>g x y):=by
 refine sG λc s σ H Q I U Y O ρ E q=>?_;refine wpAny_Compare1 (MR f l I (oG E q) λv u p x y d t w z h=>?_) n;obtain⟨A,B,C,J,L,q⟩:=h;obtain⟨r,N,T⟩:=e d O x y A B Q C J L q;exact N c p σ d x y v u Q t w z T
def qZ:D->R Bool
 |.bl b=>.ok b
 |_=>.bad
def xJ {O:bb->Prop}{Q:Bool->Hp->Prop}(h:xM X H (r.bind qZ) Q):RC X H O r λv a=>∃c,v=.bl c/\Q c a:=by
 cases r with
 |ok d=>
  cases d with
  |bl b=>intro v a e f;cases f;exact⟨b,rfl,h a e⟩
  |_=>exact(show False from h).elim
 |ex x=>exact h
 |bad=>exact h
def j4 (l:kP X (ee op) g)(m:PB X a n)(o:PB X b p)(t:i5 op b=false:=by first|exact ND _|with_unfolding_all rfl):
  AH X (.Compare a [op] [b] w) (λρ=>((n ρ).bind λx=>(p ρ).bind λy=>g x y).bind qZ):=by
 refine sG λd s σ H Q I H9 O0 O ρ E q=>?_;have A:=xJ (O:=O) q;refine wpAny_isTrue_Compare1 (MR m o I (oG E A) λv u B x y f C J L h=>?_) t;obtain⟨N,T,U,Y,r2,q⟩:=h;obtain⟨r,hr,hq⟩:=l f O x y N T _ U Y r2 q;refine E6 (hr d B σ f x y v u _ C J L hq) λc s3 z9=>?_;obtain⟨z,H3,I3,r3,k,e,q3⟩:=z9;subst e;cases r3;exact aBG ⟨H3,I3,q3⟩
def Q6 (h:PD X e f)(a:∀whole,isTrue e X.env whole=(do let v<-whole;standAt e.pos;gh [v] (truthy v)):=by intro _;rfl):AH X e (λρ=>(f ρ).bind qZ):=by refine ptI (iz h a) λσ H Q b c O ρ E q=>⟨b,c,O,ρ,E,xJ q⟩
def xM.seq {Q:Bool->Hp->Prop}(h:xM X H (r.bind g) Q):xM X H r λb c=>r=.ok b/\Same H c/\xM X c (g b) Q:=by
 cases r with
 |ok d=>
  intro c f;refine⟨rfl,f,?_⟩;have a:xM X H (g d) Q:=h;cases e:g d with
  |ok m=>rw[e]at a;exactλk l=>a k (f.trans l)
  |ex x=>rw[e]at a;exactλk l=>a k (f.trans l)
  |bad=>rw[e]at a;exact a
 |ex x=>exact h
 |bad=>exact h
def xM.ag1 {O:bb->Prop}(h:RC X H O (r.bind g) Q):xM X H r λb a=>r=.ok b/\Same H a/\RC X a O (g b) Q:=by
 cases r with
 |ok d=>intro a c;refine⟨rfl,c,?_⟩;have e:RC X H O (g d) Q:=h;exact e.grow c
 |ex x=>exact h
 |bad=>exact h
def xM.mono {Q c:Bool->Hp->Prop}(h:xM X H r Q)(i:∀b a,Q b a->c b a):xM X H r c:=by
 cases r with
 |ok d=>exactλa e=>i _ _ (h a e)
 |ex x=>exact h
 |bad=>exact h
def RC.mono {O:bb->Prop}(h:RC X H O r Q)(i:∀b a,Q b a->c b a):RC X H O r c:=by
 cases r with
 |ok d=>exactλv a e f=>i _ _ (h v a e f)
 |ex x=>exact h
 |bad=>exact h
def uA (X:Cx)(e:cy)(f:Ev->R Bool):Prop:=PW X e (tDT X f)
def OY (f g:Ev->R Bool):Ev->R Bool:=λρ=>(f ρ).bind λb=>if b=true then g ρ else .ok false
def orB (f g:Ev->R Bool):Ev->R Bool:=λρ=>(f ρ).bind λb=>if b=true then .ok true else g ρ
def a0h (f:Ev->R Bool):Ev->R Bool:=λρ=>(f ρ).bind λb=>.ok (!b)
variable{rest:List cy}
def eU (b:AH X a f):uA X (.BoolOp .And [a] c) f:=SY b
def cS (b:AH X a f):uA X (.BoolOp .Or [a] c) f:=ZA b
def MT (h:PW X e t)(i:∀σ H Q,t' σ H Q->t σ H Q):PW X e t':=λb a s σ H Q I q=>h b a s σ H Q I (i σ H Q q)
def jQ (k:AH X a f)(l:uA X (.BoolOp .And (b::rest) c) g):uA X (.BoolOp .And (a::b::rest) c) (OY f g):=
 MT (YY k l) λσ H Q ⟨d,e,O,ρ,E,q⟩=>⟨d,e,O,ρ,E,xM.mono (xM.seq q)<|by
  rintro b m ⟨_,n,h⟩;cases b with
  |true=>rw[jk rfl];exact⟨d,e,O,ρ,E.grow n,h⟩
  |false=>rw[ka aAP];exact h m (Same.refl _)⟩
def aI (k:AH X a f)(l:uA X (.BoolOp .Or (b::rest) c) g):uA X (.BoolOp .Or (a::b::rest) c) (orB f g):=
 MT (yx k l) λσ H Q ⟨d,e,O,ρ,E,q⟩=>⟨d,e,O,ρ,E,xM.mono (xM.seq q)<|by
  rintro b m ⟨_,n,h⟩;cases b with
  |false=>rw[ka aAP];exact⟨d,e,O,ρ,E.grow n,h⟩
  |true=>rw[jk rfl];exact h m (Same.refl _)⟩
def uA.pt (h:uA X e f):AH X e f:=PW.pt h
def fQ (c:AH X a f):AH X (.UnaryOp .Not a d) (a0h f):=
 ptI (bx c) λσ H Q e g O ρ E q=>⟨e,g,O,ρ,E,xM.mono (xM.seq q)<|by rintro b h ⟨_,l,k⟩;exact k h (Same.refl _)⟩
def pj (f:Ev->R D)(g:Ev->R D):Ev->R D:=λρ=>((f ρ).bind qZ).bind λb=>if b=true then g ρ else .ok (.bl false)
def jz {op}{f:Ev->R D}(h:PD X a f):PD X (.BoolOp op [a] b) f:=ZF h
def YO {f g:Ev->R D}(m:PD X a f)(n:PD X (.BoolOp .And (b::rest) d) g):PD X (.BoolOp .And (a::b::rest) d) (pj f g):=
 SA (YN m n) λσ H Q h k O ρ E q=>⟨h,k,O,ρ,E,RC.mono (xJ<|xM.ag1 q) λv o ⟨c,e,_,p,l⟩=>⟨c,e,by
  cases c with
  |true=>rw[jk rfl];exact⟨h,k,O,ρ,E.grow p,l⟩
  |false=>rw[ka aAP];exact l _ o (Same.refl _) .bl⟩⟩
def jw:D->R D
 |.int i=>.ok (.int (-i))
 |_=>.bad
def iM {f:Ev->R D}(c:PD X a f):PD X (.UnaryOp .USub a e) (λρ=>(f ρ).bind jw):=
 SA (tw YU c) λσ H Q g h O ρ E q=>⟨g,h,O,ρ,E,by
  refine RC.mono (RC.seq q) λv k l=>?_;obtain⟨d,_,n,m,b⟩:=l;cases d with
  |int i=>cases m;exact⟨i,rfl,b _ k (Same.refl _) .int⟩
  |_=>exact(show False from b).elim⟩
def IG.seq {H:Hp}{O:bb->Prop}{r:R (List D)}{g:List D->R D}{Q:VK}(h:RC X H O (r.bind g) Q):
  IG X H O r λv a=>∃d,r=.ok d/\Same H a/\Reps X.K a O v d/\RC X a O (g d) Q:=by
 cases r with
 |ok d=>exactλv a b c=>⟨d,rfl,b,c,(show RC X H O (g d) Q from h).grow b⟩
 |ex x=>exact h
 |bad=>exact h
def IG.mono {O:bb->Prop}{Q c:List V->Hp->Prop}(h:IG X H O r Q)(i:∀b a,Q b a->c b a):IG X H O r c:=by
 cases r with
 |ok d=>exactλv a e f=>i _ _ (h v a e f)
 |ex x=>exact h
 |bad=>exact h
def QN.seq {H:Hp}{O:bb->Prop}{r:R (List D)}{g:List D->R D}{Q:VK}(h:RC X H O (r.bind g) Q):
  QN X H O r λv a=>∃d,r=.ok d/\Same H a/\Paired (A9 X.K a O) v d/\RC X a O (g d) Q:=by
 cases r with
 |ok d=>exactλv a b c=>⟨d,rfl,b,c,(show RC X H O (g d) Q from h).grow b⟩
 |ex x=>exact h
 |bad=>exact h
def OK.mono {O:bb->Prop}(h:OK X H O r Q)(i:∀b a,Q b a->c b a):OK X H O r c:=by
 cases r with
 |ok d=>exactλv a e f=>i _ _ (h v a e f)
 |ex x=>exact h
 |bad=>exact h
def q8 (f:Ev->R D)(g:Ev->R (List D)):Ev->R (List D):=λρ=>(f ρ).bind λd=>(g ρ).bind λa=>.ok (d::a)
def R5:Ev->R (List D):=λ_=>.ok []
def m9:KR X [] R5:=paI aM λσ H Q a b O ρ E q=>q [] H (Same.refl _) .nil
def f9 {f:Ev->R D}{g:Ev->R (List D)}(n:PD X e f)(o:KR X es g)(p:av (e::es) X.env=(false,d3 e X.env)::av es X.env:=by rfl):KR X (e::es) (q8 f g):=
 paI (J0 n o p) λσ H Q l m O ρ E q=>⟨l,m,O,ρ,E,by
  unfold q8 at q;cases b:f ρ with
  |ok d=>
   rw[b]at q;intro v u c r;refine⟨l,m,O,ρ,E.grow c,?_⟩;cases h:g ρ with
   |ok w=>rw[h]at q;exactλs k a t=>q (v::s) k (c.trans a) (.cons (r.same a) t)
   |ex x=>rw[h]at q;exactλk a=>q k (c.trans a)
   |bad=>rw[h]at q;exact q
  |ex x=>rw[b]at q;exact q
  |bad=>rw[b]at q;exact q⟩
def x5:fj X [] R5:=paI aM λσ H Q a b O ρ E q=>q [] H (Same.refl _) .nil
def o9 {f:Ev->R D}{g:Ev->R (List D)}(n:PB X e f)(o:fj X es g)(p:av (e::es) X.env=(false,d3 e X.env)::av es X.env:=by rfl):fj X (e::es) (q8 f g):=
 paI (J0 n o p) λσ H Q l m O ρ E q=>⟨l,m,O,ρ,E,by
  unfold q8 at q;cases b:f ρ with
  |ok d=>
   rw[b]at q;intro v u c r;refine⟨l,m,O,ρ,E.grow c,?_⟩;cases h:g ρ with
   |ok w=>rw[h]at q;exactλs k a t=>q (v::s) k (c.trans a) (.cons (r.same a) t)
   |ex x=>rw[h]at q;exactλk a=>q k (c.trans a)
   |bad=>rw[h]at q;exact q
  |ex x=>rw[b]at q;exact q
  |bad=>rw[b]at q;exact q⟩
def dF (ds:List D):R D:=if ds.length<=sizeLine then .ok (.tup ds)else .bad
def rN (ds:List D):R D:=if ds.length<=sizeLine then .ok (.lst ds)else .bad
def vY {f:Ev->R (List D)}{d}(h:KR X es f):PD X (.Tuple es d e) (λρ=>(f ρ).bind dF):=
 SA (ZC h) λσ H Q g k O ρ E q=>⟨g,k,O,ρ,E,IG.mono (IG.seq q)<|by
  rintro m n ⟨o,_,r,b,a⟩;unfold dF at a;split at a
  .rename_i l;exact⟨by rw[b.length];exact l,λp c=>a (.ref p) _ (j6 c _) (.tup (X1.of j3) (b.same<|j6 c _))⟩
  .exact a.elim⟩
def aV {f:Ev->R (List D)}(h:KR X es f):PD X (.List es d) (λρ=>(f ρ).bind rN):=
 SA (QF h) λσ H Q e g O ρ E q=>⟨e,g,O,ρ,E,IG.mono (IG.seq q)<|by
  rintro m n ⟨o,_,k,c,a⟩;unfold rN at a;split at a
  .rename_i l;exact⟨by rw[c.length];exact l,λp b=>a (.ref p) _ (j6 b _) (.lst (K0.of j3) ((E.grow k).fresh b) (c.same<|j6 b _))⟩
  .exact a.elim⟩
def dD (X:Cx)(f:ai)(g:List D->R D):Prop:=
 ∀(H:Hp) (O:bb->Prop) (a:List V) (b:List D) (Q:VK),(∀p,H p=none->¬O p)->Paired (A9 X.K H O) a b->RC X H O (g b) Q->∃r,uM X f r/\r a H Q
def bC {x:Str}{id:String}{p:Pos}{f:Ev->R (List D)}{g:List D->R D}(l:dD X (.builtin id) g)(m:fj X (e::es) f)(n:Gl X x:=by rfl)(o:X.mg x=none:=by assumption)(t:df x=some (.builtin id):=by decide+kernel)(u:x≠ "__name__":=by decide)
  (v:(x==kd)=false:=by decide) (w:av (e::es) X.env=(false,d3 e X.env)::av es X.env:=by rfl) (y:(dq b (av es X.env)).any (·.1)=false:=by rfl):
  PD X (.Call (.Name x p) (e::es) [] b) (λρ=>(f ρ).bind g):=by
 refine sG λa s σ H Q I z A O ρ E q=>?_;refine aAL (K8 I n o t ?_ u v);refine aBo (E6 (m b a s σ H _ I ⟨z,A,O,ρ,E,QN.seq q⟩) λB C ⟨c,k,J,L,d,_,N,r,h⟩=>?_) w y;obtain⟨r',T,U⟩:=l k O c d Q (λp Y=>(E.grow N).fresh Y) r h;exact T a C σ k c B Q J L U
def P6 {x:Str}{T:String}{p:Pos}{f:Ev->R (List D)}{g:List D->R D}(l:dD X (.type T) g)(m:fj X (e::es) f)(n:Gl X x:=by rfl)(o:X.mg x=none:=by assumption)(t:df x=some (.type T):=by decide+kernel)(u:x≠ "__name__":=by decide)
  (v:(x==kd)=false:=by decide) (w:av (e::es) X.env=(false,d3 e X.env)::av es X.env:=by rfl) (y:(dq b (av es X.env)).any (·.1)=false:=by rfl):
  PD X (.Call (.Name x p) (e::es) [] b) (λρ=>(f ρ).bind g):=by
 refine sG λa s σ H Q I z A O ρ E q=>?_;refine aAL (K8 I n o t ?_ u v);refine aBe (E6 (m b a s σ H _ I ⟨z,A,O,ρ,E,QN.seq q⟩) λB C ⟨c,k,J,L,d,_,N,r,h⟩=>?_) w y;obtain⟨r',U,Y⟩:=l k O c d Q (λp hp=>(E.grow N).fresh hp) r h;exact U a C σ k c B Q J L Y
end
mutual
def u7:D->D->Bool
 |.non,.non=>true
 |.bl a,.bl b=>a==b
 |.bl a,.int b=>(if a then 1 else 0)==b
 |.int a,.bl b=>a==(if b then 1 else 0)
 |.int a,.int b=>a==b
 |.str a,.str b=>a==b
 |.tup Y,.tup c=>S7 Y c
 |.lst Y,.lst c=>S7 Y c
 |.dct,.dct=>true
 |_,_=>false
def S7:List D->List D->Bool
 |[],[]=>true
 |x::Y,y::a=>u7 x y&&S7 Y a
 |_,_=>false
end
mutual
def B5:D->Nat
 |.tup Y=>z6 Y+1
 |.lst Y=>z6 Y+1
 |.dct=>dA
 |_=>0
def z6:List D->Nat
 |[]=>0
 |x::Y=>max (B5 x) (z6 Y)
end
mutual
theorem M7:∀d:D,u7 d d=true
 |.non=>by simp[u7]
 |.bl b=>by simp[u7]
 |.int i=>by simp[u7]
 |.str x=>by simp[u7]
 |.tup Y=>by rw[u7];exact lK Y
 |.lst Y=>by rw[u7];exact lK Y
 |.dct=>by simp[u7]
theorem lK:∀ds:List D,S7 ds ds=true
 |[]=>by simp[S7]
 |x::Y=>by rw[S7,M7 x,lK Y];rfl
end
def nE (Y c:List D)(j:Nat):Bool:=match Y[j]?,c[j]? with
 |some a,some b=>u7 a b
 |_,_=>false
theorem iQ:∀(Y a:List D),S7 Y a=((aBw (min Y.length a.length)).all (nE Y a)&&(Y.length==a.length))
 |[],[]=>by simp[S7]
 |[],_::_=>by simp[S7]
 |_::_,[]=>by simp[S7]
 |x::Y,y::a=>by
  rw[S7,iQ Y a,aAw,aAw,Nat.succ_min_succ,aFz,aGj,List.all_map];have b:nE (x::Y) (y::a) 0=u7 x y:=rfl;have c:(nE (x::Y) (y::a)∘Nat.succ)=nE Y a:=by
   funext j
   simp[nE]
  have d:(Y.length+1==a.length+1)=(Y.length==a.length):=by rw[aDa];simp
  rw[b,c,d,Bool.and_assoc]
theorem oE:∀{Y:List D} {d:D} {j:Nat},Y[j]?=some d->B5 d<=z6 Y
 |[],_,_,h=>by simp at h
 |x::Y,d,0,h=>by simp at h;subst h;rw[z6];exact Nat.le_max_left _ _
 |x::Y,d,j+1,h=>by rw[z6];exact aAr (oE (j:=j) (by simpa using h)) (Nat.le_max_right _ _)
section
def BQ {K:kc}{H:Hp}{O:bb->Prop}{a:bb}{d:D}(h:Rep K H O (.ref a) d):(∃vs ds,d=.tup ds/\X1 K H a vs/\Reps K H O vs ds)\/(∃vs ds,d=.lst ds/\K0 K H a vs/\Reps K H O vs ds)\/(d=.dct/\∃o:Obj,H a=some (.ext λh=>h.get? a=some o)/\o.ExactDict):=by
 cases h with
 |tup h r=>exact .inl ⟨_,_,rfl,h,r⟩
 |lst h n r=>exact .inr (.inl ⟨_,_,rfl,h,r⟩)
 |dct h x n=>exact .inr (.inr ⟨rfl,_,h,x⟩)
def WR (I:Inv X b σ H s)(h:X1 X.K H a vs)(h':K0 X.K H a ws):False:=by obtain⟨d,_,p,_⟩:=I.tuple h;obtain⟨c,_,e,_⟩:=I.list h';exact absurd rfl (SeqAt.ne_of_list_tuple (s:=s) e.isList p)
def XZ {o:Obj}(I:Inv X b σ H s)(h':X1 X.K H a vs)(h:H a=some (.ext λh=>h.get? a=some o))(x:o.ExactDict):False:=by obtain⟨d,_,⟨f,g,c,_⟩,_⟩:=I.tuple h';have e:s.heap.get? _=some _:=(I.hok _ _ h).1;rw[g]at e;cases e;exact absurd (c.symm.trans x.1) (by decide)
def XR {o:Obj}(I:Inv X b σ H s)(h':K0 X.K H a vs)(h:H a=some (.ext λh=>h.get? a=some o))(x:o.ExactDict):False:=by obtain⟨d,_,p,_⟩:=I.list h';obtain⟨f,g,c,_⟩:=p.isList;have e:s.heap.get? _=some _:=(I.hok _ _ h).1;rw[g]at e;cases e;exact absurd (c.symm.trans x.1) (by decide)
mutual
theorem Rep.inj (I:Inv X f σ H s):∀{v:V} {d:D},Rep X.K H O v d->∀{d':D},Rep X.K H g v d'->d=d'
 |_,_,.non=>λh=>by cases h;rfl
 |_,_,.bl=>λh=>by cases h;rfl
 |_,_,.int=>λh=>by cases h;rfl
 |_,_,.str=>λh=>by cases h;rfl
 |_,_,.tup h r=>λb=>by
  rcases BQ b with⟨_,_,rfl,a,c⟩|⟨_,_,rfl,a,_⟩|⟨rfl,_,a,x⟩
  .have e:=I.ab6 h a;subst e;rw[Reps.inj I r c]
  .exact(WR I h a).elim
  .exact(XZ I h a x).elim
 |_,_,.lst h _ r=>λb=>by
  rcases BQ b with⟨_,_,rfl,a,_⟩|⟨_,_,rfl,a,c⟩|⟨rfl,_,a,x⟩
  .exact(WR I a h).elim
  .have e:=I.ab2 h a;subst e;rw[Reps.inj I r c]
  .exact(XR I h a x).elim
 |_,_,.dct h x _=>λb=>by
  rcases BQ b with⟨_,_,rfl,a,_⟩|⟨_,_,rfl,a,_⟩|⟨rfl,_⟩
  .exact(XZ I a h x).elim
  .exact(XR I a h x).elim
  .rfl
theorem Reps.inj (I:Inv X a σ H s):∀{v:List V} {d:List D},Reps X.K H O v d->∀{d':List D},Reps X.K H f v d'->d=d'
 |_,_,.nil=>λh=>by cases h;rfl
 |_,_,.cons h t=>λb=>by
  cases b with
  |cons c e=>rw[Rep.inj I h c,Reps.inj I t e]
end
def oI (A:cp)(s:a9)(a ws:List ai)(Y b:List D):Prop:=∀(j:Nat) (u w:ai),a[j]?=some u->ws[j]?=some w->SeqAt.EqAt A.in1 s u w (nE Y b j)
def xU (f:s.heap.IsList l c.toArray)(g:s.heap.IsList b ws.toArray)(e1:c.length=Y.length)(e2:ws.length=d.length)(h:A.units<dA)(p:oI A s c ws Y d):SeqAt.RcAt A s (.ref l) (.ref b) (S7 Y d)/\SeqAt.RcNeAt A s (.ref l) (.ref b) (!S7 Y d):=by
 rw[iQ];by_cases a:Y.length=d.length
 .have e:c.toArray.size=ws.toArray.size:=by simp[e1,e2,a]
  have q:min Y.length d.length=c.toArray.size:=by simp[e1,a]
  have k:(Y.length==d.length)=true:=by simp[a]
  have m:∀j (n:j<c.toArray.size) (o:j<ws.toArray.size),SeqAt.EqAt A.in1 s c.toArray[j] ws.toArray[j] (nE Y d j):=λj n o=>p j _ _ (by simp[aAh (show j<c.length by simpa using n)]) (by simp[aAh (show j<ws.length by simpa using o)]);rw[k,Bool.and_true,q];exact⟨SeqAt.RcAt.lists f g e h m,SeqAt.RcNeAt.lists f g e h m⟩
 .have e:(c.toArray.size !=ws.toArray.size)=true:=by simp[e1,e2,a]
  have k:(Y.length==d.length)=false:=by simp[a]
  rw[k,aFV];exact⟨SeqAt.RcAt.lists_lengths f g e h,SeqAt.RcNeAt.lists_lengths f g e h⟩
def lY (d:IsTup s.heap l a.toArray)(e:IsTup s.heap b ws.toArray)(e1:a.length=Y.length)(e2:ws.length=c.length)(f:A.units<dA)(m:oI A s a ws Y c):SeqAt.RcAt A s (.ref l) (.ref b) (S7 Y c)/\SeqAt.RcNeAt A s (.ref l) (.ref b) (!S7 Y c):=by
 rw[iQ];have n:min Y.length c.length=min a.toArray.size ws.toArray.size:=by simp[e1,e2]
 have o:(Y.length==c.length)=(a.toArray.size==ws.toArray.size):=by simp[e1,e2]
 have g:∀j (h:j<a.toArray.size) (k:j<ws.toArray.size),SeqAt.EqAt A.in1 s a.toArray[j] ws.toArray[j] (nE Y c j):=λj h k=>m j _ _ (by simp[aAh (show j<a.length by simpa using h)]) (by simp[aAh (show j<ws.length by simpa using k)]);rw[o,n];exact⟨SeqAt.RcAt.tuples d e f g,SeqAt.RcNeAt.tuples d e f g⟩
def p8 (A:cp):A.in1.units=A.units+1:=rfl
mutual
theorem OA (I:Inv X N σ H s):∀{x y:V} {z B:D} {v u:ai} {A:cp},Rep X.K H O x z->Rep X.K H O' y B->RelV x v->RelV y u->A.units+B5 z<dA->A.units+B5 B<dA->SeqAt.EqAt A s v u (u7 z B)
 |_,_,_,_,v,u,A,.non,f,g,b,k,d=>by
  have c:A.units<dA:=by lia
  cases g;cases f with
  |dct=>exact absurd d (by rw[B5];lia)
  |non=>cases b;exact aDV _
  |bl=>cases b;simp only[u7];exact SeqAt.EqAt.none_bool _
  |int=>obtain⟨t,rfl⟩:=b;simp only[u7];exact SeqAt.EqAt.none_int _ _
  |str=>obtain⟨t,rfl⟩:=b;simp only[u7];exact SeqAt.EqAt.none_str _ _
  |tup h r=>cases b;obtain⟨_,_,p,_⟩:=I.tuple h;simp only[u7];exact SeqAt.EqAt.none_tuple p c
  |lst h _ r=>cases b;obtain⟨_,_,p,_⟩:=I.list h;simp only[u7];exact SeqAt.EqAt.none_list p.isList c
 |_,_,_,_,v,u,A,.bl,f,g,b,k,d=>by
  have c:A.units<dA:=by lia
  cases g;cases f with
  |dct=>exact absurd d (by rw[B5];lia)
  |non=>cases b;simp only[u7];exact SeqAt.EqAt.bool_none _
  |bl=>cases b;simp only[u7];exact SeqAt.EqAt.bool_bool _ _
  |int=>obtain⟨t,rfl⟩:=b;simp only[u7];exact SeqAt.EqAt.bool_int _ _ _
  |str=>obtain⟨t,rfl⟩:=b;simp only[u7];exact SeqAt.EqAt.bool_str _ _ _
  |tup h r=>cases b;obtain⟨_,_,p,_⟩:=I.tuple h;simp only[u7];exact SeqAt.EqAt.bool_tuple _ p c
  |lst h _ r=>cases b;obtain⟨_,_,p,_⟩:=I.list h;simp only[u7];exact SeqAt.EqAt.bool_list _ p.isList c
 |_,_,_,_,v,u,A,.int,f,g,b,k,d=>by
  have c:A.units<dA:=by lia
  obtain⟨Q,rfl⟩:=g;cases f with
  |dct=>exact absurd d (by rw[B5];lia)
  |non=>cases b;simp only[u7];exact SeqAt.EqAt.int_none _ _
  |bl=>cases b;simp only[u7];exact SeqAt.EqAt.int_bool _ _ _
  |int=>obtain⟨t,rfl⟩:=b;simp only[u7];exact aEU _ _ _ _
  |str=>obtain⟨t,rfl⟩:=b;simp only[u7];exact aGh _ _ _ _
  |tup h r=>cases b;obtain⟨_,_,p,_⟩:=I.tuple h;simp only[u7];exact aFR _ _ p c
  |lst h _ r=>cases b;obtain⟨_,_,p,_⟩:=I.list h;simp only[u7];exact SeqAt.EqAt.int_list _ _ p.isList c
 |_,_,_,_,v,u,A,.str,f,g,b,k,d=>by
  have c:A.units<dA:=by lia
  obtain⟨Q,rfl⟩:=g;cases f with
  |dct=>exact absurd d (by rw[B5];lia)
  |non=>cases b;simp only[u7];exact SeqAt.EqAt.str_none _ _
  |bl=>cases b;simp only[u7];exact SeqAt.EqAt.str_bool _ _ _
  |int=>obtain⟨t,rfl⟩:=b;simp only[u7];exact aGi _ _ _ _
  |str=>obtain⟨t,rfl⟩:=b;simp only[u7];exact SeqAt.EqAt.str_str _ _ _ _
  |tup h r=>cases b;obtain⟨_,_,p,_⟩:=I.tuple h;simp only[u7];exact SeqAt.EqAt.str_tuple _ _ p c
  |lst h _ r=>cases b;obtain⟨_,_,p,_⟩:=I.list h;simp only[u7];exact SeqAt.EqAt.str_list _ _ p.isList c
 |_,_,_,_,v,u,A,.tup (a:=a) (vs:=vs) (ds:=ds) h r,f,g,b,k,d=>by
  have c:A.units<dA:=by lia
  cases g;obtain⟨C,o,p,_⟩:=I.tuple h;cases f with
  |dct=>exact absurd d (by rw[B5];lia)
  |non=>cases b;simp only[u7];exact SeqAt.EqAt.tuple_none p c
  |bl=>cases b;simp only[u7];exact SeqAt.EqAt.tuple_bool _ p c
  |int=>obtain⟨t,rfl⟩:=b;simp only[u7];exact aFS _ _ p c
  |str=>obtain⟨t,rfl⟩:=b;simp only[u7];exact SeqAt.EqAt.tuple_str _ _ p c
  |@tup E T U l m=>
   cases b;obtain⟨q,w,n,_⟩:=I.tuple l;by_cases e:a=E
   .subst e;have J:=I.ab6 h l;subst J;have L:=Reps.inj I r m;subst L;rw[M7];exact aDV _
   .simp only[u7];refine aEV e (lY p n (by rw[<-o.length,r.length]) (by rw[<-w.length,m.length]) c<|jH I r m o w ?_ ?_).1
    .rw[B5]at k;rw[p8];lia
    .rw[B5]at d;rw[p8];lia
  |lst l _ m=>cases b;obtain⟨_,_,n,_⟩:=I.list l;simp only[u7];exact SeqAt.EqAt.tuple_list p n.isList c
 |_,_,_,_,v,u,A,.lst (a:=a) (vs:=vs) (ds:=ds) h nO r,f,g,b,k,d=>by
  have c:A.units<dA:=by lia
  cases g;obtain⟨C,o,p,_⟩:=I.list h;cases f with
  |dct=>exact absurd d (by rw[B5];lia)
  |non=>cases b;simp only[u7];exact SeqAt.EqAt.list_none p.isList c
  |bl=>cases b;simp only[u7];exact SeqAt.EqAt.list_bool _ p.isList c
  |int=>obtain⟨t,rfl⟩:=b;simp only[u7];exact SeqAt.EqAt.list_int _ _ p.isList c
  |str=>obtain⟨t,rfl⟩:=b;simp only[u7];exact SeqAt.EqAt.list_str _ _ p.isList c
  |tup l m=>cases b;obtain⟨_,_,n,_⟩:=I.tuple l;simp only[u7];exact SeqAt.EqAt.list_tuple p.isList n c
  |@lst E T U l Y m=>
   cases b;obtain⟨q,w,n,_⟩:=I.list l;by_cases e:a=E
   .subst e;have J:=I.ab2 h l;subst J;have L:=Reps.inj I r m;subst L;rw[M7];exact aDV _
   .simp only[u7];refine aEV e (xU p.isList n.isList (by rw[<-o.length,r.length]) (by rw[<-w.length,m.length]) c<|jH I r m o w ?_ ?_).1
    .rw[B5]at k;rw[p8];lia
    .rw[B5]at d;rw[p8];lia
 |_,_,_,_,v,u,A,.dct ..,f,g,b,k,d=>absurd k (by rw[B5];lia)
theorem jH (I:Inv X p σ H s):∀{vs ws:List V} {Y k:List D} {c e:List ai} {A:cp},Reps X.K H O vs Y->Reps X.K H z ws k->l6 vs c->l6 ws e->A.in1.units+z6 Y<dA->A.in1.units+z6 k<dA->oI A s c e Y k
 |_,_,_,_,c,e,A,.nil,B,f,g,l,m=>λj u w a b=>by cases f;simp at a
 |_,_,_,_,c,e,A,.cons h t,.nil,f,g,l,m=>λj u w a b=>by cases g;simp at b
 |_,_,_,_,c,e,A,.cons (d:=d) (ds:=ds) h t,.cons (d:=C) (ds:=E) r v,f,g,l,m=>λj u w a b=>by
  cases f with
  |cons x y=>
   cases g with
   |cons n o=>
    rw[z6]at l m;cases j with
    |zero=>simp only[aDe,aGp]at a b;subst a b;exact OA I h r x n (by lia) (by lia)
    |succ j=>simp only[aDg]at a b;have q:=jH I (A:=A) t v y o (by lia) (by lia) j u w a b;exact q
end
def zw (I:Inv X Q σ H s)(o:A9 X.K H O x C)(c:A9 X.K H U y f)(q:RelV x v)(d:RelV y u)(E:A.units+B5 C<dA)(l:A.units+B5 f<dA):
  SeqAt.RcAt A s v u (u7 C f)/\SeqAt.RcNeAt A s v u (!u7 C f):=by
 have b:A.units<dA:=by lia
 cases C with
 |dct=>exact absurd E (by rw[B5];lia)
 |non=>
  cases o.ac1;cases q;cases f with
  |dct=>exact absurd l (by rw[B5];lia)
  |non=>cases c.ac1;cases d;simp only[u7];exact⟨SeqAt.RcAt.none_none,SeqAt.RcNeAt.none_none⟩
  |bl=>cases c.blI;cases d;simp only[u7];exact⟨SeqAt.RcAt.none_bool _,SeqAt.RcNeAt.none_bool _⟩
  |int=>cases c.aa6;obtain⟨t,rfl⟩:=d;simp only[u7];exact⟨SeqAt.RcAt.none_int _ _,SeqAt.RcNeAt.none_int _ _⟩
  |str=>cases c.ac4;obtain⟨t,rfl⟩:=d;simp only[u7];exact⟨SeqAt.RcAt.none_str _ _,SeqAt.RcNeAt.none_str _ _⟩
  |tup e=>obtain⟨a,g,rfl,h,r⟩:=c.tupI;cases d;obtain⟨_,_,p,_⟩:=I.tuple h;simp only[u7];exact⟨SeqAt.RcAt.none_tuple p b,SeqAt.RcNeAt.none_tuple p b⟩
  |lst e=>obtain⟨a,g,rfl,h,r⟩:=c.aa3;cases d;obtain⟨_,_,p,_⟩:=I.list h;simp only[u7];exact⟨SeqAt.RcAt.none_list p.isList b,SeqAt.RcNeAt.none_list p.isList b⟩
 |bl=>
  cases o.blI;cases q;cases f with
  |dct=>exact absurd l (by rw[B5];lia)
  |non=>cases c.ac1;cases d;simp only[u7];exact⟨SeqAt.RcAt.bool_none _,SeqAt.RcNeAt.bool_none _⟩
  |bl=>cases c.blI;cases d;simp only[u7];exact⟨SeqAt.RcAt.bool_bool _ _,SeqAt.RcNeAt.bool_bool _ _⟩
  |int=>cases c.aa6;obtain⟨t,rfl⟩:=d;simp only[u7];exact⟨SeqAt.RcAt.bool_int _ _ _,SeqAt.RcNeAt.bool_int _ _ _⟩
  |str=>cases c.ac4;obtain⟨t,rfl⟩:=d;simp only[u7];exact⟨SeqAt.RcAt.bool_str _ _ _,SeqAt.RcNeAt.bool_str _ _ _⟩
  |tup e=>obtain⟨a,g,rfl,h,r⟩:=c.tupI;cases d;obtain⟨_,_,p,_⟩:=I.tuple h;simp only[u7];exact⟨SeqAt.RcAt.bool_tuple _ p b,SeqAt.RcNeAt.bool_tuple _ p b⟩
  |lst e=>obtain⟨a,g,rfl,h,r⟩:=c.aa3;cases d;obtain⟨_,_,p,_⟩:=I.list h;simp only[u7];exact⟨SeqAt.RcAt.bool_list _ p.isList b,SeqAt.RcNeAt.bool_list _ p.isList b⟩
 |int=>
  cases o.aa6;obtain⟨T,rfl⟩:=q;cases f with
  |dct=>exact absurd l (by rw[B5];lia)
  |non=>cases c.ac1;cases d;simp only[u7];exact⟨SeqAt.RcAt.int_none _ _,SeqAt.RcNeAt.int_none _ _⟩
  |bl=>cases c.blI;cases d;simp only[u7];exact⟨SeqAt.RcAt.int_bool _ _ _,SeqAt.RcNeAt.int_bool _ _ _⟩
  |int=>cases c.aa6;obtain⟨t,rfl⟩:=d;simp only[u7];exact⟨SeqAt.RcAt.int_int _ _ _ _,SeqAt.RcNeAt.int_int _ _ _ _⟩
  |str=>cases c.ac4;obtain⟨t,rfl⟩:=d;simp only[u7];exact⟨SeqAt.RcAt.int_str _ _ _ _,SeqAt.RcNeAt.int_str _ _ _ _⟩
  |tup e=>obtain⟨a,g,rfl,h,r⟩:=c.tupI;cases d;obtain⟨_,_,p,_⟩:=I.tuple h;simp only[u7];exact⟨SeqAt.RcAt.int_tuple _ _ p b,SeqAt.RcNeAt.int_tuple _ _ p b⟩
  |lst e=>obtain⟨a,g,rfl,h,r⟩:=c.aa3;cases d;obtain⟨_,_,p,_⟩:=I.list h;simp only[u7];exact⟨SeqAt.RcAt.int_list _ _ p.isList b,SeqAt.RcNeAt.int_list _ _ p.isList b⟩
 |str=>
  cases o.ac4;obtain⟨T,rfl⟩:=q;cases f with
  |dct=>exact absurd l (by rw[B5];lia)
  |non=>cases c.ac1;cases d;simp only[u7];exact⟨SeqAt.RcAt.str_none _ _,SeqAt.RcNeAt.str_none _ _⟩
  |bl=>cases c.blI;cases d;simp only[u7];exact⟨SeqAt.RcAt.str_bool _ _ _,SeqAt.RcNeAt.str_bool _ _ _⟩
  |int=>cases c.aa6;obtain⟨t,rfl⟩:=d;simp only[u7];exact⟨SeqAt.RcAt.str_int _ _ _ _,SeqAt.RcNeAt.str_int _ _ _ _⟩
  |str=>cases c.ac4;obtain⟨t,rfl⟩:=d;simp only[u7];exact⟨SeqAt.RcAt.str_str _ _ _ _,SeqAt.RcNeAt.str_str _ _ _ _⟩
  |tup e=>obtain⟨a,g,rfl,h,r⟩:=c.tupI;cases d;obtain⟨_,_,p,_⟩:=I.tuple h;simp only[u7];exact⟨SeqAt.RcAt.str_tuple _ _ p b,SeqAt.RcNeAt.str_tuple _ _ p b⟩
  |lst e=>obtain⟨a,g,rfl,h,r⟩:=c.aa3;cases d;obtain⟨_,_,p,_⟩:=I.list h;simp only[u7];exact⟨SeqAt.RcAt.str_list _ _ p.isList b,SeqAt.RcNeAt.str_list _ _ p.isList b⟩
 |tup Y=>
  obtain⟨a,g,rfl,h,r⟩:=o.tupI;cases q;obtain⟨J,w,p,_⟩:=I.tuple h;cases f with
  |dct=>exact absurd l (by rw[B5];lia)
  |non=>cases c.ac1;cases d;simp only[u7];exact⟨SeqAt.RcAt.tuple_none p b,SeqAt.RcNeAt.tuple_none p b⟩
  |bl=>cases c.blI;cases d;simp only[u7];exact⟨SeqAt.RcAt.tuple_bool _ p b,SeqAt.RcNeAt.tuple_bool _ p b⟩
  |int=>cases c.aa6;obtain⟨t,rfl⟩:=d;simp only[u7];exact⟨SeqAt.RcAt.tuple_int _ _ p b,SeqAt.RcNeAt.tuple_int _ _ p b⟩
  |str=>cases c.ac4;obtain⟨t,rfl⟩:=d;simp only[u7];exact⟨SeqAt.RcAt.tuple_str _ _ p b,SeqAt.RcNeAt.tuple_str _ _ p b⟩
  |tup e=>
   obtain⟨L,N,rfl,m,n⟩:=c.tupI;cases d;obtain⟨z,B,k,_⟩:=I.tuple m;simp only[u7];refine lY p k (by rw[<-w.length,r.length]) (by rw[<-B.length,n.length]) b (jH I r n w B ?_ ?_)
   .rw[B5]at E;rw[p8];lia
   .rw[B5]at l;rw[p8];lia
  |lst e=>obtain⟨L,N,rfl,m,n⟩:=c.aa3;cases d;obtain⟨_,_,k,_⟩:=I.list m;simp only[u7];exact⟨SeqAt.RcAt.tuple_list p k.isList b,SeqAt.RcNeAt.tuple_list p k.isList b⟩
 |lst Y=>
  obtain⟨a,g,rfl,h,r⟩:=o.aa3;cases q;obtain⟨J,w,p,_⟩:=I.list h;cases f with
  |dct=>exact absurd l (by rw[B5];lia)
  |non=>cases c.ac1;cases d;simp only[u7];exact⟨SeqAt.RcAt.list_none p.isList b,SeqAt.RcNeAt.list_none p.isList b⟩
  |bl=>cases c.blI;cases d;simp only[u7];exact⟨SeqAt.RcAt.list_bool _ p.isList b,SeqAt.RcNeAt.list_bool _ p.isList b⟩
  |int=>cases c.aa6;obtain⟨t,rfl⟩:=d;simp only[u7];exact⟨SeqAt.RcAt.list_int _ _ p.isList b,SeqAt.RcNeAt.list_int _ _ p.isList b⟩
  |str=>cases c.ac4;obtain⟨t,rfl⟩:=d;simp only[u7];exact⟨SeqAt.RcAt.list_str _ _ p.isList b,SeqAt.RcNeAt.list_str _ _ p.isList b⟩
  |tup e=>obtain⟨L,N,rfl,m,n⟩:=c.tupI;cases d;obtain⟨_,_,k,_⟩:=I.tuple m;simp only[u7];exact⟨SeqAt.RcAt.list_tuple p.isList k b,SeqAt.RcNeAt.list_tuple p.isList k b⟩
  |lst e=>
   obtain⟨L,N,rfl,m,n⟩:=c.aa3;cases d;obtain⟨z,B,k,_⟩:=I.list m;simp only[u7];refine xU p.isList k.isList (by rw[<-w.length,r.length]) (by rw[<-B.length,n.length]) b (jH I r n w B ?_ ?_)
   .rw[B5]at E;rw[p8];lia
   .rw[B5]at l;rw[p8];lia
end
def DI (x y:D):R D:=if B5 x<=40/\B5 y<=40 then .ok (.bl (u7 x y))else .bad
def xT (x y:D):R D:=if B5 x<=40/\B5 y<=40 then .ok (.bl (!u7 x y))else .bad
section
def L4 (t:X.A.units+64<dA):kP X (ee .Eq) DI:=by
 intro H O x y f g Q w h k q;unfold DI at q;split at q
 .rename_i z;refine⟨λa b c d=>a=x/\b=y/\c=H/\d (.bl (u7 f g)) H,?_,rfl,rfl,rfl,q _ H (Same.refl _) .bl⟩;intro e s σ c a b v u d I l m ⟨n,o,p,r⟩;subst n o p;exact(zw I (A:=X.A) h k l m (by lia) (by lia)).1 _ _ _ _ ⟨.bl _,_,I,rfl,r⟩
 .exact q.elim
def T6 (t:X.A.units+64<dA):kP X (ee .NotEq) xT:=by
 intro H O x y f g Q w h k q;unfold xT at q;split at q
 .rename_i z;refine⟨λa b c d=>a=x/\b=y/\c=H/\d (.bl (!u7 f g)) H,?_,rfl,rfl,rfl,q _ H (Same.refl _) .bl⟩;intro e s σ c a b v u d I l m ⟨n,o,p,r⟩;subst n o p;exact(zw I (A:=X.A) h k l m (by lia) (by lia)).2 _ _ _ _ ⟨.bl _,_,I,rfl,r⟩
 .exact q.elim
end
def jF:D->D->R D
 |.int a,.int b=>.ok (.int (a+b))
 |.lst a,.lst b=>if a.length+b.length<=sizeLine then .ok (.lst (a++b))else .bad
 |.tup [],.tup b=>.ok (.tup b)
 |.tup (x::a),.tup []=>if(x::a).length<=sizeLine then .ok (.tup (x::a))else .bad
 |.tup (x::a),.tup (y::b)=>if(x::a).length+(y::b).length<=sizeLine then .ok (.tup ((x::a)++(y::b)))else .bad
 |_,_=>.bad
def RJ:D->D->R D
 |.int a,.int b=>.ok (.int (a-b))
 |_,_=>.bad
def m6 (a b:Int):Prop:=aAV a<=60000000/\aAV b<=60000000
instance(a b:Int):Decidable (m6 a b):=inferInstanceAs (Decidable<|_/\_)
def U6:D->D->R D
 |.int a,.int b=>if m6 a b then .ok (.int (a*b))else .bad
 |_,_=>.bad
def uC (b:Int):Prop:=b≠0/\aAV b<=9000
instance(b:Int):Decidable (uC b):=inferInstanceAs (Decidable<|_/\_)
def N5:D->D->R D
 |.int a,.int b=>if uC b then .ok (.int (a.fdiv b))else .bad
 |_,_=>.bad
def V4:D->D->R D
 |.int a,.int b=>if b≠0 then .ok (.int (a.fmod b))else .bad
 |_,_=>.bad
def KM:D->D->R D
 |.int a,.int b=>if 0<=b/\b<=1000000/\a.natAbs<2^64 then .ok (.int (a^b.toNat))else .bad
 |_,_=>.bad
def ltR:D->D->R D
 |.int a,.int b=>.ok (.bl (decide (a<b)))
 |_,_=>.bad
def leR:D->D->R D
 |.int a,.int b=>.ok (.bl (decide (a<=b)))
 |_,_=>.bad
def ZO:D->D->R D
 |.int a,.int b=>.ok (.bl (decide (b<a)))
 |_,_=>.bad
def geR:D->D->R D
 |.int a,.int b=>.ok (.bl (decide (b<=a)))
 |_,_=>.bad
def LG (h0:b≠0)(h:aAV b<=n):b.natAbs.log2<n:=by
 unfold aAV at h;split at h
 .rename_i z;exact absurd (by simpa using z) h0
 .omega
def QJ (h:m6 a b):IntMulOk a b:=mulOk_of_bits (m:=60000000) (n:=60000000) h.1 h.2 (by decide)
section
def kP.aa7 {f:ai->ai->Sem ai}{g:D->D->R D}{C:Int->Int->Prop}{w:Int->Int->V}{dw:Int->Int->D}(c:lP X f (rI C w))(h:∀a b d,g a b=.ok d->∃i j,a=.int i/\b=.int j/\C i j/\d=dw i j)
  (k:∀a b e,g a b≠.ex e) (l:∀K H O i j,Rep K H O (w i j) (dw i j)):kP X f g:=by
 intro H O x y a b Q p m n q;cases e:g a b with
 |ok d=>rw[e]at q;obtain⟨i,j,rfl,rfl,o,rfl⟩:=h a b d e;cases m.aa6;cases n.aa6;exact⟨_,c,i,j,rfl,rfl,o,q _ H (Same.refl _) (l _ _ _ _ _)⟩
 |ex x=>exact absurd e (k _ _ _)
 |bad=>rw[e]at q;exact q.elim
def lP.c0 (h:lP X f (VC w)):lP X f (rI (λ_ _=>True) w):=by rintro a s σ H x y v u Q I b c ⟨i,j,d,e,_,q⟩;exact h a s σ H x y v u Q I b c ⟨i,j,d,e,q⟩
def v7:kP X (eR .Sub) RJ:=kP.aa7 (dw:=λi j=>.int (i-j)) (lP.c0 fw) (λa b d h=>by cases a<;>cases b<;>simp only[RJ,R.ok.injEq,reduceCtorEq]at h;exact⟨_,_,rfl,rfl,trivial,h.symm⟩) (λa b e h=>by cases a<;>cases b<;>simp only[RJ,reduceCtorEq]at h) λ_ _ _ _ _=>.int
def yV:kP X (ee .Lt) ltR:=kP.aa7 (dw:=λi j=>.bl (decide (i<j))) (lP.c0 lz) (λa b d h=>by cases a<;>cases b<;>simp only[ltR,R.ok.injEq,reduceCtorEq]at h;exact⟨_,_,rfl,rfl,trivial,h.symm⟩) (λa b e h=>by cases a<;>cases b<;>simp only[ltR,reduceCtorEq]at h) λ_ _ _ _ _=>.bl
def yz:kP X (ee .LtE) leR:=kP.aa7 (dw:=λi j=>.bl (decide (i<=j))) (lP.c0 xy) (λa b d h=>by cases a<;>cases b<;>simp only[leR,R.ok.injEq,reduceCtorEq]at h;exact⟨_,_,rfl,rfl,trivial,h.symm⟩) (λa b e h=>by cases a<;>cases b<;>simp only[leR,reduceCtorEq]at h) λ_ _ _ _ _=>.bl
def rC:kP X (ee .Gt) ZO:=kP.aa7 (dw:=λi j=>.bl (decide (j<i))) (lP.c0 a0f) (λa b d h=>by cases a<;>cases b<;>simp only[ZO,R.ok.injEq,reduceCtorEq]at h;exact⟨_,_,rfl,rfl,trivial,h.symm⟩) (λa b e h=>by cases a<;>cases b<;>simp only[ZO,reduceCtorEq]at h) λ_ _ _ _ _=>.bl
def yj:kP X (ee .GtE) geR:=kP.aa7 (dw:=λi j=>.bl (decide (j<=i))) (lP.c0 uw) (λa b d h=>by cases a<;>cases b<;>simp only[geR,R.ok.injEq,reduceCtorEq]at h;exact⟨_,_,rfl,rfl,trivial,h.symm⟩) (λa b e h=>by cases a<;>cases b<;>simp only[geR,reduceCtorEq]at h) λ_ _ _ _ _=>.bl
def RY:lP X (eR .FloorDiv) (rI (λ_ j=>uC j) λi j=>.int (i.fdiv j)):=opI λ_ _ _ _ _ _ _ a q=>floordiv_int a.1 q (.inl (PyProof.noPylong_of_log2<|LG a.1 a.2))
def x6:kP X (eR .FloorDiv) N5:=kP.aa7 (dw:=λi j=>.int (i.fdiv j)) RY (λa b d h=>by
 cases a<;>cases b<;>simp only[N5,reduceCtorEq]at h;split at h
 .rename_i c;cases h;exact⟨_,_,rfl,rfl,c,rfl⟩
 .cases h) (λa b e h=>by
  cases a<;>cases b<;>simp only[N5,reduceCtorEq]at h;split at h<;>cases h) λ_ _ _ _ _=>.int
def z7:kP X (eR .Mod) V4:=kP.aa7 (dw:=λi j=>.int (i.fmod j)) VV (λa b d h=>by
 cases a<;>cases b<;>simp only[V4,reduceCtorEq]at h;split at h
 .rename_i c;cases h;exact⟨_,_,rfl,rfl,c,rfl⟩
 .cases h) (λa b e h=>by
  cases a<;>cases b<;>simp only[V4,reduceCtorEq]at h;split at h<;>cases h) λ_ _ _ _ _=>.int
def iH:kP X (eR .Pow) KM:=kP.aa7 (dw:=λi j=>.int (i^j.toNat)) ZE (λa b d h=>by
 cases a<;>cases b<;>simp only[KM,reduceCtorEq]at h;split at h
 .rename_i c;cases h;exact⟨_,_,rfl,rfl,c,rfl⟩
 .cases h) (λa b e h=>by
  cases a<;>cases b<;>simp only[KM,reduceCtorEq]at h;split at h<;>cases h) λ_ _ _ _ _=>.int
def UY:lP X (eR .Mult) (rI m6 λi j=>.int (i*j)):=opI λ_ _ _ _ _ _ _ a q=>mul_int q (QJ a)
def n6:kP X (eR .Mult) U6:=kP.aa7 (dw:=λi j=>.int (i*j)) UY (λa b d h=>by
 cases a<;>cases b<;>simp only[U6,reduceCtorEq]at h;split at h
 .rename_i c;cases h;exact⟨_,_,rfl,rfl,c,rfl⟩
 .cases h) (λa b e h=>by
  cases a<;>cases b<;>simp only[U6,reduceCtorEq]at h;split at h<;>cases h) λ_ _ _ _ _=>.int
def UM:lP X (eR .Add) (λx y H Q=>∃l b Y d,x=.ref l/\y=.ref b/\K0 X.K H l Y/\K0 X.K H b d/\Y.length+d.length<=sizeLine/\∀p,H p=none->Q (.ref p) (upd H p (.lst (Y++d)))):=by
 intro g s σ H x y v u Q I C E h;obtain⟨l,b,Y,d,rfl,rfl,J,L,N,q⟩:=h;cases C;cases E;obtain⟨a,r,p,_⟩:=I.list J;obtain⟨e,k,O,_⟩:=I.list L;obtain⟨⟨T,U,m,sl⟩,o,t,n,w⟩:=p.isList;obtain⟨⟨z,vo,data2,um⟩,A,B,n2,c⟩:=O.isList;simp only at t w B c;subst t w B c;have f:a.toArray.size+e.toArray.size<=sizeLine:=by rw[aAm,aAm,<-r.length,<-k.length];exact N
 have ea:a.toArray++e.toArray=(a++e).toArray:=by simp
 refine aFI ⟨_,o,rfl⟩ ⟨_,A,rfl⟩ noFill_list_add seq_list_add PySem.F.slot_list_add PySem.F.entry_list_add (PySem.F.args_list_add_2 _ _) (list_addW l b a.toArray e.toArray n n2 U vo sl um f) ⟨o,A,?_⟩;rw[ea];exact⟨.ref _,_,I.ag2 (t':=s.toks) (r.append k) (by rw[aAE];omega),rfl,q _ I.fresh⟩
def LS:lP X (eR .Add) (λx y H Q=>∃a b d,x=.ref a/\y=.ref b/\X1 X.K H a []/\X1 X.K H b d/\Q (.ref b) H):=by intro e s σ H x y v u Q I r w h;obtain⟨t,b,d,rfl,rfl,z,A,q⟩:=h;cases r;cases w;obtain⟨B,C,E,_⟩:=I.tuple z;obtain⟨ws,r2,J,_⟩:=I.tuple A;cases C;obtain⟨⟨L,N,f,O⟩,g,k,n,l⟩:=E;obtain⟨⟨m,T,data2,U⟩,o,p,Y,c⟩:=J;simp only at k l p c;subst k l p c;exact aFI ⟨_,g,rfl⟩ ⟨_,o,rfl⟩ aFt seq_tuple_add PySem.F.slot_tuple_add PySem.F.entry_tuple_add (PySem.F.args_tuple_add_2 _ _) (tuple_addW0 t b _ _ n Y N T O U (by simp)) ⟨g,o,.ref b,H,I,rfl,q⟩
def p7:kP X (eR .Add) jF:=by
 intro H O x y u s Q v n o q;cases u with
 |int i=>
  cases s with
  |int j=>cases n.aa6;cases o.aa6;exact⟨_,YC,i,j,rfl,rfl,q _ H (Same.refl _) .int⟩
  |_=>exact aAi q
 |lst a=>
  cases s with
  |lst b=>
   simp only[jF]at q;split at q
   .rename_i r;obtain⟨l,e,rfl,f,c⟩:=n.aa3;obtain⟨h,k,rfl,g,d⟩:=o.aa3;exact⟨_,UM,l,h,e,k,rfl,rfl,f,g,by rw[c.length,d.length];exact r,λp m=>q _ _ (j6 m _) (.lst (K0.of j3) (v p m) ((c.append d).same (j6 m _)))⟩
   .exact q.elim
  |_=>exact aAi q
 |tup a=>
  cases s with
  |tup b=>
   cases a with
   |nil=>obtain⟨l,e,rfl,f,c⟩:=n.tupI;obtain⟨h,k,rfl,g,d⟩:=o.tupI;cases c;exact⟨_,LS,l,h,k,rfl,rfl,f,g,q _ H (Same.refl _) (.tup g d)⟩
   |cons x a=>
    cases b with
    |nil=>
     obtain⟨l,e,rfl,f,c⟩:=n.tupI;obtain⟨h,k,rfl,g,d⟩:=o.tupI;cases d;have t:e≠[]:=λz=>by subst z;have:=c.length;simp at this
     simp only[jF]at q;split at q
     .rename_i r;exact⟨_,FG,l,h,e,[],rfl,rfl,f,g,t,by rw[c.length];exact r,λ_=>q _ H (Same.refl _) (.tup f c),λz=>absurd rfl z⟩
     .exact q.elim
    |cons y b=>
     simp only[jF]at q;split at q
     .rename_i r;obtain⟨l,e,rfl,f,c⟩:=n.tupI;obtain⟨h,k,rfl,g,d⟩:=o.tupI;have t:e≠[]:=λz=>by subst z;have:=c.length;simp at this
      have w:k≠[]:=λz=>by subst z;have:=d.length;simp at this
      exact⟨_,FG,l,h,e,k,rfl,rfl,f,g,t,by rw[c.length,d.length];exact r,λz=>absurd z w,λ_ p m=>q _ _ (j6 m _) (.tup (X1.of j3) ((c.append d).same (j6 m _)))⟩
     .exact q.elim
  |_=>cases a<;>exact aAi q
 |_=>exact aAi q
def T8 (x y:D):R D:=match x,y with
 |.lst Y,.int i=>match rG Y i with|some d=>.ok d|none=>.bad
 |.tup Y,.int i=>match rG Y i with|some d=>.ok d|none=>.bad
 |_,_=>.bad
def yW {K:kc}{H:Hp}{O:bb->Prop}{vs:List V}{ds:List D}{i:Int}{d:D}(r:Reps K H O vs ds)(h:rG ds i=some d):∃v,rG vs i=some v/\Rep K H O v d:=by
 unfold rG at h⊢;rw[r.length];cases e:IN ds.length i with
 |none=>rw[e]at h;cases h
 |some j=>rw[e]at h;exact r.get h
def f6 (N:PB X a f)(T:PD X b g)(t:TM b:=by exactλ_ _=>rfl):PD X (.Subscript a b U) (λρ=>(f ρ).bind λx=>(g ρ).bind λy=>T8 x y):=by
 refine sG λc s σ H Q I H9 O0 O ρ E q=>?_;refine Subscript_ (MR N T.pb I (oG E q) λv u z x y k A B C h=>?_);obtain⟨J,dy,fr,L,r2,q⟩:=h;cases dy with
 |int i=>
  cases r2.aa6;cases J with
  |lst Y=>
   simp only[T8]at q;cases e:rG Y i with
   |none=>rw[e]at q;exact q.elim
   |some d=>rw[e]at q;obtain⟨p,l,rfl,m,n⟩:=L.aa3;obtain⟨w,o,r⟩:=yW n e;exact TZ a b c z σ k _ _ v u Q A B C ⟨p,l,i,w,rfl,rfl,m,o,q w k (Same.refl _) r⟩ (t _ _)
  |tup Y=>
   simp only[T8]at q;cases e:rG Y i with
   |none=>rw[e]at q;exact q.elim
   |some d=>rw[e]at q;obtain⟨p,l,rfl,m,n⟩:=L.tupI;obtain⟨w,o,r⟩:=yW n e;exact YD a b c z σ k _ _ v u Q A B C ⟨p,l,i,w,rfl,rfl,m,o,q w k (Same.refl _) r⟩ (t _ _)
  |_=>exact aAi q
 |_=>cases J<;>exact aAi q
def cutD (Y:List D)(lo a:Option Int):List D:=(Y.drop<|HT.sIx Y.length 0 lo).take (HT.sIx Y.length Y.length a-HT.sIx Y.length 0 lo)
def tO {K:kc}{H:Hp}{O:bb->Prop}{vs:List V}{ds:List D}{lo a:Option Int}(r:Reps K H O vs ds):Reps K H O (AC vs lo a) (cutD ds lo a):=by unfold AC cutD;rw[r.length];exact(r.drop _).take _
def yk (X:Cx)(e:Option cy)(f:Ev->R (Option Int)):Prop:=PO X e λσ H Q=>∃b c O ρ,EnvOk X.K b c H O σ ρ/\match f ρ with
 |.ok o=>∀a,Same H a->Q o a
 |.ex e=>∀a,Same H a->XW X e a
 |.bad=>False
def toI:D->R (Option Int)
 |.int i=>.ok (some i)
 |_=>.bad
def W3:yk X none (λ_=>.ok none):=by rintro a s σ H Q I ⟨b,c,O,ρ,E,q⟩;exact vZ a s σ H Q I (q H<|Same.refl _)
def J4 (h:PD X e f):yk X (some e) (λρ=>(f ρ).bind toI):=by rintro a s σ H Q I ⟨b,c,O,ρ,E,q⟩;exact UP h a s σ H Q I ⟨b,c,O,ρ,E,by
 dsimp only at q;cases e:f ρ with
 |ok d=>
  rw[e]at q;cases d with
  |int i=>exactλv g k l=>by cases l;exact⟨i,rfl,q g k⟩
  |_=>exact aAi q
 |ex x=>rw[e]at q;exact q
 |bad=>rw[e]at q;exact q⟩
def LM (x:D)(lo a:Option Int):R D:=match x with
 |.lst Y=>.ok (.lst (cutD Y lo a))
 |.tup Y=>if HT.sIx Y.length 0 lo=0/\HT.sIx Y.length Y.length a=Y.length then .bad else .ok (.tup (cutD Y lo a))
 |_=>.bad
def mT {lo C:Option cy}{J:Pos}{n o:Ev->R (Option Int)}(L:PB X a f)(N:yk X lo n)(T:yk X C o):
  PD X (.Subscript a (.Slice lo C none J) U) (λρ=>(f ρ).bind λx=>(n ρ).bind λl=>(o ρ).bind λh=>LM x l h):=by
 refine sG λg s σ H Q I t u O ρ E q=>?_;have v:∀x d l h e,A9 X.K e O x d->(∀p,e p=none->¬O p)->RC X e O (LM d l h) Q->rj X.K x l h e Q\/a0g X.K x l h e Q:=λx d l h e r fr q=>by
  cases d with
  |lst Y=>obtain⟨p,w,rfl,y,m⟩:=r.aa3;exact .inl ⟨p,w,rfl,y,λp b=>q _ _ (j6 b _) (.lst (K0.of j3) (fr p b) ((tO m).same (j6 b _)))⟩
  |tup Y=>
   obtain⟨p,w,rfl,y,m⟩:=r.tupI;simp only[LM]at q;split at q
   .exact q.elim
   .rename_i hn;exact .inr ⟨p,w,rfl,y,by rw[m.length];exact hn,λp b=>q _ _ (j6 b _) (.tup (X1.of j3) ((tO m).same (j6 b _)))⟩
  |_=>exact aAi q
 refine OV (VE.or YE) L N T g s σ H Q I ⟨t,u,O,ρ,E,?_⟩;dsimp only at q;cases z:f ρ with
 |ok d=>
  rw[z]at q;intro x H1 s1 r1;refine⟨t,u,O,ρ,E.grow s1,?_⟩;rw[R.aa0]at q;cases A:n ρ with
  |ok l=>
   rw[A]at q;intro H2 s2;refine⟨t,u,O,ρ,(E.grow s1).grow s2,?_⟩;cases B:o ρ with
   |ok h=>rw[B]at q;intro k c;have q':RC X H O (LM d l h) Q:=q;exact v x d l h k ((r1.same s2).same c) (λp b=>(((E.grow s1).grow s2).grow c).fresh b) (q'.grow<|s1.trans<|s2.trans c)
   |ex x=>rw[B]at q;exactλk c=>q k (s1.trans<|s2.trans c)
   |bad=>rw[B]at q;exact q
  |ex x=>rw[A]at q;exactλk c=>q k (s1.trans c)
  |bad=>rw[A]at q;exact q
 |ex x=>rw[z]at q;exact q
 |bad=>rw[z]at q;exact q
def HR {K:kc}{H:Hp}{O:bb->Prop}{vs:List V}{d:D}(r:Paired (A9 K H O) vs [d]):∃v,vs=[v]/\A9 K H O v d:=by
 cases r with
 |cons a b=>cases b;exact⟨_,rfl,a⟩
def pr2 {K:kc}{H:Hp}{O:bb->Prop}{vs:List V}{d d':D}(r:Paired (A9 K H O) vs [d,d']):∃v a,vs=[v,a]/\A9 K H O v d/\A9 K H O a d':=by
 cases r with
 |cons b c=>obtain⟨a,e,f⟩:=HR c;subst e;exact⟨_,_,rfl,b,f⟩
def IM:List D->R D
 |[.lst Y]=>.ok (.int Y.length)
 |[.tup Y]=>.ok (.int Y.length)
 |_=>.bad
def aD:dD X (.builtin "len") IM:=by
 intro H O e d Q f r q;match d,q with
 |[.lst Y],q=>obtain⟨v,rfl,z⟩:=HR r;obtain⟨p,a,rfl,b,c⟩:=z.aa3;exact⟨_,kH,p,a,rfl,.inl b,q _ H (Same.refl _) (by rw[c.length];exact .int)⟩
 |[.tup Y],q=>obtain⟨v,rfl,z⟩:=HR r;obtain⟨p,a,rfl,b,c⟩:=z.tupI;exact⟨_,kH,p,a,rfl,.inr b,q _ H (Same.refl _) (by rw[c.length];exact .int)⟩
def yy:List D->R D
 |[.int i]=>.ok (.int (if i<0 then-i else i))
 |_=>.bad
def OH:dD X (.builtin "abs") yy:=by
 intro H O b a Q c r q;match a,q with
 |[.int i],q=>obtain⟨v,rfl,z⟩:=HR r;cases z.aa6;exact⟨_,PU,i,rfl,q _ H (Same.refl _) .int⟩
def wI:List D->R D
 |[.lst Y]=>.ok (.tup Y)
 |[.tup Y]=>.ok (.tup Y)
 |_=>.bad
def jL:dD X (.type "tuple") wI:=by
 intro H O f e Q g r q;match e,q with
 |[.lst Y],q=>obtain⟨v,rfl,z⟩:=HR r;obtain⟨p,b,rfl,a,c⟩:=z.aa3;exact⟨_,gH,p,b,rfl,.inl ⟨a,λl d=>q _ _ (j6 d _) (.tup (X1.of j3) (c.same<|j6 d _))⟩⟩
 |[.tup Y],q=>obtain⟨v,rfl,z⟩:=HR r;obtain⟨p,b,rfl,a,c⟩:=z.tupI;exact⟨_,gH,p,b,rfl,.inr ⟨a,q _ _ (Same.refl _) (.tup a c)⟩⟩
def GP:List D->R D
 |[.lst Y]=>.ok (.lst Y)
 |[.tup Y]=>.ok (.lst Y)
 |_=>.bad
def vL:dD X (.type "list") GP:=by
 intro H O g f Q e r q;match f,q with
 |[.lst Y],q=>obtain⟨v,rfl,z⟩:=HR r;obtain⟨p,b,rfl,c,d⟩:=z.aa3;exact⟨_,jM,p,b,rfl,.inl c,λl a=>q _ _ (j6 a _) (.lst (K0.of j3) (e l a) (d.same<|j6 a _))⟩
 |[.tup Y],q=>obtain⟨v,rfl,z⟩:=HR r;obtain⟨p,b,rfl,c,d⟩:=z.tupI;exact⟨_,jM,p,b,rfl,.inr c,λl a=>q _ _ (j6 a _) (.lst (K0.of j3) (e l a) (d.same<|j6 a _))⟩
def tyD:D->String
 |.non=> "NoneType"|.bl _=> "bool"|.int _=> "int"|.str _=> "str"|.tup _=> "tuple"|.lst _=> "list"|.dct=> "dict"
def rP (T:String)(d:D):Bool:=tyD d==T||(T== "int"&&tyD d== "bool")
def uR (T:String):Prop:=∀(K:kc) (d:D),PySem.W.kitOne K (.type (tyD d)) (.type T)=some (rP T d)
def SW:uR "int":=λK d=>by cases d<;>with_unfolding_all rfl
def qV:uR "bool":=λK d=>by cases d<;>with_unfolding_all rfl
def KD:uR "tuple":=λK d=>by cases d<;>with_unfolding_all rfl
def OU:uR "list":=λK d=>by cases d<;>with_unfolding_all rfl
def WF {O:bb->Prop}(I:Inv X c σ H s)(y:uR T)(r:A9 X.K H O v d)(f:RelV v u)(q:Q (.bl (rP T d)) H):
  a5 (bc X.prog X.w) X.A (call (.builtin "isinstance") [u,.type T]) (EP X c σ Q) X.xe s:=by
 have e:=y X.K d;have b:∀m,EP X c σ Q (.bool (rP T d)) {s with toks:=m}:=λm=>⟨.bl _,H,I.tok _,rfl,q⟩;cases d with
 |non=>cases r.ac1;cases f;exact PySem.W.kia_one PySem.W.kitx_none I.kIn aGq e (λz=>nomatch z) b
 |bl=>cases r.blI;cases f;exact PySem.W.kia_one PySem.W.kitx_bool I.kIn aGq e (λz=>nomatch z) b
 |int=>cases r.aa6;obtain⟨t,rfl⟩:=f;exact PySem.W.kia_one PySem.W.kitx_int I.kIn aGq e (λz=>nomatch z) b
 |str=>cases r.ac4;obtain⟨t,rfl⟩:=f;exact PySem.W.kia_one PySem.W.kitx_str I.kIn aGq e (λz=>nomatch z) b
 |tup Y=>obtain⟨a,B,rfl,h,_⟩:=r.tupI;cases f;obtain⟨g,_,p,_⟩:=I.tuple h;obtain⟨o,k,l,_⟩:=p;exact PySem.W.kia_one PySem.W.kitx_tuple I.kIn ⟨o,k,l⟩ e (λz=>nomatch z) b
 |lst Y=>obtain⟨a,B,rfl,h,_⟩:=r.aa3;cases f;obtain⟨g,_,p,_⟩:=I.list h;obtain⟨o,n,k,l,_⟩:=p;exact PySem.W.kia_one PySem.W.kitx_list I.kIn ⟨o,k,l⟩ e (λz=>nomatch z) b
 |dct=>obtain⟨a,o,rfl,h,x⟩:=r.af9;cases f;exact PySem.W.kia_one PySem.W.kitx_dict I.kIn ⟨o,(I.hok _ _ h).1,x.1⟩ e (λz=>nomatch z) b
def mN (z:uR T)(A:PB X a f)(B:df x=some (.type T):=by decide+kernel)(C:X.mg "isinstance"=none:=by assumption)(k:X.mg x=none:=by assumption)(J:Gl X "isinstance":=by rfl)(l:Gl X x:=by rfl)(L:(x==kd)=false:=by decide)(N:x≠ "__name__":=by decide)(t:av [a,.Name x pt] X.env=(false,d3 a X.env)::av [.Name x pt] X.env:=by rfl)(U:av [Expr.Name x pt] X.env=[(false,d3 (.Name x pt) X.env)]:=by rfl)(Y:(dq b (av [Expr.Name x pt] X.env)).any (·.1)=false:=by rfl):
  PD X (.Call (.Name "isinstance" p) [a,.Name x pt] [] b) (λρ=>(f ρ).bind λd=>.ok (.bl (rP T d))):=by
 refine sG λc s σ H Q I H9 O0 O ρ E q=>?_;refine aAL (K8 (u:=.builtin "isinstance") I J C (by decide+kernel) ?_);have hb:PE X (.Name x pt) (tC<|.ty T):=VM l k B rfl N L;have h:=J0 A (J0 hb aM (by rw[U];rfl)) t b c s σ H (λy g=>∃v d,y=[v,.ty T]/\A9 X.K g O v d/\Q (.bl (rP T d)) g) I ⟨H9,O0,O,ρ,E,by refine OK.mono (OK.seq q) λv g m=>?_;obtain⟨d,_,s1,n,h1⟩:=m;exact⟨v,d,rfl,n,h1 _ g (Same.refl _) .bl⟩⟩
 refine aBo (E6 h λus s1 m=>?_) t Y;obtain⟨y,g,I1,n,v,d,e,r,h⟩:=m;subst e;obtain⟨u,w,rfl,ru,o⟩:=vals2 n;cases o;exact WF I1 z r ru h
end
section
variable{K:kc}
def Kp.lst (k:Kp H O H' c){a:bb}{Y:List V}(n:¬O a)(h:K0 K H a Y)(e:∀o,K.lookup a=some o->¬c a):¬c a/\K0 K H' a Y:=by
 rcases h with(h|⟨o,h⟩)|h
 .exact⟨(k _ _ h n).2,.inl (.inl (k _ _ h n).1)⟩
 .exact⟨(k _ _ h n).2,.inl (.inr ⟨o,(k _ _ h n).1⟩)⟩
 .obtain⟨o,b,m,d,f⟩:=h;exact⟨e o d,.inr ⟨o,b,m,d,f⟩⟩
def Kp.tup (k:Kp H O H' c)(b:∀a,O a->∃o,H a=some o/\Mt o){a:bb}{Y:List V}(h:X1 K H a Y):X1 K H' a Y:=by
 rcases h with(h|⟨o,h⟩)|h
 .exact .inl (.inl (k _ _ h λz=>by obtain⟨o,q,m⟩:=b a z;rw[h]at q;cases q;exact m).1)
 .exact .inl (.inr ⟨o,(k _ _ h λz=>by obtain⟨o,q,m⟩:=b a z;rw[h]at q;cases q;exact m).1⟩)
 .exact .inr h
end
def bL (K:kc)(O:bb->Prop):Prop:=∀a o,K.lookup a=some o->¬O a
def Kp.rep {K:kc}{H H':Hp}{O b:bb->Prop}(k:Kp H O H' b)(c:∀a,O a->∃o,H a=some o/\Mt o)(e:bL K b){v:V}{d:D}(r:Rep K H O v d):Rep K H' b v d:=
 r.mono (λ_ _ h=>k.tup c h) (λa _ n h=>k.lst n h λo q=>e a o q) λa _ n h=>⟨(k a _ h n).2,(k a _ h n).1⟩
def Kp.ab9 {K:kc}{H H':Hp}{O b:bb->Prop}(k:Kp H O H' b)(c:∀a,O a->∃o,H a=some o/\Mt o)(e:bL K b){v:List V}{d:List D}(r:Reps K H O v d):Reps K H' b v d:=
 r.mono (λ_ _ h=>k.tup c h) (λa _ n h=>k.lst n h λo q=>e a o q) λa _ n h=>⟨(k a _ h n).2,(k a _ h n).1⟩
inductive Out where
 |nx (ρ:Ev)|rt (d:D)|bk (ρ:Ev)|ct (ρ:Ev)
def RS (X:Cx)(f:Hp)(g:bb->Prop)(H:Hp)(O:bb->Prop)(r:R Out)(D:Ends):Prop:=match r with
 |.ok (.nx ρ)=>∀c a b,EnvOk X.K f g a b c ρ->bL X.K b->Kp H O a b->D.nx c a
 |.ok (.bk ρ)=>∀c a b,EnvOk X.K f g a b c ρ->bL X.K b->Kp H O a b->D.bk c a
 |.ok (.ct ρ)=>∀c a b,EnvOk X.K f g a b c ρ->bL X.K b->Kp H O a b->D.ct c a
 |.ok (.rt d)=>∀v a,Same f a->Rep X.K a g v d->D.rt v a
 |.ex e=>∀a,Same f a->XW X e a
 |.bad=>False
def tS (X:Cx)(a:Hp)(b:bb->Prop)(F:Ev->R Out):TS:=λD σ H=>∃O ρ,EnvOk X.K a b H O σ ρ/\bL X.K O/\RS X a b H O (F ρ) D
def nM (X:Cx)(st:dm)(F:Ev->R Out):Prop:=∀a b,PS X st (tS X a b F)
def cE (X:Cx)(st:List dm)(F:Ev->R Out):Prop:=∀a b,uW X st (tS X a b F)
def ZH {X:Cx}{st:dm}{t t':TS}(h:PS X st t)(i:∀D σ H,t' D σ H->t D σ H):PS X st t':=λa s σ H D I q=>h a s σ H D I (i D σ H q)
def wN {X:Cx}{st:List dm}{t t':TS}(h:uW X st t)(i:∀D σ H,t' D σ H->t D σ H):uW X st t':=λa s σ H D I q=>h a s σ H D I (i D σ H q)
def yP {X:Cx}{st:dm}{t:TS}{F:Ev->R Out}{a:Hp}{b:bb->Prop}(h:PS X st t)(i:∀D σ H O ρ,EnvOk X.K a b H O σ ρ->bL X.K O->RS X a b H O (F ρ) D->t D σ H):PS X st (tS X a b F):=ZH h λD σ H ⟨O,ρ,E,f,q⟩=>i D σ H O ρ E f q
def qy {X:Cx}{st:List dm}{t:TS}{F:Ev->R Out}{a:Hp}{b:bb->Prop}(h:uW X st t)(i:∀D σ H O ρ,EnvOk X.K a b H O σ ρ->bL X.K O->RS X a b H O (F ρ) D->t D σ H):uW X st (tS X a b F):=wN h λD σ H ⟨O,ρ,E,f,q⟩=>i D σ H O ρ E f q
def RS.grow {X:Cx}{g:Hp}{l:bb->Prop}{H m:Hp}{O n:bb->Prop}{r:R Out}{D:Ends}(h:RS X g l H O r D)(k:Kp H O m n):RS X g l m n r D:=by
 cases r with
 |ok o=>
  cases o with
  |nx ρ=>exactλa b c E f q=>h a b c E f (k.trans q)
  |bk ρ=>exactλa b c E f q=>h a b c E f (k.trans q)
  |ct ρ=>exactλa b c E f q=>h a b c E f (k.trans q)
  |rt d=>exact h
 |ex e=>exact h
 |bad=>exact h
def D9 (r:R Out)(F:Ev->R Out):R Out:=match r with
 |.ok (.nx ρ)=>F ρ
 |r=>r
section
variable{st:dm} {rest:List dm}
def RS.seq {a:Hp}{b:bb->Prop}{H:Hp}{O:bb->Prop}{r:R Out}{D:Ends}(h:RS X a b H O (D9 r G) D):RS X a b H O r {D with nx:=tS X a b G D}:=by
 cases r with
 |ok o=>
  cases o with
  |nx ρ=>exactλg l c E f k=>⟨c,ρ,E,f,(show RS X a b H O (G ρ) D from h).grow k⟩
  |bk ρ=>exact h
  |ct ρ=>exact h
  |rt d=>exact h
 |ex e=>exact h
 |bad=>exact h
def l9:cE X [] (λρ=>.ok (.nx ρ)):=λa b=>qy GD λD σ H O ρ E f q=>q σ H O E f (Kp.refl _ _)
def b9 (c:nM X st F)(d:cE X rest G):cE X (st::rest) (λρ=>D9 (F ρ) G):=λa b=>qy (yI (c a b)<|d a b) λD σ H O ρ E f q=>⟨O,ρ,E,f,RS.seq q⟩
def c9 (a:nM X st F):cE X [st] F:=λb c=>kE (a b c)
def i8 {e:cy}{f:Ev->R D}(c:PD X e f):nM X (.Return (some e) g) (λρ=>(f ρ).bind λd=>.ok (.rt d)):=λh k=>yP (xB c) λD σ H O ρ E l q=>⟨h,k,O,ρ,E,by
 cases a:f ρ with
 |ok d=>rw[a]at q;exactλv b s r=>q v b (E.same.trans s) (r.sub E.sub)
 |ex x=>rw[a]at q;exactλb s=>q b (E.same.trans s)
 |bad=>rw[a]at q;exact q⟩
def j1 (i:Nat){x:Str}{e:cy}{f:Ev->R D}{a:Pos}(h:PD X e f)(k:X.N.Nodup)(l:X.N[i]?=some x:=by rfl)(m:Loc X.env.scope x:=by first|exact aCw rfl|exact aBE rfl)
  (n:eZ e (some (.Name x a)) b.line X.env=pure false:=by rfl) (o:X.fn x=true\/X.env.scope.names.lookup x=some .local:=by first|exact .inl rfl|exact .inr rfl|assumption):
  nM X (.Assign [.Name x a] e b) (λρ=>(f ρ).bind λd=>.ok (.nx (ρ.set i (.v d)))):=λp t=>yP (OB k l m h n o) λD σ H O ρ E u q=>⟨p,t,O,ρ,E,by
 cases c:f ρ with
 |ok d=>rw[c]at q;exactλv g s r=>q _ g O ((E.grow s).set i r) u (Kp.of s)
 |ex x=>rw[c]at q;exactλg s=>q g (E.same.trans s)
 |bad=>rw[c]at q;exact q⟩
def v8 {c:cy}{a b:List dm}{d:Ev->R Bool}(l:AH X c d)(m:cE X a F)(n:cE X b G):nM X (.If c a b o) (λρ=>(d ρ).bind λt=>if t=true then F ρ else G ρ):=λe f=>yP (WW l (m e f)<|n e f) λD σ H O ρ E h q=>⟨e,f,O,ρ,E,by
 cases g:d ρ with
 |ok t=>
  rw[g]at q;intro k s;cases t with
  |true=>rw[jk rfl];exact⟨O,ρ,E.grow s,h,RS.grow q (Kp.of s)⟩
  |false=>rw[ka aAP];exact⟨O,ρ,E.grow s,h,RS.grow q (Kp.of s)⟩
 |ex x=>rw[g]at q;exactλk s=>q k (E.same.trans s)
 |bad=>rw[g]at q;exact q⟩
def ak (K:kc)(J:It)(H:Hp)(O:bb->Prop)(ds:List D):Prop:=∀b c,Kp H O b c->bL K c->(∀a,O a->∃o,H a=some o/\Mt o)->(∀a,c a->∃o,b a=some o/\Mt o)->∀i:Nat,
 (∀d,ds[i]?=some d->J.go i b/\∀x e,J.yld i b x e->Same b e/\Rep K e c x d)/\(ds[i]?=none->J.stop i b)
def tI (X:Cx)(f:Ev->R (List D)):TI:=λσ H R=>∃b c O ρ,EnvOk X.K b c H O σ ρ/\bL X.K O/\match f ρ with
 |.ok d=>∀J a,Same H a->ak X.K J a O d->R J a
 |.ex e=>∀a,Same H a->XW X e a
 |.bad=>False
def WN (X:Cx)(a iter:cy)(f:Ev->R (List D)):Prop:=PI X a iter (tI X f)
def RG (h:PI X b iter t)(i:∀σ H R,t' σ H R->t σ H R):PI X b iter t':=λa s σ H R I q=>h a s σ H R I (i σ H R q)
def M3:D->R (List D)
 |.lst Y=>.ok Y
 |_=>.bad
def FH:D->R (List D)
 |.tup Y=>.ok Y
 |_=>.bad
def o5 (h:PD X iter f):WN X C iter (λρ=>(f ρ).bind M3):=RG (GS h) λσ H R ⟨m,p,O,ρ,E,I,q⟩=>⟨m,p,O,ρ,E,by
 dsimp only at q;cases e:f ρ with
 |ok d=>
  rw[e]at q;cases d with
  |lst Y=>
   intro v t s r;cases r with
   |lst h n r=>
    rename_i a b;refine⟨a,rfl,⟨b,h⟩,q (Itl X.K a) t s ?_⟩;intro J L k g u w i;obtain⟨N,c⟩:=k.lst n h λo q=>g a o q;have y:=k.ab9 u g r;refine⟨λd e=>?_,λe=>⟨b,c,by rw[r.length];exact aBM.mp e⟩⟩;obtain⟨v,l,z⟩:=y.get e;exact⟨⟨b,v,c,l⟩,by rintro x Q ⟨A,B⟩;subst A;have:=B b c;rw[l]at this;cases this;exact⟨Same.refl _,z⟩⟩
  |_=>exact aAi q
 |ex x=>rw[e]at q;exact q
 |bad=>rw[e]at q;exact q⟩
def jA (h:PD X iter f):WN X A iter (λρ=>(f ρ).bind FH):=RG (ZR h) λσ H R ⟨m,n,O,ρ,E,B,q⟩=>⟨m,n,O,ρ,E,by
 dsimp only at q;cases e:f ρ with
 |ok d=>
  rw[e]at q;cases d with
  |tup Y=>
   intro v o s r;cases r with
   |tup h r=>
    rename_i a b;refine⟨a,rfl,⟨b,h⟩,q (Itt X.K a) o s ?_⟩;intro C I k p g t i;have c:=k.tup g h;have u:=k.ab9 g p r;refine⟨λd e=>?_,λe=>⟨b,c,by rw[r.length];exact aBM.mp e⟩⟩;obtain⟨v,l,w⟩:=u.get e;exact⟨⟨b,v,c,l⟩,by rintro x J ⟨y,z⟩;subst y;have:=z b c;rw[l]at this;cases this;exact⟨Same.refl _,w⟩⟩
  |_=>exact aAi q
 |ex x=>rw[e]at q;exact q
 |bad=>rw[e]at q;exact q⟩
def YL (lo c:Int)(n:Nat):It:=⟨λi _=>i<n,λi H x a=>a=H/\x=.int (lo+i*c),λi _=>n<=i⟩
def yZ {P:bt}{w:cq}{K:kc}{L:cy}(it:bb)(lo c:Int)(n:Nat):Turn P w K L (YL lo c n) [it] it (λi h=>IsRangeIter h it (lo+(i:Nat)*c) ((n:Int)-(i:Nat)) c)where
 mem:=by simp
 obj:=λi h st b d=>by
  have e:b=it:=by simpa using d
  subst e;exact⟨_,st,λv z=>by have N:Data.fields _=Data.cell v:=z;cases N⟩
 keep:=λi h g st k=>k it (by simp) _ st
 item:=by intro X m p q r i a s σ H E I l st u;subst m p q;obtain⟨x,y,O,A,B,C⟩:=l it (by simp);have W:=Walks.range (prog:=X.prog) (w:=X.w) (I.ok.hd r) it lo c n;refine W.item i s _ _ u st λv g J Q f kk=>?_;obtain⟨t,rfl⟩:=Q;have T:Inv X a σ H {s with heap:=g,toks:=J}:=I.turned (λb o d e=>kk b o (by simpa using d) e) x y A B C;exact⟨_,rfl,NX (s:={s with heap:=g,toks:=J}) (n:= "range_iterator") f rfl rfl (by decide) ⟨.int (lo+i*c),H,T,⟨t,rfl⟩,⟨rfl,rfl⟩,f,λb d=>(l b d).1⟩⟩
 done:=by intro X m p q r i a s σ H E I l st u;subst m p q;obtain⟨x,y,O,A,B,C⟩:=l it (by simp);exact wpAny_pyNext_range_end (I.ok.hd r) st (by have:n<=i:=u;lia) λg U=>⟨rfl,I.turned (t':=s.toks) (λb o d e=>U b o d e) x y A B C⟩
 self:=λ_ _ _ _ _ st h=>wpAny_pyIter_rangeiter st h
def xH (lo c:Int)(n:Nat):List D:=(aBw n).map λ(k:Nat)=>D.int (lo+(k:Int)*c)
def mE (K:kc)(H:Hp)(O:bb->Prop)(lo c:Int)(n:Nat):ak K (YL lo c n) H O (xH lo c n):=by
 intro h l k m o b i;unfold xH;rw[aAG];by_cases a:i<n
 .rw[List.getElem?_range a];refine⟨λd e=>?_,λe=>(by cases e)⟩;cases e;exact⟨a,by rintro x p ⟨f,g⟩;subst f g;exact⟨Same.refl _,.int⟩⟩
 .rw[aBM.mpr (by simpa using a)];exact⟨λd e=>(by cases e),λ_=>aEo a⟩
def iG (a b c:Int):Nat:=if a<b then((b-a-1)/c+1).toNat else 0
def KZ (d:0<c):aCy a b c=(iG a b c:Int):=by
 unfold aCy iG;rw[jk (by lia)];split
 .have:0<=(b-a-1)/c:=Int.ediv_nonneg (by lia) (by lia)
  lia
 .rfl
def KG (l:0<c)(m:c<2^30)(n:-(2^60)<=a)(k:a<2^60)(o:-(2^60)<=b)(p:b<2^60):aGe a b c=true:=by
 unfold aGe;have e:aCy a b c=if a<b then(b-a-1)/c+1 else 0:=by unfold aCy;rw[jk (by lia)]
 rw[e];have d:a<b->(b-a-1)/c<=b-a-1:=λh=>Int.ediv_le_self _ (by lia);have f:a<b->0<=(b-a-1)/c:=λh=>Int.ediv_nonneg (by lia) (by lia);have g:a<b->(b-a-1)/c*c<=b-a-1:=λh=>Int.ediv_mul_le _ (by lia);simp only[Builtin.Range.rangeFitsLong,aAM,Bool.or_eq_true,decide_eq_true_eq,beq_iff_eq,show c>0 by lia,if_true];split
 .rename_i h;have d:=d h;have f:=f h;have g:=g h;generalize(b-a-1)/c=q at*
  lia
 .lia
def rE (a b c:Int):Prop:=0<c/\c<2^30/\-(2^60)<=a/\a<2^60/\-(2^60)<=b/\b<2^60
instance(a b c:Int):Decidable (rE a b c):=inferInstanceAs (Decidable<|_/\_)
def dW:List D->R (List D)
 |[.int b]=>if rE 0 b 1 then .ok (xH 0 1 (iG 0 b 1))else .bad
 |[.int a,.int b]=>if rE a b 1 then .ok (xH a 1 (iG a b 1))else .bad
 |[.int a,.int b,.int c]=>if rE a b c then .ok (xH a c (iG a b c))else .bad
 |_=>.bad
def lB {R:It->Hp->Prop}{E:E8}(I:Inv X d σ H s)(h:rE a b c)(q:R (YL a c (iG a b c)) H):a5 (bc X.prog X.w) X.A (pyIter (.ref s.heap.objs.size)) (PIE X d σ B R) E {s with heap:=s.heap.push {cls:=.type "range",data:=.fields #[.int a t,.int b u,.int c v]},toks:=tk}:=by
 obtain⟨g,k,l,m,n,p⟩:=h;refine wpAny_pyIter_range (IsRange.new ..) (KG g k l m n p) ?_;have f:Inv X d σ H {s with heap:=s.heap.push {cls:=.type "range",data:=.fields #[.int a t,.int b u,.int c v]},toks:=tk}:=I.kept λb o e=>aAc _ e;refine⟨(s.heap.push {cls:=.type "range",data:=.fields #[.int a t,.int b u,.int c v]}).objs.size,[(s.heap.push {cls:=.type "range",data:=.fields #[.int a t,.int b u,.int c v]}).objs.size],_,_,H,rfl,
  f.kept (t':=tk) λb o e=>aAc _ e,yZ _ a c (iG a b c),?_,λr x=>?_,q⟩
 .have y:a+((0:Nat):Int)*c=a:=by simp
  have z:((iG a b c:Nat):Int)-((0:Nat):Int)=aCy a b c:=by rw[KZ g];simp
  show IsRangeIter _ _ (a+((0:Nat):Int)*c) (((iG a b c:Nat):Int)-((0:Nat):Int)) c;rw[y,z];exact aAo _ rfl
 .have e:r=(s.heap.push {cls:=.type "range",data:=.fields #[.int a t,.int b u,.int c v]}).objs.size:=by simpa using x
  subst e;exact f.ae8 (aAj _) (f.hok.fresh<|aAj _)
def RX {R:It->Hp->Prop}{O:bb->Prop}(I:Inv X e σ H s)(r:Paired (A9 X.K H O) vs ds)(f:l6 vs k)(h:dW ds=.ok l)(q:∀J,ak X.K J H O l->R J H):a5 (bc X.prog X.w) X.A (call (.type "range") k) (λv m=>a5 (bc X.prog X.w) X.A (pyIter v) (PIE X e σ C R) X.xe m) X.xe s:=by
 match ds,h with
 |[.int b],h=>
  obtain⟨v,rfl,z⟩:=HR r;cases z.aa6;obtain⟨u,rfl,t,rfl⟩:=vals1 f;simp only[dW]at h;split at h
  .rename_i d;cases h;exact call_range_1 (lB I d<|q _<|mE _ _ _ _ _ _)
  .cases h
 |[.int a,.int b],h=>
  obtain⟨v,n,rfl,z,g⟩:=pr2 r;cases z.aa6;cases g.aa6;obtain⟨u,o,rfl,⟨t,rfl⟩,⟨p,rfl⟩⟩:=vals2 f;simp only[dW]at h;split at h
  .rename_i d;cases h;exact call_range_2 (lB I d<|q _<|mE _ _ _ _ _ _)
  .cases h
 |[.int a,.int b,.int c],h=>
  cases r with
  |cons x r=>
   obtain⟨v,n,rfl,z,g⟩:=pr2 r;cases x.aa6;cases z.aa6;cases g.aa6;cases f with
   |cons y f=>
    obtain⟨u,o,rfl,⟨t,rfl⟩,⟨p,rfl⟩⟩:=vals2 f;obtain⟨E,rfl⟩:=y;simp only[dW]at h;split at h
    .rename_i d;cases h;have B:=d;obtain⟨L,N,_⟩:=B;exact call_range_3 (by lia) (lB (tk:=s.toks) I d<|q _<|mE _ _ _ _ _ _) (.inl (PyProof.noPylong_small (by lia)))
    .cases h
def V9 {v e:cy}{es:List cy}{p:Pos}{f:Ev->R (List D)}(w:fj X (e::es) f)(y:Gl X "range":=by rfl)(z:X.mg "range"=none:=by assumption)
  (A:av (e::es) X.env=(false,d3 e X.env)::av es X.env:=by rfl) (B:(dq k (av es X.env)).any (·.1)=false:=by rfl):
  WN X v (.Call (.Name "range" p) (e::es) [] k) (λρ=>(f ρ).bind dW):=by
 rintro l s σ H Q I ⟨C,L,O,ρ,E,fk,q⟩;dsimp only at q;refine Call_ (K8 I y z boot_range<|aBe (E6 (w k l s σ H (λn g=>∃h m,Same H g/\Paired (A9 X.K g O) n h/\dW h=.ok m/\∀J,ak X.K J g O m->Q J g) I ⟨C,L,O,ρ,E,?_⟩) λus o N=>?_) A B)
 .cases t:f ρ with
  |ok h=>
   rw[t]at q;intro n g o u;rw[R.aa0]at q;cases d:dW h with
   |ok m=>rw[d]at q;exact⟨h,m,o,u,d,λJ T=>q J g o T⟩
   |ex x=>
    rw[d]at q;match h,d with
    |[.int b],d=>simp only[dW]at d;split at d<;>cases d
    |[.int a,.int b],d=>simp only[dW]at d;split at d<;>cases d
    |[.int a,.int b,.int c],d=>simp only[dW]at d;split at d<;>cases d
   |bad=>rw[d]at q;exact q.elim
  |ex x=>rw[t]at q;exact q
  |bad=>rw[t]at q;exact q
 .obtain⟨n,g,U,u,h,m,sm,r,Y,h2⟩:=N;exact RX U r u Y h2
def tG (X:Cx)(G:D->Ev->R Ev):TG:=λv σ H Q=>∃b c O ρ d e,EnvOk X.K b c H O σ ρ/\Rep X.K H O v d/\G d ρ=.ok e/\∀f a,Same H a->EnvOk X.K b c a O f e->Q f a
def RF (X:Cx)(a:cy)(G:D->Ev->R Ev):Prop:=PG X a (tG X G)
def YV (h:PG X b t)(i:∀v σ H Q,t' v σ H Q->t v σ H Q):PG X b t':=λa s σ H v u Q I r q=>h a s σ H v u Q I r (i v σ H Q q)
def m8 (i:Nat)(a:X.N.Nodup)(b:X.N[i]?=some x:=by rfl)(c:Loc X.env.scope x:=by first|exact aCw rfl|exact aBE rfl)(f:X.fn x=true\/X.env.scope.names.lookup x=some .local:=by first|exact .inl rfl|exact .inr rfl|assumption):
  RF X (.Name x g) (λd ρ=>.ok (ρ.set i (.v d))):=YV (GQ a b c f)<|by
 rintro v σ H Q ⟨h,k,O,ρ,d,l,E,r,e,q⟩;cases e;exact q _ H (Same.refl _) (E.set i r)
def tGs (X:Cx)(G:List D->Ev->R Ev):ZW:=λg σ H Q=>∃b c O ρ d e,EnvOk X.K b c H O σ ρ/\Reps X.K H O g d/\G d ρ=.ok e/\∀f a,Same H a->EnvOk X.K b c a O f e->Q f a
def UX (X:Cx)(a:List cy)(G:List D->Ev->R Ev):Prop:=lw X a (tGs X G)
def HC {b:List cy}{t t':ZW}(h:lw X b t)(i:∀v σ H Q,t' v σ H Q->t v σ H Q):lw X b t':=λa s σ H v u Q I r q=>h a s σ H v u Q I r (i v σ H Q q)
def qF:List D->Ev->R Ev
 |[],ρ=>.ok ρ
 |_,_=>.bad
def cA (G:D->Ev->R Ev)(a:List D->Ev->R Ev):List D->Ev->R Ev
 |d::b,ρ=>(G d ρ).bind λc=>a b c
 |_,_=>.bad
def fH:UX X [] qF:=HC SN<|by
 rintro a σ H Q ⟨b,c,O,ρ,d,f,E,r,e,q⟩;cases r with
 |nil=>cases e;exact⟨rfl,q σ H (Same.refl _) E⟩
 |cons _ _=>cases e
def B0 {e:cy}{es:List cy}{G:D->Ev->R Ev}{c:List D->Ev->R Ev}(m:RF X e G)(n:UX X es c)
  (o:(et (e::es) X.env).map (·.2)=h9 e X.env::(et es X.env).map (·.2):=by rfl):UX X (e::es) (cA G c):=HC (QL m n o)<|by
 rintro f σ H Q ⟨g,h,O,ρ,k,p,E,r,e,q⟩;cases r with
 |nil=>cases e
 |@cons v d f k r s=>
  simp only[cA]at e;cases b:G d ρ with
  |ok a=>rw[b]at e;exact⟨v,f,rfl,g,h,O,ρ,d,a,E,r,b,λt B l u=>⟨g,h,O,a,k,p,u,s.same l,e,λw y z A=>q w y (l.trans z) A⟩⟩
  |ex x=>rw[b]at e;cases e
  |bad=>rw[b]at e;cases e
def jN (n:Nat)(b:List D->Ev->R Ev):D->Ev->R Ev
 |.tup a,ρ=>if a.length=n then b a ρ else .bad
 |.lst a,ρ=>if a.length=n then b a ρ else .bad
 |_,_=>.bad
end
section
theorem uD (e:t≠it):∀(n i:Nat) (s:a9) (Q:List ai->a9->Prop),s.heap.IsListIter it t i->s.heap.IsList t items->i+n<=items.size->
  (∀h',h'.IsListIter it t (i+n)->Heap.SameBut it s.heap h'->Q ((items.toList.drop i).take n) {s with heap:=h'})->a5 (bc prog w) A (draw (.ref it) n) Q E s
 |0,i,s,Q,a,_,_,d=>by show a5 _ _ (pure []) Q E s;exact aAb (by simpa using d s.heap a (aGr ..))
 |n+1,i,s,Q,a,f,l,d=>by
  have g:i<items.size:=by omega
  show a5 _ _ (fT (.ref it)>>=_) Q E s;refine aAa (wpAny_pyNext_list_item a f (x:=items[i]) (by simp[g]) λh b k=>?_);refine aAa (aAK (uD e n (i+1) _ _ b (f.extBut k.extBut e) (by omega) λm c o=>aAb ?_));have p:items.toList.drop i=items[i]::items.toList.drop (i+1):=by simp[aCS,g]
  have:=d m (by rw[show i+(n+1)=i+1+n by omega];exact c) (k.trans o);rw[p,List.take_succ_cons]at this;exact this
def lI {Q:List ai->a9->Prop}(p:A.handled=none)(f:s.heap.IsList t items)(q:∀h',Heap.ExtBut s.heap.objs.size s.heap h'->Q items.toList {s with heap:=h'}):a5 (bc prog w) A (unpackItems (.ref t) items.size none) Q E s:=by
 have l:t≠s.heap.objs.size:=by obtain⟨o,g,_⟩:=f;exact aAl (aAg g)
 unfold unpackItems;refine aAa ?_
 .unfold notIterableAtAll;refine aAa (aBs f.typeIs slot_list_iter.lookup ?_);refine aAb ?_;simp only[aAt,if_false];refine aAa (aAK<|aDB f ?_);have a:(s.heap.push {cls:=.type "list_iterator",data:=.fields #[.ref t,.int 0 0]}).IsList t items:=by obtain⟨o,g,r⟩:=f;exact⟨o,aAc _ g,r⟩
  refine aAa (aAK (uD l items.size 0 _ _ ⟨_,aAo _ rfl,rfl,rfl⟩ a (by omega) λc d m=>?_));have u:List.take items.size (List.drop 0 items.toList)=items.toList:=by rw[aEY];exact aCK (by simp)
  rw[u];rw[ka (by simp)];have h:c.IsList t items:=a.extBut m.extBut l;refine aAa (aAK (wpAny_pyNext_list_end p d h (by simp) λv k=>?_));simp only[Option.isSome_none,aAt,if_false];refine aAb (q v λb o n e=>k b o n (m.extBut b o n<|aAc _ e))
def jG {c}{Q:Unit->a9->Prop}(d:A.handled=none)(e:s.heap.IsList t items)(f:(et a env).length=items.size)(b:(et a env).findIdx? (·.1)=none)(h:∀h',Heap.ExtBut s.heap.objs.size s.heap h'->a5 (bc prog w) A (assignInOrder ((et a env).map (·.2)) items.toList) Q E {s with heap:=h'}):
  a5 (bc prog w) A (h9 (.Tuple a c g) env (.ref t)) Q E s:=by
 rw[assign_Tuple];refine aAa (aEv ?_);unfold unpack;rw[f,b];exact aAa (aAK<|lI d e h)
end
section
def iZ (B:X.calm=true)(h:UX X es U)(C:(et es X.env).length=n:=by rfl)(J:(et es X.env).findIdx? (·.1)=none:=by rfl):RF X (.Tuple es k Y) (jN n U):=by
 rintro c s σ H v u Q I r ⟨L,N,O,ρ,d,T,E,rd,e,q⟩;cases rd with
 |@tup a l m p f=>
  cases r;simp only[jN]at e;split at e
  .rename_i t;obtain⟨w,g,x,hz⟩:=I.tuple p;refine assign_Tuple_tuple (I.ok.hd B) x (by simp[C,<-t,<-f.length,g.length]) J λy z=>?_;have A:Inv X c σ H {s with heap:=y}:=I.kept (t':=s.toks) λb o e=>z b o (aAl<|aAg e) e;exact h c _ σ H l _ Q A (by simpa using g) ⟨L,N,O,ρ,m,T,E,f,e,q⟩
  .cases e
 |@lst a l m p _ f=>
  cases r;simp only[jN]at e;split at e
  .rename_i t;obtain⟨w,g,x,hz⟩:=I.list p;refine jG (I.ok.hd B) x.isList (by simp[C,<-t,<-f.length,g.length]) J λy z=>?_;have A:Inv X c σ H {s with heap:=y}:=I.kept (t':=s.toks) λb o e=>z b o (aAl<|aAg e) e;exact h c _ σ H l _ Q A (by simpa using g) ⟨L,N,O,ρ,m,T,E,f,e,q⟩
  .cases e
 |_=>cases e
def JM (f:Ev->R D)(G:D->Ev->R Ev):Ev->R Out:=λρ=>(f ρ).bind λd=>match G d ρ with
 |.ok a=>.ok (.nx a)
 |_=>.bad
def wT (m:PD X e f)(n:RF X a G)(o:gs [a] e c.line X.env=pure false:=by rfl)(p:gv [a] e X.env=pure none:=by rfl)(t:(et [a] X.env).map (·.2)=[h9 a X.env]:=by rfl):nM X (.Assign [a] e c) (JM f G):=λh k=>yP (EG m n o p t) λD σ H O ρ E u q=>⟨h,k,O,ρ,E,by
 unfold JM at q;cases g:f ρ with
 |ok d=>
  rw[g,R.aa0]at q;intro v l s r;cases b:G d ρ with
  |ok w=>rw[b]at q;exact⟨h,k,O,ρ,d,w,E.grow s,r,b,λy z A B=>q y z O B u (Kp.of<|s.trans A)⟩
  |ex x=>rw[b]at q;exact aAi q
  |bad=>rw[b]at q;exact aAi q
 |ex x=>rw[g]at q;exactλl s=>q l (E.same.trans s)
 |bad=>rw[g]at q;exact q⟩
def OP (i j:Nat){c e zU}(n:X.calm=true)(o:X.N.Nodup)(p:KR X [a,b] f)(t:X.N[i]?=some x:=by rfl)(u:X.N[j]?=some y:=by rfl)(w:i≠j:=by decide)(z:X.env.scope.names.lookup x=some .local:=by rfl)(A:X.env.scope.names.lookup y=some .local:=by rfl)(B:gv [.Tuple [.Name x l,.Name y m] c pt] (.Tuple [a,b] e zU) X.env=pure (some [x,y]):=by rfl)(C:gs [.Tuple [.Name x l,.Name y m] c pt] (.Tuple [a,b] e zU) g.line X.env=pure false:=by rfl):
  nM X (.Assign [.Tuple [.Name x l,.Name y m] c pt] (.Tuple [a,b] e zU) g) (λρ=>(f ρ).bind λds=>match ds with
   |[d,d']=>.ok (.nx ((ρ.set i (.v d)).set j (.v d')))
   |_=>.bad):=λI J=>yP (jy n o t u w z A p B C) λD σ H O ρ E L q=>⟨I,J,O,ρ,E,by
 cases h:f ρ with
 |ok ds=>
  rw[h,R.aa0]at q;intro U k s r;cases r with
  |nil=>exact aAi q
  |cons Q r=>
   cases r with
   |nil=>exact aAi q
   |cons T r=>
    cases r with
    |nil=>exact⟨_,_,rfl,q _ k O (((E.grow s).set i Q).set j T) L (Kp.of s)⟩
    |cons _ _=>exact aAi q
 |ex x=>rw[h]at q;exactλk s=>q k (E.same.trans s)
 |bad=>rw[h]at q;exact q⟩
def G1 (G:D->Ev->R Ev)(F:Ev->R Out):List D->Ev->R Out
 |[],ρ=>.ok (.nx ρ)
 |d::c,ρ=>match G d ρ with
  |.ok b=>match F b with
   |.ok (.nx a)=>G1 G F c a
   |.ok (.ct a)=>G1 G F c a
   |.ok (.bk a)=>.ok (.nx a)
   |r=>r
  |_=>.bad
def F6 (hp:PassesOwn (bc X.prog X.w) X.A X.env X.xe)(hc:X.calm=true)(hi:WN X tg iter f)(hg:RF X tg G)(hb:cE X body F)(hs:∀x,ff iter X.env x=pure x:=by intro _;rfl):nM X (.For tg iter body [] pos) (λρ=>(f ρ).bind λds=>G1 G F ds ρ):=λh k=>yP (RZ hp hc hi hg (hb h k) hs) λD σ H O ρ E fk q=>⟨h,k,O,ρ,E,fk,by
 cases Q:f ρ with
 |ex x=>rw[Q]at q;exactλg s=>q g (E.same.trans s)
 |bad=>rw[Q]at q;exact q
 |ok ds=>
  rw[Q,R.aa0]at q;intro J H1 T hJ;refine⟨λi m U g=>m=ds.length-i/\i<=ds.length/\∃c v,EnvOk X.K h k g c U v/\bL X.K c/\Kp H1 O g c/\RS X h k g c (G1 G F (ds.drop i) v) D,⟨ds.length,by simp,aAY _,O,ρ,E.grow T,fk,Kp.refl _ _,?_⟩,?_⟩
  .rw[aEY];exact q.grow (Kp.of T)
  .rintro i m U g ⟨rfl,hi,c,v,Y,l,k',a⟩;have z:=hJ g c k' l (E.grow T).trk Y.trk i;by_cases ao:i<ds.length
   .obtain⟨go,yl⟩:=z.1 ds[i] (aAh ao);refine .inr ⟨go,λsr u=>∃L b,EnvOk X.K h k u L sr b/\bL X.K L/\Kp H1 O u L/\RS X h k u L (G1 G F (ds.drop<|i+1) b) D,λsr u p=>⟨ds.length-(i+1),by omega,rfl,ao,p⟩,λx u y=>?_⟩;obtain⟨s2,r2⟩:=yl x u y;rw[aCS ao,G1]at a;cases N:G ds[i] v with
    |ex x=>rw[N]at a;exact(show False from a).elim
    |bad=>rw[N]at a;exact(show False from a).elim
    |ok n=>
     rw[N]at a;dsimp only at a;refine⟨h,k,c,v,ds[i],n,Y.grow s2,r2,N,λqh H3 s3 E3=>⟨c,n,E3,l,?_⟩⟩;have kk:Kp g c H3 c:=Kp.of (s2.trans s3);cases e3:F n with
     |ex x=>rw[e3]at a;exact a
     |bad=>rw[e3]at a;exact a
     |ok o=>
      rw[e3]at a;cases o with
      |nx b=>exactλr H4 B C I t=>⟨B,b,C,I,k'.trans (kk.trans t),RS.grow a (kk.trans t)⟩
      |ct b=>exactλr H4 B C I t=>⟨B,b,C,I,k'.trans (kk.trans t),RS.grow a (kk.trans t)⟩
      |bk b=>exactλr H4 B C I t=>a r H4 B C I (kk.trans t)
      |rt d=>exact a
   .have e:i=ds.length:=by omega
    subst e;rw[aFu,G1]at a;exact .inl ⟨z.2 (by simp),a U g c Y l (Kp.refl _ _)⟩⟩
def T2 (c:Ev->R Bool)(F:Ev->R Out):Nat->Ev->R Out
 |0,_=>.bad
 |n+1,ρ=>(c ρ).bind λb=>if b=true then(match F ρ with
  |.ok (.nx a)=>T2 c F n a
  |.ok (.ct a)=>T2 c F n a
  |.ok (.bk a)=>.ok (.nx a)
  |r=>r)else .ok (.nx ρ)
def fU (n:Ev->Nat)(hp:PassesOwn (bc X.prog X.w) X.A X.env X.xe)(hc:AH X c B)(hb:cE X body F):nM X (.While c body [] pos) (λρ=>T2 B F (n ρ) ρ):=λk l=>yP (PJ hp hc<|hb k l) λD σ H O ρ E fk q=>by
 refine⟨λm L C=>∃e g,EnvOk X.K k l C e L g/\bL X.K e/\RS X k l C e (T2 B F m g) D,⟨n ρ,O,ρ,E,fk,q⟩,?_⟩;rintro m L C ⟨e,g,I,s,a⟩;cases m with
 |zero=>exact(show False from a).elim
 |succ m=>
  rw[T2]at a;refine⟨k,l,e,g,I,?_⟩;cases N:B g with
  |ex x=>rw[N]at a;exactλJ r=>a J (I.same.trans r)
  |bad=>rw[N]at a;exact a
  |ok b=>
   rw[N,R.aa0]at a;intro J r;cases b with
   |false=>rw[ka aAP]at a⊢;exact a L J e (I.grow r) s (Kp.of r)
   |true=>
    rw[jk rfl]at a⊢;refine⟨λqh Q=>∃T t,EnvOk X.K k l Q T qh t/\bL X.K T/\RS X k l Q T (T2 B F m t) D,λqh Q p=>⟨m,aDK m,p⟩,e,g,I.grow r,s,?_⟩;have kk:Kp C e J e:=Kp.of r;cases U:F g with
    |ex x=>rw[U]at a;exact a
    |bad=>rw[U]at a;exact a
    |ok o=>
     rw[U]at a;cases o with
     |nx f=>exactλh Y u v y z=>⟨u,f,v,y,RS.grow a (kk.trans z)⟩
     |ct f=>exactλh Y u v y z=>⟨u,f,v,y,RS.grow a (kk.trans z)⟩
     |bk f=>exactλh Y u v y z=>a h Y u v y (kk.trans z)
     |rt d=>exact a
end
def lq (K:kc)(n:Nat)(m:List D->R D):Sp:=λe H Q _=>∃O b d,Reps K H O e b/\b.length=n/\(∀a,O a->∃o,H a=some o/\Mt o)/\Tb H/\bL K O/\m b=.ok d/\∀v c,Same H c->Rep K c O v d->Q v c
def j2 (N:List Str)(ds:List D):Ev:=ds.map Sl.v++aCP (N.length-ds.length) Sl.no
def N6:R Out->R D
 |.ok (.rt d)=>.ok d
 |.ok (.nx _)=>.ok .non
 |.ex e=>.ex e
 |_=>.bad
def mK {K:kc}{H:Hp}{O:bb->Prop}{N:List Str}{vs:List V}{ds:List D}(r:Reps K H O vs ds)(t:∀a,O a->∃o,H a=some o/\Mt o)(tb:Tb H):EnvOk K H O H O (start N vs) (j2 N ds)where
 len:=by simp[L2.start,j2,r.length]
 same:=Same.refl H
 sub:=λ_ h=>h
 trk:=t
 trk0:=λa h=>let⟨o,q,_⟩:=t a h;⟨o,q⟩
 tab:=tb
 slot:=λi f h=>by
  unfold j2 at h;unfold L2.start;by_cases b:i<ds.length
  .rw[aAQ (by simpa using b),aAG]at h;cases e:ds[i]? with
   |none=>rw[e]at h;cases h
   |some c=>rw[e]at h;have d:Sl.v c=f:=aAk h;subst d;obtain⟨v,g,k⟩:=r.get e;exact⟨v,by rw[aAQ (by rw[aAf,r.length];exact b),aAG,g];rfl,k⟩
  .rw[aAz (by simpa using b),aBq]at h;split at h
   .cases h;trivial
   .cases h
 inj:=λi j x y a h _ o=>by
  unfold j2 at h;by_cases b:i<ds.length
  .rw[aAQ (by simpa using b),aAG]at h;cases e:ds[i]? with
   |none=>rw[e]at h;cases h
   |some c=>rw[e]at h;have d:Sl.v c=x:=aAk h;subst d;exact o.elim
  .rw[aAz (by simpa using b),aBq]at h;split at h
   .cases h;exact o.elim
   .cases h
section
variable{K:kc}
abbrev SH (P:bt)(w:cq)(K:kc)(mg:dG)(base:cv)(N:List Str)(qual:Str)(sc:i6)(f:bb)(T:ai)(A:cp)(a:List Env)(s:a9)(H:Hp)(E:XK):Cx:=(CI tV P w K mg base N qual sc f T A a s H E).nox
def fnD {x qual:Str}{st:dm}{f:bb}{fd:ek}{N ps:List Str}{k:Nat}{m:List D->R D}{F:Ev->R Out}(l:Fun K x qual st f fd)(S:FnScope N ps (c6 st))
  (n:∀(T:ai) (A:cp) (a:List Env) (s:a9) (H:Hp) (E:XK),Room k (A.deeper (envOfC qual (c6 st) s.heap.objs.size f T))->cE (SH P w K mg base N qual (c6 st) f T A a s H E) (t6 st) F)
  (p:∀ds d,ds.length=ps.length->m ds=.ok d->N6 (F (j2 N ds))=.ok d):FnOk P w K mg base tV (k+1) f fd ps (lq K ps.length m):=by
 refine l.ok S (by rintro t H Q E ⟨O,ds,d,r,c,_⟩;rw[r.length];exact c) (λT A a s H t Q E u v=>?_);obtain⟨O,ds,d,r,c,y,z,B,e,q⟩:=v;refine⟨_,n T A a s H E u H O,O,_,mK r y z,B,?_⟩;have h:=p ds d c e;cases g:F (j2 N ds)with
 |ok o=>
  rw[g]at h;cases o with
  |rt C=>have b:R.ok C=R.ok d:=h;injection b with b;subst b;exact q
  |nx ρ=>have b:R.ok D.non=R.ok d:=h;injection b with b;subst b;exactλL I U J _ _=>q .non I J.same .non
  |bk ρ=>cases h
  |ct ρ=>cases h
 |ex x=>rw[g]at h;cases h
 |bad=>rw[g]at h;cases h
end
section
def sR (I:Inv X b σ H s)(O:bb->Prop)(t:∀a,O a->∃o,H a=some o/\Mt o):bL X.K O:=λa o c z=>by obtain⟨u,h,_⟩:=t a z;have:=(I.bs a o<|I.ok.mod.kin a o c).2;rw[h]at this;cases this
def VX (F:FnOk X.prog X.w X.K X.mg X.base tV k g r ps (lq X.K n m))(t:Room k X.A)(u:X.mg x=some (.ref g))(y:PySem.W.keepIn X.K (.ref g)=true)(B:Binds X.K r ps [])(C:KR X (e::es) f)(J:∀ρ ds,f ρ=.ok ds->ds.length=n)(L:Gl X x:=by rfl)(N:(x==kd)=false:=by decide)(T:av (e::es) X.env=(false,d3 e X.env)::av es X.env:=by rfl)(U:(dq h (av es X.env)).any (·.1)=false:=by rfl):
  PD X (.Call (.Name x p) (e::es) [] h) (λρ=>(f ρ).bind m):=by
 refine sG λa s σ H Q I Y O0 O ρ E q=>?_;refine GI F t L u y B .nil WJ C N T U a s σ H Q I ⟨Y,O0,O,ρ,E,?_⟩;dsimp only at q;cases b:f ρ with
 |ex z=>rw[b]at q;exact q
 |bad=>rw[b]at q;exact q
 |ok ds=>
  rw[b,R.aa0]at q;intro vs H1 l r1;rw[aCn];have o:=E.grow l;cases c:m ds with
  |ex z=>rw[c]at q;exact(q H<|Same.refl _).elim
  |bad=>rw[c]at q;exact q.elim
  |ok d=>rw[c]at q;refine⟨O,ds,d,r1,J ρ ds b,o.trk,o.tab,?_,c,λv H' s2 r2=>q v H' (l.trans s2) r2⟩;exact sR I O E.trk
end
def LJ (env:Env):List (Str×eY)->List (Str×bb)->List (Str×bb)
 |[],B=>B
 |(n,k)::r,B=>LJ env r (if k=.free then(n,(env.cells.lookup n).getD 0)::B else B)
def gJ (h:∀y∈d.names,y.2=.free->∃c,env.cells.lookup y.1=some c):closureFor d env=pure (LJ env d.names []):=by
 have t:∀(b:List (Str×eY)) (B:List (Str×bb)),(∀y∈b,y.2=.free->∃c,env.cells.lookup y.1=some c)->
   (forIn b B λ(x:Str×eY) (r:List (Str×bb))=>(match x with
    |(f,g)=>if(g==NameKind.free)=true then(do let a<-cellOf env f;pure (aCm ((f,a)::r)))else pure (aCm r):Sem (ForInStep<|List<|Str×bb)))=pure (LJ env b B):=by
  intro b;induction b with
  |nil=>intro B _;rfl
  |cons y r p=>
   intro B l;obtain⟨n,k⟩:=y;rw[aDb];by_cases m:k=.free
   .subst m;obtain⟨c,q⟩:=l (n,.free) aBa rfl;have e:cellOf env n=pure c:=by unfold cellOf;rw[q]
    simp only[beq_self_eq_true,if_true,e,pure_bind];rw[p _ λz o=>l z (aAe _ o)];simp[LJ,q]
   .have u:(k==NameKind.free)=false:=by simpa using m
    simp only[u,aAt,if_false,pure_bind];rw[p _ λz o=>l z (aAe _ o)];simp[LJ,m]
 have e:=t d.names [] h;show((forIn d.names ([]:List (Str×bb)) λ(x:Str×eY) (r:List (Str×bb))=>(match x with
    |(f,g)=>if(g==NameKind.free)=true then(do let a<-cellOf env f;pure (aCm ((f,a)::r)))else pure (aCm r):Sem (ForInStep<|List<|Str×bb)))>>=λs=>pure s)=_
 rw[e];rfl
theorem yR:∀(names:List (Str×eY)) (B:List (Str×bb)) {x:Str} {c:bb},(∀y∈names,y.2=.free->∃c,env.cells.lookup y.1=some c)->(∀x c,B.lookup x=some c->env.cells.lookup x=some c)->
  (LJ env names B).lookup x=some c->env.cells.lookup x=some c
 |[],B,x,c,_,b,h=>b x c h
 |(n,k)::r,B,x,c,f,b,h=>by
  refine yR r _ (λy o=>f y (aAe _ o)) (λd g a=>?_) h;by_cases e:k=.free
  .rw[jk e]at a;obtain⟨c0,l⟩:=f (n,k) aBa e;by_cases m:d=n
   .subst m;rw[aBD]at a;rw[l]at a;rw[l];exact a
   .rw[aBb,beq_eq_false_iff_ne.mpr m]at a;exact b d g a
  .rw[ka e]at a;exact b d g a
theorem wK:∀(names:List (Str×eY)) (B:List (Str×bb)) {x:Str},((x,NameKind.free)∈names\/∃c,B.lookup x=some c)->∃c,(LJ env names B).lookup x=some c
 |[],B,x,h=>by
  rcases h with h|h
  .cases h
  .exact h
 |(n,k)::r,B,x,h=>by
  refine wK r _ ?_;rcases h with h|⟨c,h⟩
  .rcases aAd.mp h with e|h
   .cases e;right;rw[jk rfl,aBD];exact⟨_,rfl⟩
   .exact .inl h
  .right;by_cases a:k=.free
   .rw[jk a,aBb];cases(x==n)with
    |true=>exact⟨_,rfl⟩
    |false=>exact⟨c,h⟩
   .rw[ka a];exact⟨c,h⟩
theorem kI {env:Env}:∀{names:List (Str×eY)} {x:Str},
  ((names.map λ(n,k)=>if(k==NameKind.free&&env.scope.kind==.function&&env.kindOf n==some .cell)then(n,aBZ)else(n,k)).lookup x=some .cell\/
   (names.map λ(n,k)=>if(k==NameKind.free&&env.scope.kind==.function&&env.kindOf n==some .cell)then(n,aBZ)else(n,k)).lookup x=some .free)->(x,NameKind.free)∈names\/names.lookup x=some .cell
 |[],_,h=>by rcases h with h|h<;>cases h
 |(n,k)::r,x,h=>by
  have c:=@kI env r x;rw[aAv]at h;dsimp only at h;by_cases b:x=n
  .subst b;by_cases a:(k==NameKind.free&&env.scope.kind==.function&&env.kindOf x==some .cell)=true
   .have d:k=.free:=by rw[aAM,aAM]at a;simpa using a.1.1
    subst d;exact .inl aBa
   .rw[ka a,aBD]at h;rcases h with h|h
    .right;rw[aBD];exact h
    .have:k=.free:=aAk h;subst this;exact .inl aBa
  .have e:(r.map λ(n,k)=>if(k==NameKind.free&&env.scope.kind==.function&&env.kindOf n==some .cell)then(n,aBZ)else(n,k)).lookup x=some .cell\/
     (r.map λ(n,k)=>if(k==NameKind.free&&env.scope.kind==.function&&env.kindOf n==some .cell)then(n,aBZ)else(n,k)).lookup x=some .free:=by
    by_cases a:(k==NameKind.free&&env.scope.kind==.function&&env.kindOf n==some .cell)=true
    .rw[jk a,aBb,beq_eq_false_iff_ne.mpr b]at h;exact h
    .rw[ka a,aBb,beq_eq_false_iff_ne.mpr b]at h;exact h
   rcases c e with h|h
   .exact .inl (aAe _ h)
   .right;rw[aBb,beq_eq_false_iff_ne.mpr b];exact h
theorem oJ:∀(names:List (Str×eY)) (h:cv) (B:List (Str×bb)) {x:Str} {c:bb},(eQ h.objs.size names B).lookup x=some c->B.lookup x=some c\/((pushCells h names).IsCell c none/\h.objs.size<=c)
 |[],h,B,x,c,e=>.inl e
 |(n,k)::r,h,B,x,c,e=>by
  unfold eQ at e;unfold pushCells;split at e
  .rename_i b;rw[jk b];rcases oJ r (h.push {cls:=.type "cell",data:=.cell none}) ((n,h.objs.size)::B) (x:=x) (c:=c) (by rw[aBy];exact e)with a|⟨a,d⟩
   .rw[aBb]at a;cases f:(x==n)with
    |true=>rw[f]at a;have g:h.objs.size=c:=aAk a;subst g;exact .inr ⟨⟨_,aEB _ _ _ _ (aAo _ rfl),rfl⟩,aAj _⟩
    |false=>rw[f]at a;exact .inl a
   .exact .inr ⟨a,by rw[aBy]at d;exact aCG d⟩
  .rename_i b;rw[ka b];exact oJ r h B e
theorem lF:∀(names:List (Str×eY)) (n:Nat) (B:List (Str×bb)) {x:Str} {c:bb},(eQ n names B).lookup x=some c->B.lookup x=some c\/n<=c
 |[],n,B,x,c,e=>.inl e
 |(m,k)::r,n,B,x,c,e=>by
  unfold eQ at e;split at e
  .rcases lF r (n+1) _ e with a|a
   .rw[aBb]at a;cases b:(x==m)with
    |true=>rw[b]at a;exact .inr (aEi (aAk a))
    |false=>rw[b]at a;exact .inl a
   .exact .inr (aCG a)
  .exact lF r n B e
theorem qG:∀(names:List (Str×eY)) (n:Nat) (B:List (Str×bb)) {x:Str} {c:bb},(x,aBZ)∈names->(eQ n names B).lookup x=some c->n<=c
 |[],n,B,x,c,a,e=>nomatch a
 |(m,k)::r,n,B,x,c,a,e=>by
  unfold eQ at e;rcases aAd.mp a with a|a
  .cases a;rw[jk (show(aBZ==aBZ)=true from rfl)]at e;rcases lF r (n+1) _ e with b|b
   .rw[aBD]at b;exact aEi (aAk b)
   .exact aCG b
  .split at e
   .exact aCG (qG r (n+1) _ a e)
   .exact qG r n B a e
theorem pG:∀(names:List (Str×eY)) (n:Nat) (B:List (Str×bb)) {x:Str},(x,aBZ)∉names->(eQ n names B).lookup x=B.lookup x
 |[],n,B,x,_=>rfl
 |(m,k)::r,n,B,x,a=>by
  unfold eQ;split
  .rename_i b;rw[pG r (n+1) _ λz=>a (aAe _ z),aBb];cases c:(x==m)with
   |true=>
    have d:x=m:=by simpa using c
    have e:k=.cell:=by simpa using b
    exact absurd (by rw[d,e];exact aBa) a
   |false=>rfl
  .exact pG r n B λz=>a (aAe _ z)
theorem mJ:∀(names:List (Str×eY)) (n:Nat) (B:List (Str×bb)),(∀x c,B.lookup x=some c->c<n)->(∀x y c,B.lookup x=some c->B.lookup y=some c->x=y)->
  ∀x y c,(eQ n names B).lookup x=some c->(eQ n names B).lookup y=some c->x=y
 |[],n,B,_,h=>h
 |(m,k)::r,n,B,g,h=>by
  unfold eQ;split
  .refine mJ r (n+1) _ (λx c e=>?_) λx y c b a=>?_
   .rw[aBb]at e;cases d:(x==m)with
    |true=>rw[d]at e;rw[<-aAk e];exact aDK _
    |false=>rw[d]at e;exact aBz (g x c e)
   .rw[aBb]at b a;cases d:(x==m)with
    |true=>
     rw[d]at b;cases f:(y==m)with
     |true=>rw[show x=m by simpa using d,show y=m by simpa using f]
     |false=>rw[f]at a;rw[<-aAk b]at a;exact absurd (g y _ a) (aBg _)
    |false=>
     rw[d]at b;cases f:(y==m)with
     |true=>rw[f]at a;rw[<-aAk a]at b;exact absurd (g x _ b) (aBg _)
     |false=>rw[f]at a;exact h x y c b a
  .exact mJ r n B g h
abbrev dN (X:Cx)(a:i6)(C:bb):List (Str×bb):=eQ (C+1) a.names (LJ X.env a.names [])
def IT {E:E8}{Q:Env->a9->Prop}(f:Q (newEnv a s.heap.objs.size g (eQ (s.heap.objs.size+1) a.names h) q none .none (some env) builtinsNs) {s with heap:=pushCells (s.heap.push {cls:=.type "dict",data:=.dict #[]}) a.names}):
  a5 M A (newFunctionEnv a g h [] q none .none (some env)) Q E s:=by
 simp only[newFunctionEnv,Option.isSome_some,if_true];refine aAa (wpAny_alloc ?_);refine aAa (wpAny_layCells _ (λe b c=>by cases d:b==aBZ<;>simp[d]) _ _ _ _ ?_);rw[show({s with heap:=s.heap.push {cls:=.type "dict",data:=.dict #[]}}:a9).heap.objs.size=s.heap.objs.size+1 from aBy ..];exact aAa (aAb<|aAb f)
def JS {R:Result->a9->Prop}(I:Nat->a9->Prop)(turn:∀n s,I n s->a5 (bc prog w) A (fT it) (λr l=>match r with
   |none=>R (.ok .next) l
   |some v=>a5 (bc prog w) A (letOwnedTupleGo a it v) (λ_ f=>a5 (bc prog w) A (h9 a env v) (λ_ t=>
    a5 (bc prog w) A (forIn g true λc r=>if r=true then do let ok<-isTrue c env (d3 c env);pure (aCm ok)else pure (aCm r)) (λok o=>
     if ok=true then a5 (bc prog w) A (d3 k env) (λx u=>a5 (bc prog w) A (call (.builtin "list.append") [B,x]) (λ_ y=>∃m,m<n/\I m y) (λ_ _=>False) u) (λ_ _=>False) o
     else∃m,m<n/\I m o) (λ_ _=>False) t) (λ_ _=>False) f) (λ_ _=>False) l) (λ_ _=>False) s) (n:Nat) (h:I n s):gn (bc prog w) A (.compLoop (.ListComp k [⟨a,iter,g,0⟩] e p) 0 it B env) R s:=by
 refine codeAny_loop rfl I (λn s C=>?_) n h;show a5 _ A ((compTurn (.ListComp k [⟨a,iter,g,0⟩] e p) 0 it B env).onRaise (λx=>do noteFrame x env;theTreesLotGoes x)) _ _ s;refine wpAny_noted ?_;rw[compTurn_list];refine aAa (aEv<|aAa<|aCF (turn n s C) (λr l d=>?_) λ_ _ b=>b.elim);cases r with
 |none=>exact aAb d
 |some v=>
  refine aAa (aCF d (λ_ f q=>?_) λ_ _ b=>b.elim);refine aAa (aCF q (λ_ t E=>aAa (aCF E (λok o z=>?_) λ_ _ b=>b.elim)) λ_ _ b=>b.elim);cases ok with
  |false=>exact aAb ⟨rfl,z⟩
  |true=>exact aAa (aAa<|aCF z (λx u H=>aAa (aCF H (λ_ y J=>aAb (aAb ⟨rfl,J⟩)) λ_ _ b=>b.elim)) λ_ _ b=>b.elim)
def KF (X:Cx)(pins:O5)(s9:a9)(H9:Hp)(b:List Str)(a:i6)(c:List (Str×bb))(C:bb)(d:List bb):Cx where
 prog:=X.prog
 w:=X.w
 K:=X.K
 mg:=X.mg
 base:=X.base
 A:=X.A
 N:=b
 s9:=s9
 H9:=H9
 env:=compEnvC a c C X.env
 outer:=X.stack
 stack:=X.stack
 ex:=d
 fn:=λx=>a.names.lookup x==some .cell
 calm:=X.calm
 pn:=X.pn++pins
 xe:=λ_ _=>False
structure CompSc (X:Cx)(scope:Scope)(own fr:List Str)(js:List Nat):Prop where
 kind:scope.kind=.function
 apart:∀y∈scope.names,y.2=.free->(y.1,aBZ)∉scope.names
 names:∀y∈scope.names,y.2=.local->scope.names.lookup y.1=some .local
 free:∀y∈scope.names,y.2=.free->X.env.kindOf y.1=some .cell\/X.env.kindOf y.1=some .free
 len:js.length=fr.length
 at_:∀(i j:Nat) (x:Str),js[i]?=some j->fr[i]?=some x->X.N[j]?=some x/\(x,NameKind.free)∈scope.names
 nd:js.Nodup
 dis:∀y∈scope.names,y.2=.free->scope.names.lookup y.1=some .free
def seen:Sl->Sl
 |.v d=>.v d
 |_=>.no
def i9 (own:List Str)(a:List Nat)(ρ:Ev):Ev:=aCP own.length Sl.no++a.map λj=>seen (ρ.getD j Sl.no)
def Z6 (own:List Str)(a:List Nat)(σ:St):St:=aCP own.length none++a.map λj=>σ.getD j none
def Inv.ab4 (I:L2.Inv X b σ H s)(S:CompSc X a own f g):∀y∈a.names,y.2=.free->∃c,X.env.cells.lookup y.1=some c:=
 λy d e=>I.ok.has y.1 (S.free y d e)
def gS (h:(i9 own f ρ)[i]?=some sl):sl=.no\/∃d j,sl=.v d/\own.length<=i/\f[i-own.length]?=some j/\ρ[j]?=some (.v d):=by
 unfold i9 at h;by_cases b:i<own.length
 .rw[aAQ (by simpa using b),aBq,jk b]at h;cases h;exact .inl rfl
 .have g:own.length<=i:=aEo b;rw[aAz (by simpa using g),aCo,aAG]at h;cases e:f[i-own.length]? with
  |none=>rw[e]at h;cases h
  |some j=>
   rw[e]at h;have a:seen (ρ.getD j Sl.no)=sl:=aAk h;rw[aAq]at a;cases c:ρ[j]? with
   |none=>rw[c]at a;subst a;exact .inl rfl
   |some z=>
    rw[c]at a;cases z with
    |v d=>subst a;exact .inr ⟨d,j,rfl,g,rfl,c⟩
    |_=>subst a;exact .inl rfl
def KU {K:kc}{c H:Hp}{f O:bb->Prop}{σ:St}{ρ:Ev}{own:List Str}{g:List Nat}(E:EnvOk K c f H O σ ρ):EnvOk K c f H O (Z6 own g σ) (i9 own g ρ):=by
 refine⟨by simp[Z6,i9],E.same,E.sub,E.trk,E.trk0,E.tab,λi n h=>?_,λi j x y a b p o=>?_⟩
 .rcases gS h with rfl|⟨d,j,rfl,k,e,b⟩
  .trivial
  .obtain⟨v,l,m⟩:=E.val j d b;refine⟨v,?_,m⟩;unfold Z6;rw[aAz (by simpa using k),aCo,aAG,e];show some (σ.getD j none)=some (some v);rw[aAq,l];rfl
 .rcases gS b with rfl|⟨d,j,rfl,_⟩
  .exact o.elim
  .exact o.elim
def JT (I:L2.Inv X pins σ H s)(S:CompSc X a own fr js)(Y:∀b∈fp,nI X pins H b)(ao:∀b∈fp,b<s.heap.objs.size)(e8:h₁=pushCells (s.heap.push {cls:=.type "dict",data:=.dict #[]}) a.names):
  L2.Inv (KF X pins s H (own++fr) a (dN X a s.heap.objs.size) s.heap.objs.size fp) [] (Z6 own js σ) H {s with heap:=h₁,toks:=tk}:=by
 have w:=Inv.ab4 I S;have g:∀b o,s.heap.get? b=some o->h₁.get? b=some o:=λb o e=>by rw[e8];exact aEB _ _ _ _ (aAc _ e)
 have yv:h₁.Ns s.heap.objs.size (λ_=>none):=by rw[e8];exact(Heap.Ns.new s.heap<|.type "dict").keeps (aEB _ _)
 have cc:∀x c,(dN X a s.heap.objs.size).lookup x=some c->(LJ X.env a.names []).lookup x=some c\/(h₁.IsCell c none/\s.heap.objs.size+1<=c):=λx c h=>by have:=oJ a.names (s.heap.push {cls:=.type "dict",data:=.dict #[]}) (LJ X.env a.names []) (x:=x) (c:=c) (by rw[aBy];exact h);rw[aBy,<-e8]at this;exact this
 have J:∀x c,(LJ X.env a.names []).lookup x=some c->X.env.cells.lookup x=some c:=λx c h=>yR a.names [] w (λ_ _ z=>(by cases z)) h;have l:∀b o,X.base.get? b=some o->b∉fp:=λb o e B=>by
  rcases(Y b B).2.2.2.1 with z|z
  .exact I.ok.noex b o e z
  .exact absurd (aAu (aAg e)<|aAr I.ok.bsz z) (aBg _)
 have nfs:∀b∈fp,b∉AL X.stack:=λb B z=>by
  rcases aAd.mp (I.ab3 b z)with e|z
  .exact(Y b B).2.1 e
  .exact(Y b B).2.2.1 z
 have A:∀x c,X.env.cells.lookup x=some c->c<s.heap.objs.size+1:=λx c h=>by obtain⟨v,o,Q,_⟩:=I.cell x c h;exact aBz (aAg Q)
 have has:∀x,((relabel a X.env).names.lookup x=some .cell\/(relabel a X.env).names.lookup x=some .free)->∃c,(dN X a s.heap.objs.size).lookup x=some c:=λx N=>by
  have:((dN X a s.heap.objs.size).lookup x).isSome=true:=PySem.W.cellsFrom_some _ _ _ (by
   rcases kI N with h|h
   .obtain⟨c,hc⟩:=wK (env:=X.env) a.names [] (x:=x) (.inl h);exact .inr (by rw[hc];rfl)
   .exact .inl h)
  exact aFh.mp this
 refine⟨⟨I.ok.mod,S.kind,I.ok.glob,I.ok.blt,aAj _,mJ a.names _ _ (λx c h=>A x c (J x c h)) (λx y c h1 C=>I.ok.inj x y c (J x c h1) (J y c C)),has,λx c hf h=>aCG (qG a.names _ _ (PySem.mem_of_lookup<|eq_of_beq hf) h),I.ok.hd,I.ok.frames,.inl rfl,
  λb B=>⟨aAl (ao b B),λx c h=>(cc x c h).elim (λh=>(Y b B).2.2.2.2.1 x c (J x c h)) λ⟨_,C⟩ z=>absurd (aAu (ao b B)<|aCG C) (by rw[z];exact aBg _)⟩,I.bs,aAr I.ok.bsz I.sz,λb o e=>l b o e,nfs,I.stack,I.ad6⟩,rfl,I.bare,Un.kept g,⟨_,yv,λi x v e1 E L=>?_⟩,λx c h=>?_,I.hok.fresh (aAj _),λx c h=>(cc x c h).elim (λh=>I.freeC x c (J x c h)) λ⟨_,C⟩=>I.hok.fresh (aCG C),λp hp=>?_,I.hok.kept g,?_⟩
 .
  have hlen:(own++fr).length=(Z6 own js σ).length:=by simp[Z6,S.len]
  unfold Z6 at E;by_cases hi:i<own.length
  .rw[aAQ (by simpa using hi),aBq,jk hi]at E;cases E
  .have gi:own.length<=i:=aEo hi;rw[aAz (by simpa using gi),aCo,aAG]at E;have T:(own++fr)[i]?=some x:=e1;rw[aAz gi]at T;cases e:js[i-own.length]? with
   |none=>rw[e]at E;cases E
   |some j=>
    rw[e]at E;have q:σ.getD j none=some v:=aAk E;obtain⟨hN,jo⟩:=S.at_ (i-own.length) j x e T;have hσ:σ[j]?=some (some v):=by
     rw[aAq]at q;cases e4:σ[j]? with
     |none=>rw[e4]at q;cases q
     |some z=>rw[e4]at q;exact kb some q
    have O:=S.free (x,.free) jo rfl;have U:BC X.env.scope x:=.inr O;obtain⟨m,hn,hl⟩:=I.loc;obtain⟨u,r,lk⟩:=hl j x v hN hσ U;refine⟨u,r,?_⟩;rcases lk with⟨kl,_⟩|⟨_,c,hc,iu⟩
    .rcases O with O|O<;>(rw[kl]at O;cases O)
    .right;obtain⟨c',xu⟩:=wK (env:=X.env) a.names [] (x:=x) (.inl jo);have:=J x c' xu;rw[hc]at this;cases this;refine⟨?_,c,(pG a.names _ _<|S.apart (x,.free) jo rfl).trans xu,?_⟩
     .rcases L with L|L|L
      .
       have hq:(relabel a X.env).names.lookup x=some .local:=L;exfalso;have:∀f:List (Str×eY),(f.map λ(n,k)=>if(k==NameKind.free&&X.env.scope.kind==.function&&X.env.kindOf n==some .cell)then(n,aBZ)else(n,k)).lookup x=some .local->f.lookup x=some .local:=by
        intro f;induction f with
        |nil=>intro h;cases h
        |cons y r ih=>
         obtain⟨n,k⟩:=y;intro h;rw[aAv]at h;dsimp only at h;by_cases N:x=n
         .subst N;by_cases t:(k==NameKind.free&&X.env.scope.kind==.function&&X.env.kindOf x==some .cell)=true
          .rw[jk t,aBD]at h;cases h
          .rw[ka t,aBD]at h;rw[aBD];exact h
         .rw[aBb,beq_eq_false_iff_ne.mpr N];by_cases t:(k==NameKind.free&&X.env.scope.kind==.function&&X.env.kindOf n==some .cell)=true
          .rw[jk t,aBb,beq_eq_false_iff_ne.mpr N]at h;exact ih h
          .rw[ka t,aBb,beq_eq_false_iff_ne.mpr N]at h;exact ih h
       have C:=this a.names hq;rw[S.dis (x,.free) jo rfl]at C;cases C
      .exact .inl L
      .exact .inr L
     .obtain⟨o,Q,hd⟩:=iu;exact⟨o,g c o Q,hd⟩
 .rcases cc x c h with h|⟨h,_⟩
  .obtain⟨v,o,Q,hd⟩:=I.cell x c (J x c h);exact⟨v,o,g c o Q,hd⟩
  .exact⟨_,h⟩
 .have hp':p∈X.pn++pins:=by simpa[KF]using hp
  obtain⟨e,n,ne,nf,d⟩:=I.pin p hp';refine⟨g _ _ e,n,aAl (aAg e),λz=>?_,d⟩;rcases aAd.mp (I.ab3 p.1 z)with e'|z'
  .exact ne e'
  .exact nf z'
 .simp[Z6,KF,S.len]
def u8 (G:D->Ev->R Ev)(ft:Ev->R Bool)(fe:Ev->R D)(ρ:Ev):List D->R (List D)
 |[]=>.ok []
 |d::c=>match G d ρ with
  |.ok a=>(ft a).bind λb=>if b=true then(fe a).bind λr=>(u8 G ft fe ρ c).bind λe=>.ok (r::e)else u8 G ft fe ρ c
  |_=>.bad
def CL (ρ1 ρ:Ev):Prop:=ρ1.length=ρ.length/\∀(i:Nat) (a:Sl),ρ[i]?=some a->a≠.no->ρ1[i]?=some a
def EnvOk.weak {K:kc}{b H:Hp}{c O:bb->Prop}{σ:St}{ρ1 ρ:Ev}(E:EnvOk K b c H O σ ρ1)(h:CL ρ1 ρ):EnvOk K b c H O σ ρ where
 len:=E.len.trans h.1
 same:=E.same
 sub:=E.sub
 trk:=E.trk
 trk0:=E.trk0
 tab:=E.tab
 slot:=λi d e=>by
  by_cases n:d=.no
  .subst n;trivial
  .exact E.slot i d (h.2 i _ e n)
 inj:=λi j x y a k l f g=>E.inj i j x y a (h.2 i _ k (by rintro rfl;exact f)) (h.2 j _ l (by rintro rfl;exact g)) f g
def T4 (H:Hp)(a:bb):Hp:=λb=>if b=a then none else H b
def EA (H:Hp)(a:bb):T4 H a a=none:=jk rfl
def Y7 (h:b≠a):T4 H a b=H b:=ka h
def IQ (h:H a=some o):upd (T4 H a) a o=H:=by
 funext b
 unfold upd T4;by_cases c:b=a
 .subst c;rw[jk rfl,h]
 .rw[ka c,ka c]
def EnvOk.ae5 {K:kc}{c H:Hp}{d O:bb->Prop}{σ:St}{ρ:Ev}{a:bb}{vs:List V}(E:EnvOk K c d H O σ ρ)(h:H a=none)(e:K.lookup a=none):EnvOk K c d (upd H a (.lst vs)) (λb=>O b\/b=a) σ ρ:=E.ab8 h e trivial
def Rep.hidden {K:kc}{H:Hp}{O:bb->Prop}{a:bb}{vs:List V}{v:V}{d:D}(h:H a=some (.lst vs))(r:Rep K H (λb=>O b\/b=a) v d):Rep K (T4 H a) O v d:=by
 refine r.mono (λb Y q=>?_) (λb Y n q=>⟨λz=>n (.inl z),?_⟩) λb φ n q=>⟨λz=>n (.inl z),by rw[Y7 λz=>n (.inr z)];exact q⟩
 .rcases q with(q|⟨o,q⟩)|q
  .exact .inl (.inl (by rw[Y7 (by rintro rfl;rw[h]at q;cases q)];exact q))
  .exact .inl (.inr ⟨o,by rw[Y7 (by rintro rfl;rw[h]at q;cases q)];exact q⟩)
  .exact .inr q
 .have c:b≠a:=λz=>n (.inr z);rcases q with(q|⟨o,q⟩)|q
  .exact .inl (.inl (by rw[Y7 c];exact q))
  .exact .inl (.inr ⟨o,by rw[Y7 c];exact q⟩)
  .exact .inr q
def Y3 (h:H a=none)(s:Same (upd H a (.lst vs)) H'):Same H (T4 H' a):=λb o q=>by
 have c:b≠a:=by rintro rfl;rw[h]at q;cases q
 rw[Y7 c];exact s b o (by rw[k8 c];exact q)
section
def WY (X:Cx)(b:List cy)(ft:Ev->R Bool):Prop:=
 ∀(a:O5) (s:a9) (σ:St) (H:Hp) (Q:Bool->Hp->Prop),Inv X a σ H s->tDT X ft σ H Q->
  a5 (bc X.prog X.w) X.A (forIn b true λc r=>if r=true then do let ok<-isTrue c X.env (d3 c X.env);pure (aCm ok)else pure (aCm r)) (TP X a σ Q) X.xe s
def SV:WY X [] (λ_=>.ok true):=by rintro a s σ H Q I ⟨b,c,O,ρ,E,q⟩;exact wpAny_tests_nil ⟨H,I,q H (Same.refl _)⟩
def UR (h:AH X c ft):WY X [c] ft:=λa s σ H Q I q=>wpAny_tests_one (h a s σ H Q I q)
def yU {tg elt iter:cy}{ifs:List cy}{scope:i6}{own fr:List Str}{Y:List Nat}{G:D->Ev->R Ev}{ft:Ev->R Bool}{fe:Ev->R D}{pins:O5}{σ:St}{H:Hp}{s:a9}{H9:Hp}{O0 O:bb->Prop}{ρ:Ev}
  {it:bb} {N:List bb} {tn:Nat->cv->Prop} {J:It} {ds rs:List D} {RR:ai->bb->Result->a9->Prop} {EE:E8} (hc:X.calm=true) (S:CompSc X scope own fr Y)
  (hX:∀l:Cx,(∃s9 Ha C,l=KF X pins s9 Ha (own++fr) scope (dN X scope C) C N)->RF l tg G/\WY l ifs ft/\PD l elt fe)
  (hG:∀d ρ1,G d (i9 own Y ρ)=.ok ρ1->CL ρ1 (i9 own Y ρ))
  (I:Inv X pins σ H s) (T:Turn X.prog X.w X.K tg J N it tn) (st:tn 0 s.heap) (wc:∀b∈N,nI X pins H b) (E:EnvOk X.K H9 O0 H O σ ρ) (hJ:ak X.K J H O ds) (hrs:u8 G ft fe (i9 own Y ρ) ds=.ok rs) (hlen:ds.length<=sizeLine)
  (fin:∀B C s' H' m,s'.heap.Ns C m->C≠B->s.heap.objs.size<=C->s.heap.objs.size<=B->Same H H'->Rep X.K H' O (.ref B) (.lst rs)->(∃H1 vs,Same H H1/\H1 B=none/\H'=upd H1 B (.lst vs)/\Reps X.K H1 O vs rs)->H' C=none->(∀h',Heap.SameBut C s'.heap h'->Inv X pins σ H' {s' with heap:=h'})->RR (.ref B) C (.ok .next) s'):
  a5 (bc X.prog X.w) X.A (newList []) (λB sa=>a5 (bc X.prog X.w) X.A (newFunctionEnv scope X.env.globals (LJ X.env scope.names []) [] X.env.qual none .none (some X.env)) (λcenv se=>gn (bc X.prog X.w) X.A (.compStart (.ListComp elt [⟨tg,iter,ifs,0⟩] scope pos) 0 (.ref it) B {cenv with scope:=relabel scope X.env}) (RR B cenv.locals) se) EE sa) EE s:=by
 have hO:=sR I O E.trk;refine aAS ?_;have hfr:H s.heap.objs.size=none:=I.hok.fresh (aAj _);have hkl:X.K.lookup s.heap.objs.size=none:=by
  cases e:X.K.lookup s.heap.objs.size with
  |none=>rfl
  |some o=>exact absurd (aAg<|I.kIn _ o e) (aBg _)
 have I1:Inv X pins σ (upd H s.heap.objs.size<|.lst []) {s with heap:=s.heap.push {cls:=.type "list",dict:=none,data:=.seq ([]:List ai).toArray}}:=
  I.laid (t':=s.toks) (λb u e=>aAc _ e) (aAj _) ⟨aAY _,[],0,.nil,aAo _ rfl⟩
 generalize cg:s.heap.objs.size=B at*
 generalize za:({s with heap:=s.heap.push {cls:=.type "list",dict:=none,data:=.seq ([]:List ai).toArray}}:a9)=U at I1⊢;have sz1:U.heap.objs.size=B+1:=by rw[<-za,<-cg];exact aBy _ _
 have keep1:∀b o,s.heap.get? b=some o->U.heap.get? b=some o:=λb o e=>by rw[<-za];exact aAc _ e
 have we:∀b∈N,b<B:=λb g=>by obtain⟨o,e,_⟩:=T.obj 0 _ st b g;rw[<-cg];exact aAg e
 have hfp1:∀b∈N,nI X pins (upd H B<|.lst []) b:=λb g=>by obtain⟨f0,f⟩:=wc b g;exact⟨by rw[k8 (aAl<|we b g)];exact f0,f⟩
 refine IT ?_;obtain⟨y,e8⟩:∃y,pushCells (U.heap.push {cls:=.type "dict",data:=.dict #[]}) scope.names=y:=⟨_,rfl⟩;rw[e8];have keep2:∀b o,U.heap.get? b=some o->y.get? b=some o:=λb o e=>by rw[<-e8];exact aEB _ _ _ _ (aAc _ e)
 have IB:=JT (tk:=U.toks) I1 S hfp1 (λb g=>by rw[sz1];exact aBz (we b g)) e8.symm;generalize hC:U.heap.objs.size=C at*
 obtain⟨hG',hT',hE'⟩:=hX _ ⟨U,upd H B (.lst []),C,rfl⟩;generalize lh:KF X pins U (upd H B<|.lst []) (own++fr) scope (dN X scope C) C N=l at IB hG' hT' hE';have eP:l.prog=X.prog:=by rw[<-lh];rfl
 have eW:l.w=X.w:=by rw[<-lh];rfl
 have eK:l.K=X.K:=by rw[<-lh];rfl
 have eA:l.A=X.A:=by rw[<-lh];rfl
 have eC:l.calm=true:=by rw[<-lh];exact hc
 have eX:l.xe=λ_ _=>False:=by rw[<-lh];rfl
 have eE:l.env=compEnvC scope (dN X scope C) C X.env:=by rw[<-lh];rfl
 have eX0:l.ex=N:=by rw[<-lh];rfl
 have ePn:l.pn=X.pn++pins:=by rw[<-lh];rfl
 have eFs:l.fs=AL X.stack:=by rw[<-lh];rfl
 have eS0:l.s9=U:=by rw[<-lh];rfl
 have eH0:l.H9=upd H B (.lst []):=by rw[<-lh];rfl
 have eL:l.env.locals=C:=by rw[eE];rfl
 have eCe:l.env.cells=dN X scope C:=by rw[eE];rfl
 have I2of:=IB;have cell_ne:∀b∈N,∀x c,l.env.cells.lookup x=some c->c≠b:=λb g x c h=>(I2of.ok.exf b (by rw[eX0];exact g)).2 x c h;have accC:B≠C:=by rw[sz1];exact aAl (aDK _)
 have fpC:∀b∈N,b≠C:=λb g=>by have h1:=we b g;rw[sz1];exact aAl (aBz h1)
 have fpB:∀{H':Hp},(∀b∈N,H' b=none)->∀b∈N,nI l [] H' b:=λ{H'} hn b g=>by
  obtain⟨f0,f1,f2,f3,f4,f5⟩:=wc b g;refine⟨hn b g,by rw[eL];exact fpC b g,?_,.inl (by rw[eX0];exact g),λx c h=>cell_ne b g x c h,λp hp=>f5 p (by rw[ePn,aCn]at hp;exact hp)⟩;rw[eFs];intro z;rcases aAd.mp (I.ab3 b z)with e|z
  .exact f1 e
  .exact f2 z
 have oB:tn 0 y:=T.keep 0 s.heap y st λb g o e=>keep2 b o (keep1 b o e)
 let Iv:Nat->a9->Prop:=λn s'=>∃i af L vs rd,n=ds.length-i/\i<=ds.length/\Inv l [] af (upd L B<|.lst vs) s'/\L B=none/\tn i s'.heap/\(∀b∈N,L b=none)/\EnvOk X.K H9 O0 L O af (i9 own Y ρ)/\Same H L/\
  Reps X.K L O vs rd/\(∃rest,u8 G ft fe (i9 own Y ρ) (ds.drop i)=.ok rest/\rs=rd++rest)/\vs.length<=i
 have loop:gn (bc X.prog X.w) X.A (.compLoop (.ListComp elt [⟨tg,iter,ifs,0⟩] scope pos) 0 (.ref it) (.ref B) (compEnvC scope (dN X scope C) C X.env)) (RR (.ref B) C) {U with heap:=y}:=by
  refine JS Iv ?_ ds.length ⟨0,_,H,[],[],by simp,aAY _,IB,hfr,oB,λb g=>(wc b g).1,KU E,Same.refl H,.nil,⟨rs,by rw[aEY];exact hrs,rfl⟩,aAY _⟩;rintro n s2 ⟨i,sr,L,vs,rd,rfl,hi,I2,yb,lu,fx2,E2,zb,r2,⟨rest,k,wg⟩,hvl⟩;have fr2:∀b∈N,(upd L B<|.lst vs) b=none:=λb g=>by rw[k8 (aAl<|we b g)];exact fx2 b g
  have sU:=j6 yb (.lst vs);have hit:=hJ (upd L B<|.lst vs) (λb=>O b\/b=B) (λb o q n=>⟨sU b o (zb b o q),λz=>z.elim n λz=>by subst z;rw[hfr]at q;cases q⟩) (λa o q z=>z.elim (hO a o q) λz=>by subst z;rw[hkl]at q;cases q) E.trk
   (λa z=>(E2.ae5 (vs:=vs) yb hkl).trk a z) i
  by_cases ao:i<ds.length
  .obtain⟨go,yl⟩:=hit.1 ds[i] (aAh ao);rw[aCS ao,u8]at k;have oo:=T.item l eP eW eK eC i [] s2 sr _ (λ_ _=>False) I2 (fpB fr2) lu go;rw[eA]at oo;refine E6 oo λr s3 z9=>?_;obtain⟨u,hr,h3⟩:=z9;subst hr;refine E6 h3 λ_ s4 z9=>?_;obtain⟨x,H4,I4,ru,y4,st4,fr4⟩:=z9;obtain⟨yc,rep4⟩:=yl x H4 y4;cases e1:G ds[i] (i9 own Y ρ)with
   |ex z=>rw[e1]at k;cases k
   |bad=>rw[e1]at k;cases k
   |ok ρ1=>
    rw[e1]at k;dsimp only at k;have EB:EnvOk X.K H9 O0 H4 (λb=>O b\/b=B) sr (i9 own Y ρ):=(E2.ae5 yb hkl).grow yc;have I4':=I4.pinned (fpB fr4) (T.obj _ _ st4);have again:∀{s7:a9} {qc:St} {t:Hp} {vs7:List V} {rd7:List D} {rest7:List D},Inv l ([]++qE N s4.heap) qc t s7->t B=some (.lst vs7)->EnvOk X.K H9 O0 (T4 t B) O qc (i9 own Y ρ)->Same H (T4 t B)->Reps X.K (T4 t B) O vs7 rd7->
      u8 G ft fe (i9 own Y ρ) (ds.drop<|i+1)=.ok rest7->rs=rd7++rest7->vs7.length<=i+1->∃m,m<ds.length-i/\Iv m s7:=λ{s7 qc t vs7 rd7 rest7} I7 h7 E7 sm7 r7 hr7 hrs7 hv7=>by
     refine⟨ds.length-(i+1),by omega,i+1,qc,T4 t B,vs7,rd7,rfl,ao,?_,EA _ _,T.keep _ _ _ st4 λb g o e=>(I7.pin (b,o)<|aAH _<|aAH _<|cN g e).1,λb g=>?_,E7,sm7,r7,⟨rest7,hr7,hrs7⟩,hv7⟩
     .rw[IQ h7];exact I7.ab1
     .rw[Y7 (aAl<|we b g)];obtain⟨o,e,d⟩:=T.obj _ _ st4 b g;exact(I7.pin (b,o)<|aAH _<|aAH _<|cN g e).2.1
    have hasg:=hG' _ s4 sr H4 x u (λQ H5=>Same H4 H5/\EnvOk X.K H9 O0 H5 (λb=>O b\/b=B) Q ρ1) I4' ru ⟨H9,O0,_,_,ds[i],ρ1,by rw[eK];exact EB,by rw[eK];exact rep4,e1,λQ H5 s5 E5=>⟨s5,by rw[eK]at E5;exact E5⟩⟩;rw[eP,eW,eA,eE,eX]at hasg;refine E6 hasg λ_ s5 z9=>?_;obtain⟨Q,H5,I5,sm5,E5⟩:=z9;have hacc5:H5 B=some (.lst vs):=sm5 B _ (yc B _ j3);cases e2:ft ρ1 with
    |ex z=>rw[e2]at k;cases k
    |bad=>rw[e2]at k;cases k
    |ok b=>
     rw[e2,R.aa0]at k;have htst:=hT' _ s5 Q H5 (λc H6=>c=b/\Same H5 H6) I5 ⟨H9,O0,_,ρ1,by rw[eK];exact E5,by rw[e2];exactλH6 s6=>⟨rfl,s6⟩⟩;rw[eP,eW,eA,eE,eX]at htst;refine E6 htst λok s6 z9=>?_;obtain⟨H6,I6,g,sm6⟩:=z9;subst g;have sm46:Same (upd L B<|.lst vs) H6:=yc.trans (sm5.trans sm6);have hacc6:H6 B=some (.lst vs):=sm6 B _ hacc5;have smx6:Same L (T4 H6 B):=Y3 yb sm46;have W1:CL ρ1 (i9 own Y ρ):=hG _ _ e1;have Eb:∀{t:Hp},Same H5 t->EnvOk X.K H9 O0 (T4 t B) O Q (i9 own Y ρ):=λ{t} s7=>by
      have E7:=(E5.grow s7).weak W1;have h7:t B=some (.lst vs):=s7 B _ hacc5;refine⟨E7.len,E2.same.trans (Y3 yb<|yc.trans<|sm5.trans s7),E2.sub,λa z=>?_,E2.trk0,E2.tab.same (Y3 yb<|yc.trans<|sm5.trans s7),λj sl e=>?_,E7.inj⟩
      .obtain⟨o,q,mt⟩:=E2.trk a z;exact⟨o,Y3 yb (yc.trans<|sm5.trans s7) a o q,mt⟩
      .rcases gS e with rfl|⟨d,_,rfl,_⟩
       .trivial
       .obtain⟨v,h1,h2⟩:=E7.val j d e;exact⟨v,h1,Rep.hidden h7 h2⟩
     cases ok with
     |false=>rw[ka aAP]at k⊢;exact again I6 hacc6 (Eb sm6) (zb.trans smx6) (r2.same smx6) k wg (Nat.le_succ_of_le hvl)
     |true=>
      rw[jk rfl]at k⊢;cases e3:fe ρ1 with
      |ex z=>rw[e3]at k;cases k
      |bad=>rw[e3]at k;cases k
      |ok dv=>
       rw[e3,R.aa0]at k;cases e4:u8 G ft fe (i9 own Y ρ) (ds.drop<|i+1)with
       |ex z=>rw[e4]at k;cases k
       |bad=>rw[e4]at k;cases k
       |ok rest'=>
        rw[e4,R.aa0]at k;have qi:dv::rest'=rest:=R.ok.inj k;have helt:=hE' _ s6 Q H6 (λv t=>Same H6 t/\Rep X.K t (λb=>O b\/b=B) v dv) I6 ⟨H9,O0,_,ρ1,by rw[eK];exact E5.grow sm6,by rw[e3,RC];exactλv t s7 r7=>⟨s7,by rw[eK]at r7;exact r7⟩⟩;rw[eP,eW,eA,eE,eX]at helt;refine E6 helt λuv s7 z9=>?_;obtain⟨v,t,I7,ruv,sm7,r7⟩:=z9;have hacc7:t B=some (.lst vs):=sm7 B _ hacc6;have happ:=tZ (X:=l) _ s7 Q t (.ref B) [v] (.ref B) [uv] (λ_ H8=>H8=upd t B (.lst (vs++[v]))) I7 rfl (.cons ruv .nil) ⟨B,vs,v,rfl,rfl,hacc7,by omega,rfl⟩;rw[eP,eW,eA,eX]at happ;refine E6 happ λ_ s8 z9=>?_;obtain⟨_,H8,I8,_,h8⟩:=z9;subst h8;have hh:T4 (upd t B<|.lst (vs++[v])) B=T4 t B:=by
         funext b
         unfold T4 upd;by_cases g:b=B
         .rw[jk g,jk g]
         .rw[ka g,ka g,ka g]
        have smx7:Same L (T4 t B):=Y3 yb (sm46.trans sm7);refine again (vs7:=vs++[v]) (rd7:=rd++[dv]) (rest7:=rest') I8 j3 (by rw[hh];exact Eb (sm6.trans sm7)) (by rw[hh];exact zb.trans smx7) ?_ e4 (by rw[wg,<-qi,aFj];rfl) (by rw[aAE];exact Nat.succ_le_succ hvl);rw[hh];exact(r2.same smx7).snoc (Rep.hidden hacc7 r7)
  .have gi:i=ds.length:=by omega
   subst gi;have hstop:=hit.2 (by simp);have oo:=T.done l eP eW eK eC ds.length [] s2 sr _ (λ_ _=>False) I2 (fpB fr2) lu hstop;rw[eA]at oo;refine E6 oo λr s3 z9=>?_;obtain⟨hr,I3⟩:=z9;subst hr;rw[aFu,u8]at k;have qi:([]:List D)=rest:=R.ok.inj k;rw[<-qi,aCn]at wg;obtain⟨m,hm,_⟩:=id I3.loc;rw[eL]at hm;have hfin:Same H (upd L B<|.lst vs):=zb.trans sU;refine fin B C s3 (upd L B<|.lst vs) m hm (aCg accC) (by omega) (aAj _) hfin ?_ ⟨L,vs,zb,yb,rfl,by rw[wg];exact r2⟩ (by rw[<-eL];exact I3.free) (λh' ki=>?_)
   .rw[wg];exact .lst (K0.of j3) (E2.fresh yb) (r2.same sU)
   .have hU:Un (AL X.stack) N (upd H B<|.lst []) (upd L B<|.lst vs) U.heap s3.heap:=by have:=I3.base;rw[eFs,eX0,eH0,eS0]at this;exact this
    have hCn:∀b o,U.heap.get? b=some o->b≠C:=λb o e=>by have:=aAg e;rw[hC]at this;exact aAl this
    have hU':Un (AL X.stack) N (upd H B<|.lst []) (upd L B<|.lst vs) U.heap h':=⟨λb o e n g hx=>(ki.2 b (hCn b o e)).trans (hU.keep b o e n g hx),λb o e n g hx=>by
      obtain⟨sl,q⟩:=hU.slot b o e n g hx;exact⟨sl,(ki.2 b (hCn b o e)).trans q⟩,hU.free,λb o e hx=>by
      obtain⟨o',q⟩:=hU.there b o e hx;exact⟨o',(ki.2 b (hCn b o e)).trans q⟩,hU.tups,hU.frzs,hU.tbls⟩
    have hCf:upd L B (.lst vs) C=none:=by rw[<-eL];exact I3.free
    have zc:gN X.prog X.w (upd L B<|.lst vs) h':=λb u e=>by
     have g:b≠C:=by rintro rfl;rw[hCf]at e;cases e
     have:=I3.hok b u e;rw[eP,eW]at this;refine this.ab7 (λc v hc q=>(ki.2 c ?_).trans q) (λ_ q=>q) λ_ _ _ q=>q;rcases hc with z|z
     .rw[z];exact g
     .rintro rfl;rw[hCf]at z;cases z
    have hos:s3.os=U.os:=by have:=I3.os;rw[eS0]at this;exact this
    exact I1.ag0 (s':={s3 with heap:=h'}) (ch:=N) hos hU' zc I3.bare λb g=>by obtain⟨f0,f1,f2,f3,f4,f5⟩:=wc b g;exact⟨f3,f1,f4,f5⟩
 exact codeAny_compStart_list loop (T.self _ 0 _ _ _ oB loop)
def B7 (own N:List Str)(f:List Nat)(hc:X.calm=true)(S:CompSc X b own N f)(hi:WN X U iter Y)(hX:∀(a:O5) (l:List bb) (h:Cx),(∃s9 Ha C,h=KF X a s9 Ha (own++N) b (dN X b C) C l)->RF h U G/\WY h n ft/\PD h o fe)(hG:∀ρ d ρ1,G d (i9 own f ρ)=.ok ρ1->CL ρ1 (i9 own f ρ))(hs:∀x,ff iter X.env x=pure x:=by intro _;rfl):
  PD X (.ListComp o [⟨U,iter,n,0⟩] b pos) (λρ=>(Y ρ).bind λds=>if ds.length<=sizeLine then(u8 G ft fe (i9 own f ρ) ds).bind λc=>.ok (.lst c)else .bad):=by
 refine sG λa s σ H Q I H9 O0 O ρ E q=>?_;dsimp only at q;rw[eval_ListComp];refine wpAny_comprehension_free (use:=none) rfl hs (gJ<|Inv.ab4 I S) S.kind S.names ?_;refine E6 (hi a s σ H (λJ p=>∃ds c,Same H p/\ak X.K J p O ds/\ds.length<=sizeLine/\u8 G ft fe (i9 own f ρ) ds=.ok c/\∀v g,Same H g->Rep X.K g O v (.lst c)->Q v g) I ⟨H9,O0,O,ρ,E,sR I O E.trk,?_⟩) λv s1 h1=>E6 h1 λitv s2 h2=>?_
 .cases t:Y ρ with
  |ex x=>rw[t]at q;exact q
  |bad=>rw[t]at q;exact q
  |ok ds=>
   rw[t,R.aa0]at q;intro J p s1 u;split at q
   .rename_i y;cases k:u8 G ft fe (i9 own f ρ) ds with
    |ex x=>rw[k]at q;exact(q H<|Same.refl _).elim
    |bad=>rw[k]at q;exact q.elim
    |ok c=>rw[k]at q;exact⟨ds,c,s1,u,y,k,q⟩
   .exact q.elim
 .obtain⟨it,l,tn,J,H2,e,I2,T,lu,f2,ds,c,sm,u,y,z,q⟩:=h2;subst e;refine yU (RR:=λB C=>compPost (bc X.prog X.w) X.A X.xe none (EP X a σ Q) B C) hc S (hX a l) (hG ρ) I2 T lu f2 (E.grow sm) u z y ?_;intro B C s' g m hn _ _ _ L r _ _ hI;exact⟨m,hn,λh' ki=>⟨.ref B,g,hI h' ki,rfl,q _ g (sm.trans L) r⟩⟩
end
def _root_.L2.ObjOk.live (x:ObjOk P w H h a o):h.get? a≠none:=by
 intro z;have b:∀{u:Obj},h.get? a=some u->False:=λq=>by rw[z]at q;cases q
 cases o with
 |lst Y=>obtain⟨_,_,_,_,e⟩:=x;exact b e
 |tup Y=>obtain⟨_,_,_,o,e,_⟩:=x;exact b e
 |dK U=>obtain⟨_,_,_,_,o,_,_,e,_⟩:=x;exact b e
 |dT U=>obtain⟨_,_,_,_,o,_,_,e,_⟩:=x;exact b e
 |set S n=>obtain⟨o,_,_,_,e,_⟩:=x;exact b e
 |ins C c fs=>obtain⟨_,_,_,e,_⟩:=x;exact b e
 |own y=>obtain⟨_,e⟩:=x;exact b e
 |xd fs=>obtain⟨_,⟨_,_,_,e,_⟩,_⟩:=x;exact b e
 |rng lo d=>obtain⟨_,_,_,e⟩:=x;exact b e
 |frz g u=>obtain⟨e,_⟩:=x;exact b e
 |tbl k=>obtain⟨_,e,_⟩:=x;exact b e
 |met f y=>exact b (show h.get? a=some _ from x)
 |ext φ=>obtain⟨_,⟨_,e⟩,_⟩:=x;exact b e
section
end
section
variable{P:bt} {w:cq} {K:kc} {mg:dG} {base:cv}
end
section
variable{X:Cx} {E:XK} {st:dm} {rest:List dm} {F:Ev->R Out} {G Ga Gb:Ev->Option ai} {pos:Pos}
end
section
variable{K:kc} {h:cv} {C:bb} {bmB:List ai} {newId:String}
end
section
variable{X:Cx} {E:XK} {pos bf np:Pos} {x:Str} {C:bb} {bmB:List ai} {B newId initId:String}
end
def qk (a:Ev->R Bool)(b:Ev->R D):Ev->R Out:=λρ=>(a ρ).bind λt=>if t=true then(b ρ).bind λd=>.ok (.rt d)else .ok (.nx ρ)
def oq (i j:Nat)(F:Ev->R Out):Ev->R Out:=λρ=>match ρ[i]? with
 |some (.o a)=>G1 (λd ρ=>.ok (ρ.set j<|.v d)) F a ρ
 |_=>.bad
def MF (i j:Nat){x y:Str}{e c:cy}{u:Ev->R Bool}{z:Ev->R D}{px py p1 p2 L:Pos}(hp:PassesOwn (bc X.prog X.w) X.A X.env X.xe)(hc:X.calm=true)(hN:X.N.Nodup)(hT:AH X e u)(hr:PD X c z)(jm:i≠j:=by decide)(hi:X.N[i]?=some y:=by rfl)(hv:BC X.env.scope y:=by first|exact aCw rfl|exact aBE (aCw rfl)|exact aBE (aBE rfl))(hd:(y==kd)=false:=by decide)(fb:(y==ku)=false:=by decide)(hj:X.N[j]?=some x:=by rfl)(hx:Loc X.env.scope x:=by first|exact aCw rfl|exact aBE rfl)(hf:X.fn x=true\/X.env.scope.names.lookup x=some .local:=by first|exact .inl rfl|exact .inr rfl|assumption)(hs:∀x,ff (.Name y py) X.env x=pure x:=by intro _;rfl):
  nM X (.For (.Name x px) (.Name y py) [.If e [.Return (some c) p1] [] p2] [] L) (oq i j (qk u z)):=λh l=>yP (RZ hp hc (GS<|N0 hi hv hd fb) (GQ hN hj hx hf) (kE<|WW hT (kE<|xB hr) GD) hs) λD σ H O ρ E fk q=>by
 unfold oq at q;cases Q:ρ[i]? with
 |none=>rw[Q]at q;exact aAi q
 |some sl=>
  rw[Q]at q;cases sl with
  |o f=>
   obtain⟨a,B,h1,h2,h3,h4,h5⟩:=E.own i f Q;refine⟨.ref a,h1,a,rfl,⟨B,K0.of h4⟩,λk m T n=>m=f.length-k/\k<=f.length/\Same H n/\∃C,EnvOk X.K h l n O T C/\RS X h l n O (G1 (λd ρ=>.ok (ρ.set j<|.v d)) (qk u z) (f.drop k) C) D,⟨f.length,by simp,aAY _,Same.refl _,ρ,E,by rw[aEY];exact q⟩,?_⟩;rintro k m T n ⟨rfl,hk,U,C,E',b⟩;have Y:K0 X.K n a B:=K0.of (U _ _ h4);have rs:=h5.same U;by_cases ao:k<f.length
   .obtain⟨v,g1,g2⟩:=rs.get (aAh ao);refine .inr ⟨⟨B,v,Y,g1⟩,λsr I=>Same H I/\∃J,EnvOk X.K h l I O sr J/\RS X h l I O (G1 (λd ρ=>.ok (ρ.set j<|.v d)) (qk u z) (f.drop<|k+1) J) D,λsr I p=>⟨f.length-(k+1),by omega,rfl,ao,p⟩,λx2 I y2=>?_⟩;obtain⟨rfl,y3⟩:=y2;have:=y3 B Y;rw[g1]at this;cases this;rw[aCS ao,G1]at b;dsimp only at b;have s:=E'.set j g2;refine⟨h,l,O,_,s,?_⟩;unfold qk at b;cases e1:u (C.set j<|.v f[k])with
    |ex x=>rw[e1]at b;exactλH3 g=>b H3 (s.same.trans g)
    |bad=>rw[e1]at b;exact(show False from b).elim
    |ok t=>
     rw[e1,R.aa0]at b;intro H3 g;cases t with
     |true=>
      rw[jk rfl]at b⊢;refine⟨h,l,O,_,s.grow g,?_⟩;cases e2:z (C.set j<|.v f[k])with
      |ex x=>rw[e2]at b;exactλH4 s4=>b H4 (s.same.trans<|g.trans s4)
      |bad=>rw[e2]at b;exact(show False from b).elim
      |ok d=>rw[e2]at b;exactλv H4 s4 r=>b v H4 (s.same.trans<|g.trans s4) (r.sub E.sub)
     |false=>rw[ka aAP]at b⊢;exact⟨U.trans g,_,s.grow g,RS.grow b (Kp.of g)⟩
   .have e:k=f.length:=by omega
    subst e;rw[aFu,G1]at b;exact .inl ⟨⟨B,Y,by rw[rs.length];exact aAj _⟩,b T n O E' fk (Kp.refl _ _)⟩
  |_=>exact aAi q
end
end DL
namespace TS
open PySem PyProof.Rows HT
def uK (f:Bool)(x y:ai):keyLt' (tupK f) x y=(do
 let Y<-aCL x;let a<-aCL y
 for ((p,q),i)in(Y.toList.zip a.toList).zipIdx do
  if !(<-eqBool p q)then return<-oneLt' (f&&i==0) p q
 return decide (Y.size<a.size)):=rfl
def OQ:ai->Sem (Option ai):=sortPriv%PySem.Builtin.firstOfTuple?
def QS:Array ai->Sem (Option ai):=sortPriv%PySem.Builtin.oneTypeOnly
def JO (v:ai):OQ v=(do
 if(<-typeOf v) !=.type "tuple"then return none
 return (<-aCL v)[0]?):=rfl
def RH (vs:Array ai):QS vs=(do
 let a<-vs.mapM typeOf
 match a[0]? with
 |some t=>return if a.all (· ==t)then some t else none
 |none=>return none):=rfl
def BW (a:Array ai):keyKind' a=(do
 let firsts<-a.mapM OQ
 if firsts.all (·.isSome)then
  rule "list.sort.keys-are-tuples"
  return tupK ((<-QS (firsts.filterMap id)).any (· !=.type "tuple"))
 if(firsts[0]?.bind id).isSome then return general'
 return if(<-QS a).isSome then oneType' else general'):=rfl
section
def QV {Q:yG}(f:Bool)(h:Q (decide (a<b)) s):a5 (bc prog w) A (oneLt' f (.int a t) (.int b u)) Q E s:=by
 cases f with
 |true=>exact oneLt_int h
 |false=>rw[oneLt'_eq];simp only[aAt,if_false];exact aAa (zH A s a t b u prog w _ _<|aBG h)
def lt_ints (f:Bool){Q:yG}(hl:IsTup s.heap l items)(hb:IsTup s.heap b v)(hi:IntsAre items.toList ns)(hj:IntsAre v.toList O)(h:Q (HT.lexLt ns O) s):a5 (bc prog w) A (keyLt' (tupK f) (.ref l) (.ref b)) Q E s:=by
 obtain⟨o,ho,hc,n,hd⟩:=hl;obtain⟨o2,kn,jr,n2,T⟩:=hb;have z1:items.size=ns.length:=by rw[<-hi.length];simp
 have z2:v.size=O.length:=by rw[<-hj.length];simp
 rw[uK];refine aAa (aEh ho hd<|aAa<|aEh kn T ?_);refine aAa (aCu _ (λrest b p=>b.1=none/\p=s/\∃(k:Nat) (J L:List ai) (B C:List Int),rest=(J.zip L).zipIdx k/\IntsAre J B/\IntsAre L C/\B.length+v.size=C.length+items.size/\Q (HT.lexLt B C) s)
  (λb p=>p=s/\(∀c,b.1=some c->Q c s)/\(b.1=none->Q (decide (items.size<v.size)) s)) ?turn ?fin _ _ ⟨rfl,rfl,0,items.toList,v.toList,ns,O,rfl,hi,hj,by lia,h⟩|>λz=>aCF z ?post λ_ _ e=>e)
 case post=>
  rintro⟨b1,b2⟩ p ⟨rfl,q1,q2⟩;cases b1 with
  |none=>exact aAb (q2 rfl)
  |some c=>exact aAb (q1 c rfl)
 case fin=>
  rintro⟨b1,b2⟩ p ⟨je,rfl,k,J,L,B,C,m,U,N,d,g⟩;refine⟨rfl,λc e=>(by rw[je]at e;cases e),λ_=>?_⟩;cases U with
  |nil=>
   cases N with
   |nil=>rw[aO]at g;simp only[aBL]at d;rw[decide_eq_false (by lia)];exact g
   |cons c u hw=>rw[N8]at g;simp only[aBL,aAw]at d;rw[decide_eq_true (by lia)];exact g
  |cons a t hv=>
   cases N with
   |nil=>rw[C7]at g;simp only[aBL,aAw]at d;rw[decide_eq_false (by lia)];exact g
   |cons c u hw=>rw[aBV,aEp]at m;cases m
 case turn=>
  rintro⟨⟨y,x⟩,i⟩ rest b p ⟨je,rfl,k,J,L,B,C,m,U,N,d,g⟩;cases U with
  |nil=>rw[List.zip_nil_left,aEC]at m;cases m
  |cons a t H=>
   cases N with
   |nil=>rw[List.zip_nil_right,aEC]at m;cases m
   |cons c u I=>
    rw[aBV,aEp]at m;injection m with r ah;injection r with r Y;injection r with hy hx;subst hy hx Y;rw[G2]at g;simp only[aAw]at d;obtain⟨e,he,vp⟩:=yS A p a t c u;refine aAa (he prog w _ _ ?_);cases e with
    |true=>rw[jk (vp.mp rfl)]at g;exact aAb ⟨rfl,rfl,_,_,_,_,_,ah,H,I,by lia,g⟩
    |false=>rw[ka (λq=>absurd (vp.mpr q) aAP)]at g;exact aAa (QV _ (aAb ⟨rfl,λc e=>(by cases e;exact g),λe=>(by cases e)⟩))
end
section
theorem GZ {α β:Type}{M:Model}{f:α->Sem β}(g:α->β):∀(Y:List α) {Q:List β->a9->Prop},(∀x∈Y,∀{Q:β->a9->Prop},Q (g x) s->a5 M A (f x) Q E s)->Q (Y.map g) s->a5 M A (Y.mapM f) Q E s
 |[],Q,_,q=>by rw[List.mapM_nil];exact aAb q
 |x::Y,Q,h,q=>by rw[List.mapM_cons];exact aAa (h x (.head _) (aAa (GZ g Y (λy a=>h y (.tail _ a)) (aAb q))))
def GT {α β:Type}{M:Model}{f:α->Sem β}(g:α->β)(Y:List α){Q:Array β->a9->Prop}(h:∀x∈Y,∀{Q:β->a9->Prop},Q (g x) s->a5 M A (f x) Q E s)(q:Q (Y.map g).toArray s):a5 M A (Y.toArray.mapM f) Q E s:=by rw[List.mapM_toArray];show a5 M A (List.toArray<$>Y.mapM f) Q E s;rw[map_eq_pure_bind];exact aAa (GZ g Y h<|aAb q)
def kind_tuples {vs:List ai}{f:Bool}{T:String}{Q:SortKind->a9->Prop}(b:ai->ai)(h:∀x∈vs,∃a items,x=.ref a/\IsTup s.heap a items/\items[0]?=some (b x)/\s.TypeIs (b x) T)(g:vs≠[])(k:f=(aCq T !=aCq "tuple"))
  (q:Q (tupK f) s):a5 (bc prog w) A (keyKind' vs.toArray) Q E s:=by
 rw[BW];refine aAa (GT (λx=>some (b x)) vs (λx c {Q} d=>?_) ?_)
 .obtain⟨a,items,rfl,⟨o,e,l,n,m⟩,p,_⟩:=h x c;rw[JO];refine aAa (aDQ (T:= "tuple") ⟨o,e,l⟩ ?_);rw[ka (by simp)];refine aAa (aEh e m ?_);rw[p];exact aAb d
 .have r:((vs.map λx=>some (b x)).toArray.all λx=>x.isSome)=true:=by simp
  have t:(vs.map λx=>some (b x)).toArray.filterMap id=(vs.map b).toArray:=by
   rw[List.filterMap_toArray,aDn];congr 1;induction vs with
   |nil=>rfl
   |cons v vs C=>simp
  simp only[r,if_true,t];refine aAa (aDz ?_);refine aAa ?_;rw[RH];refine aAa (GT (λ_=>aCq T) (vs.map b) (λx c {Q} d=>?_) ?_)
  .obtain⟨y,u,rfl⟩:=aAp.mp c;obtain⟨_,_,_,_,_,z⟩:=h y u;exact aDQ z d
  .cases vs with
   |nil=>exact absurd rfl g
   |cons v vs=>
    simp only[aAv,aBn];have B:((aCq T::aCz ((λ_=>aCq T)∘b) vs).toArray.all λx=>x==aCq T)=true:=by simp
    simp only[aCO,aDe,B,if_true];refine aAb (aAb ?_);rw[k]at q;exact q
end
theorem lex_irrefl:∀a:List Int,HT.lexLt a a=false
 |[]=>rfl
 |x::Y=>by rw[G2,jk rfl];exact lex_irrefl Y
theorem lex_total:∀a b:List Int,HT.lexLt a b=false->HT.lexLt b a=false->a=b
 |[],[],_,_=>rfl
 |[],_::_,h,_=>by rw[N8]at h;cases h
 |_::_,[],_,h=>by rw[N8]at h;cases h
 |x::Y,y::f,c,d=>by
  rw[G2]at c d;by_cases e:x=y
  .subst e;rw[jk rfl]at c d;rw[lex_total Y f c d]
  .rw[ka e]at c;rw[ka (aCg e)]at d;have:=of_decide_eq_false c;have:=of_decide_eq_false d;omega
theorem lex_trans:∀a b c:List Int,HT.lexLt a b=true->HT.lexLt b c=true->HT.lexLt a c=true
 |[],[],_,h,_=>by rw[aO]at h;cases h
 |[],_::_,[],_,h=>by rw[C7]at h;cases h
 |[],_::_,_::_,_,_=>rfl
 |_::_,[],_,h,_=>by rw[C7]at h;cases h
 |_::_,_::_,[],_,h=>by rw[C7]at h;cases h
 |x::Y,y::k,z::l,f,d=>by
  rw[G2]at f d⊢;by_cases e:x=y
  .subst e;rw[jk rfl]at f;by_cases g:x=z
   .subst g;rw[jk rfl]at d⊢;exact lex_trans Y k l f d
   .rw[ka g]at d⊢;exact d
  .rw[ka e]at f;have m:=of_decide_eq_true f;by_cases g:y=z
   .subst g;rw[ka e];exact f
   .rw[ka g]at d;have n:=of_decide_eq_true d;rw[ka (by omega)];exact decide_eq_true (by omega)
theorem GY:∀a b c:List Int,HT.lexLt a c=true->HT.lexLt a b=true\/HT.lexLt b c=true
 |[],[],_,h=>.inr h
 |[],_::_,_,_=>.inl rfl
 |_::_,_,[],h=>by rw[C7]at h;cases h
 |_::_,[],_::_,_=>.inr rfl
 |x::Y,y::f,z::g,h=>by
  rw[G2]at h;rw[G2,G2];by_cases e:x=y
  .subst e;rw[jk rfl];by_cases d:x=z
   .subst d;rw[jk rfl]at h⊢;exact GY Y f g h
   .rw[ka d]at h⊢;exact .inr h
  .rw[ka e];by_cases l:x<y
   .exact .inl (decide_eq_true l)
   .refine .inr ?_;by_cases d:x=z
    .subst d;rw[ka (aCg e)];exact decide_eq_true (by omega)
    .rw[ka d]at h;have:=of_decide_eq_true h;rw[ka (by omega)];exact decide_eq_true (by omega)
open Classical in
def kV (vs:List ai) (key:ai->List Int):KeyKind where
 α:=List Int
 blt:=HT.lexLt
 irrefl:=lex_irrefl
 trans:=lex_trans
 negTrans:=GY
 total:=lex_total
 keyOf:=λv=>if v∈vs then some (key v)else none
 dflt:=[]
open Classical in
def WL (h:v∈vs):(kV vs key).keyOf v=some (key v):=jk h
open Classical in
def XC (e:(kV vs key).keyOf v=some l):v∈vs/\key v=l:=by
 have a:(if v∈vs then some (key v)else none)=some l:=e;split at a
 .rename_i h;cases a;exact⟨h,rfl⟩
 .cases a
def oP (vs:List ai):(pairsOf vs).toList=vs.map λv=>(v,v):=by
 unfold pairsOf;rw[List.zip_toArray];show vs.zip vs=_;induction vs with
 |nil=>rfl
 |cons v vs a=>rw[aBV,aAv,a]
section
def JV {a:bb}{vs:List ai}{n:Nat}{f:Bool}{key:ai->List Int}{P:Fin->a9->Prop}(I:s.heap.get? a=some (seqObj "list" vs.toArray n))
  (J:∀c,kz a s c->∀x∈vs,∀y∈vs,∀(prog:bt) (w:cq) (E:E8) {Q:yG},Q (HT.lexLt (key x) (key y)) c->a5 (bc prog w) A (keyLt' (tupK f) x y) Q E c)
  (L:2<=vs.length->∀c,kz a s c->∀{Q:SortKind->a9->Prop},Q (tupK f) c->a5 (bc prog w) A (keyKind' vs.toArray) Q E c) (g:vs.length<64)
  (h:∀m:List ai,m.Perm vs->m.Pairwise (λx y=>HT.lexLt (key y) (key x)=false)->P (.done (.ret .none)) {s with heap:=sortedHeap s.heap a vs m.toArray}):
  a5 (bc prog w) A (Builtin.«list.sort» ⟨[.ref a],[]⟩) P E s:=by
 refine zK (κ:=kV vs key) (f:=f) I (λp e=>?_) (λc o prog w E x y k l Q N O q=>?_) (λT c o {Q} q=>L T c o q) g λb d U=>?_
 .rw[oP]at e;obtain⟨v,r,rfl⟩:=aAp.mp e;exact⟨key v,WL r⟩
 .obtain⟨Y,t⟩:=XC N;obtain⟨m2,u⟩:=XC O;subst t u;exact J c o x Y y m2 prog w E q
 .have B:(arrOf b).toList.Perm (vs.map λv=>(v,v)):=by rw[<-oP];exact aEK.mp d
  have same:∀p∈(arrOf b).toList,p.1=p.2/\p.2∈vs:=λp e=>by obtain⟨v,r,rfl⟩:=aAp.mp (B.mem_iff.mp e);exact⟨rfl,r⟩
  have ea:(arrOf b).map (·.2)=((arrOf b).toList.map (·.2)).toArray:=by apply Array.ext';simp
  rw[ea];refine h _ ?_ ?_
  .have:=B.map (·.2);rw[aBn,show((λx:ai×ai=>x.2)∘λv=>(v,v))=id from rfl,List.map_id]at this;exact this
  .rw[aCk];intro i j hi hj jm;have gi:i<(arrOf b).size:=by simpa using hi
   have C:j<(arrOf b).size:=by simpa using hj
   have z:(arrOf b).size=(pairsOf vs).size:=d.size_eq;have q:=U i j (aDu jm) (by rw[<-z];exact C);have kk:∀k (H:k<(arrOf b).size),KK (kV vs key) (arrOf b) k=key (arrOf b)[k].2:=λk H=>by unfold KK;rw[getElem?_pos _ k H];obtain⟨t,u⟩:=same (arrOf b)[k] (by simp);show((kV vs key).keyOf (arrOf b)[k].1).getD _=_;rw[t,WL u];rfl
   rw[kk i gi,kk j C]at q;rw[aEq,aEq,aFT,aFT];exact q
def sorted_keys {x:ai}{vs:List ai}{f:Bool}{key:ai->List Int}{Q:E8}{C:a9->Prop}(v:∀{r:List ai->a9->Prop},(∀s',C s'->r vs s')->a5 (bc prog w) A.in1 (collect x) r E s)
  (z:∀s',C s'->∀a,(∀b o,s'.heap.get? b=some o->a.heap.get? b=some o)->∀x∈vs,∀y∈vs,∀(prog:bt) (w:cq) (t:cp) (E:E8) (O:t.units<=A.units+5) {Q:yG},Q (HT.lexLt (key x) (key y)) a->a5 (bc prog w) t (keyLt' (tupK f) x y) Q E a)
  (B:2<=vs.length->∀s',C s'->∀a,(∀b o,s'.heap.get? b=some o->a.heap.get? b=some o)->∀(A:cp) {Q:SortKind->a9->Prop},Q (tupK f) a->a5 (bc prog w) A (keyKind' vs.toArray) Q E a) (k:vs.length<64)
  (h:∀(s':a9) (d:List ai) (h':cv) (l:bb),C s'->d.Perm vs->d.Pairwise (λx y=>HT.lexLt (key y) (key x)=false)->(∀b o,s'.heap.get? b=some o->h'.get? b=some o)->s'.heap.objs.size<=l->(∃n,h'.get? l=some (seqObj "list" d.toArray n))->Q (.ref l) {s' with heap:=h'}):
  a5 (bc prog w) A (call (.builtin "sorted") [x]) Q E s:=by
 refine Calls.call_function_entry kind_sorted plain_sorted entry_sorted (args_sorted1 _) ?_;unfold Builtin.«sorted»;refine aAa (m:=checkCount "sorted" 1 1 _) (aAb ?_);refine aAa (v λs' p=>?_);refine aAa (wpAny_newList ?_);have c:(s'.heap.push<|seqObj "list" vs.toArray 0).get? s'.heap.objs.size=some (seqObj "list" vs.toArray 0):=aAo _ rfl;have u:∀a,kz s'.heap.objs.size {s' with heap:=s'.heap.push (seqObj "list" vs.toArray 0)} a->∀b o,s'.heap.get? b=some o->a.heap.get? b=some o:=λa g b o e=>g b o (aAl<|aAg e) (aAc _ e);refine aAa (aAK (aBh slot_list_sort ⟨_,c,rfl⟩ entry_list_sort (JV (key:=key) (f:=f) c (λa g x H y I prog w E {Q} q=>z s' p a (u a g) x H y I prog w _ E (by simp) q) (λJ a g {Q} q=>B J s' p a (u a g) _ q) k λd L N=>⟨_,rfl,?_⟩)<|args_list_sort _));refine aAb ⟨_,rfl,h s' d _ _ p L N (λb o e=>?_) (aAj _) (sortedHeap_at c)⟩;rw[sortedHeap_old (aAl<|aAg e) (by rw[aBy];exact aBz (aAg e))];exact aAc _ e
end
end TS
namespace DL
open PySem PySem.Spec L2
open PyProof.Rows hiding St
variable [Tabs]
omit [Tabs]in
def zA {ns:List Int}(h:PySem.W.WData.layableAll [PySem.W.WData.list (ns.map PySem.W.WData.int)]=true):∀x∈ns,aAV x<=1048576:=λx a=>by
 have b:=(PySem.W.layW_cons h).1;have c:=PySem.W.layableW_item b (.int x) (aAp.mpr ⟨x,a,rfl⟩);have d:=PySem.W.lay0_int c;have e:PyData.layable0 (.int x)=true:=by simpa[PyData.layableAll0]using d
 exact PyData.bits_of_layable e
def u6 (P:bt)(w:cq)(K:kc)(mg:dG)(base:cv)(k:Nat)(x:Str)(n:Nat)(m:List D->R D):Prop:=
 ∃g a b,FnOk P w K mg base tV k g a b (lq K n m)/\Binds K a b []/\PySem.W.keepIn K (.ref g)=true/\mg x=some (.ref g)
def DV (f:Ev->R (List D))(n:Nat):Prop:=∀ρ a,f ρ=.ok a->a.length=n
def R6:DV R5 0:=λρ a h=>by cases h;rfl
def w8 (h:DV g n):DV (q8 f g) (n+1):=λρ k e=>by
 unfold q8 at e;cases b:f ρ with
 |ok d=>
  rw[b,R.aa0]at e;cases a:g ρ with
  |ok c=>rw[a]at e;cases e;rw[aAw,h ρ c a]
  |ex x=>rw[a]at e;cases e
  |bad=>rw[a]at e;cases e
 |ex x=>rw[b]at e;cases e
 |bad=>rw[b]at e;cases e
section
def wC (c:u6 X.prog X.w X.K X.mg X.base k x n m)(d:Room k X.A)(h:KR X (e::es) f)(l:DV f n)(o:Gl X x:=by rfl)(q:(x==kd)=false:=by decide)(r:av (e::es) X.env=(false,d3 e X.env)::av es X.env:=by rfl)(s:(dq a (av es X.env)).any (·.1)=false:=by rfl):
  PD X (.Call (.Name x p) (e::es) [] a) (λρ=>(f ρ).bind m):=by
 obtain⟨g,u,v,F,b,t,em⟩:=c;exact VX F d em t b h l o q r s
end
def YW {P:bt}{w:cq}{K:kc}{mg:dG}{base:cv}{x qual:Str}{st:dm}{f:bb}{fd:ek}{N ps:List Str}{k:Nat}{m:List D->R D}{F:Ev->R Out}(b:Fun K x qual st f fd)(S:FnScope N ps (c6 st))(c:Binds K fd ps [])(e:mg x=some (.ref f))
  (g:∀(T:ai) (A:cp) (a:List Env) (s:a9) (H:Hp) (E:XK),Room k (A.deeper (envOfC qual (c6 st) s.heap.objs.size f T))->cE (SH P w K mg base N qual (c6 st) f T A a s H E) (t6 st) F)
  (h:∀ds d,ds.length=ps.length->m ds=.ok d->N6 (F (j2 N ds))=.ok d):u6 P w K mg base (k+1) x ps.length m:=
 ⟨f,fd,ps,fnD b S g h,c,b.kp,e⟩
def k9:∀d ρ1,(R.ok ((i9 [x] a ρ).set 0 (Sl.v d)):R Ev)=.ok ρ1->CL ρ1 (i9 [x] a ρ):=λd ρ1 h=>by
 cases h;refine⟨by simp,λi c h b=>?_⟩;cases i with
 |zero=>exact absurd (by simpa[i9]using h.symm) b
 |succ i=>rw[aCV (by lia)];exact h
def DC (sc:i6)(N:List Str)(a:i6)(c:List Str)(b:List Nat):Bool:=
 decide (a.kind=.function)&&a.names.all (λy=>decide (y.2=.free->(y.1,aBZ)∉a.names))&&a.names.all (λy=>decide (y.2=.local->a.names.lookup y.1=some .local))&&
 a.names.all (λy=>decide (y.2=.free->sc.names.lookup y.1=some .cell\/sc.names.lookup y.1=some .free))&&decide (b.length=c.length)&&(b.zip c).all (λp=>decide (N[p.1]?=some p.2/\(p.2,NameKind.free)∈a.names))&&decide b.Nodup&&
 a.names.all (λy=>decide (y.2=.free->a.names.lookup y.1=some .free))
def C0 (b:X.env.scope=sc:=by rfl)(c:X.N=N:=by rfl)(h:DC sc N a d e=true:=by decide+kernel):CompSc X a own d e:=by simp only[DC,aAM,aBt,decide_eq_true_eq]at h;obtain⟨⟨⟨⟨⟨⟨⟨f,g⟩,k⟩,l⟩,m⟩,n⟩,o⟩,p⟩:=h;subst b c;refine⟨f,g,k,l,m,λi j x q r=>?_,o,p⟩;refine n (j,x) (aAn (i:=i) ?_);rw[aBv];exact⟨q,r⟩
def HS (h:DC X.env.scope X.N a b c=true:=by first|kernel_rfl|with_unfolding_all rfl):CompSc X a own b c:=C0 rfl rfl h
end DL
namespace DL.Att2
open PySem PySem.W PySem.Calls PyProof.Rows
def attach_bits {l:OpenLaw}{n:Nat}{q:bt}{b:List Str}{v:(Str->Option ai)->cv->Prop}{y:cq->cv->Prop}{d:DefRec}
  (C:l.most=some n) (p:d.params.defaults=[])
  (call:∀(w:cq) (s c:a9) (mg t:dG) (fa:bb) (o:Obj) (u cd g:ai) (a:bb) (vs:List ai) (ns:List Int),
   Ground q b [] v w s mg t c.heap->y w c.heap->
   c.heap.get? fa=some o->o.data=.func (docDef d.name d.params d.body d.scope u cd g)->c.heap.CodeRec cd d.name->mg d.name=some (.ref fa)->
   c.heap.get? a=some {cls:=.type "list",data:=.seq vs.toArray}->IntsAre vs ns->ns.length<=n->(∀x∈ns,aAV x<=1048576)->c.gens=#[]->
   gn (bc l.prog w) callerA (.call (.ref fa) ⟨[.ref a],[]⟩) (λr s'=>r=.ok (.ret (.bool true))/\OldK c.heap s'.heap/\s'.os=c.os/\AllBare s'.gens) c):
  WalkO q b v y l.row.toRowW d [] (λf vs=>PySem.call f vs):=by
 intro w s c mg t G Y fa o u cd g E kV H I J z L N A B as O e Q T U;obtain rfl:E=.none:=Dflts.none z p;obtain rfl:kV=.none:=Dflts.noKw z;obtain⟨a,vs,ns,rfl,rfl,k,h,m⟩:=Att.script_of C O T;have hb:=DL.zA (ns:=ns) (by first|exact e|exact e.1|(simpa using e));refine enter_call (aDP (call w s c mg t fa o u cd g a vs ns G Y H (fd_plain I) J L k h m hb N) λr s' hq=>?_);obtain⟨rfl,h2,h3,h4⟩:=hq;exact⟨.inl ⟨.bool true,.bool true,[],rfl,λ_=>rfl,.bool true,Att.post_true l _,λ_=>⟨aGm,λ_ hm=>(nomatch hm)⟩⟩,h2,h3,h4⟩
end DL.Att2
namespace DL
open PySem PySem.Spec L2
open PyProof.Rows hiding St
variable [Tabs]
end DL
namespace DL
open PySem L2
abbrev bits (a:Int):Nat:=aAV a
def i7 (h:m6 a b):U6 (.int a) (.int b)=.ok (.int (a*b)):=jk h
def V7 (h:uC b):N5 (.int a) (.int b)=.ok (.int (a.fdiv b)):=jk h
def qI (h:b≠0):V4 (.int a) (.int b)=.ok (.int (a.fmod b)):=jk h
def zI (h:0<=b/\b<=1000000/\a.natAbs<2^64):KM (.int a) (.int b)=.ok (.int (a^b.toNat)):=jk h
def m6.of (c:bits a<=m)(d:bits b<=n)(e:m<=60000000:=by decide)(f:n<=60000000:=by decide):m6 a b:=⟨aAr c e,aAr d f⟩
def bits_add (c:bits a<=n)(d:bits b<=n):bits (a+b)<=n+1:=by have:=PyProof.Rows.bits_add c d;rw[Nat.max_self]at this;exact this
def bits_sub (c:bits a<=n)(d:bits b<=n):bits (a-b)<=n+1:=by have:=PyProof.Rows.bits_sub c d;rw[Nat.max_self]at this;exact this
def bits_mul (c:bits a<=m)(d:bits b<=n):bits (a*b)<=m+n:=PyProof.Rows.bits_mul c d
def bits_neg (b:bits a<=m):bits (-a)<=m:=PyProof.Rows.bits_neg b
def HQ (h:a.natAbs<2^n):bits a<=n:=PyProof.Rows.intBits_le h
def FR (h:bits a<=n):a.natAbs<2^n:=PyProof.Rows.lt_pow_of_bits h (aAj n)
@[simp]def Q9 (d:D)(ρ:Ev):T0 0 (Sl.v d::ρ)=.ok d:=rfl
@[simp]def Z0 (i:Nat)(x:Sl)(ρ:Ev):T0 (i+1) (x::ρ)=T0 i ρ:=rfl
@[simp]def uZ (d:D)(ρ:Ev):rJ 0 (Sl.v d::ρ)=.ok d:=rfl
@[simp]def CT (d:List D)(ρ:Ev):rJ 0 (Sl.o d::ρ)=.ok (.lst d):=rfl
@[simp]def jC (i:Nat)(x:Sl)(ρ:Ev):rJ (i+1) (x::ρ)=rJ i ρ:=rfl
@[simp]def oN (d:D)(ρ:Ev):XE d ρ=.ok d:=rfl
@[simp]def A6 (ρ:Ev)(F:Ev->R Out):D9 (.ok (.nx ρ)) F=F ρ:=rfl
@[simp]def zk (d:D)(F:Ev->R Out):D9 (.ok (.rt d)) F=.ok (.rt d):=rfl
@[simp]def a0w (d:D):N6 (.ok (.rt d))=.ok d:=rfl
@[simp]def a0r (ρ:Ev):N6 (.ok (.nx ρ))=.ok .non:=rfl
@[simp]def X5 (f:Ev->R D)(g:Ev->R (List D))(ρ:Ev):q8 f g ρ=(f ρ).bind λd=>(g ρ).bind λds=>.ok (d::ds):=rfl
@[simp]def cP (ρ:Ev):R5 ρ=.ok []:=rfl
@[simp]def a2x (a b:D):dF [a,b]=.ok (.tup [a,b]):=rfl
@[simp]def a3r (a b c:D):dF [a,b,c]=.ok (.tup [a,b,c]):=rfl
@[simp]def a3x (a b c d:D):dF [a,b,c,d]=.ok (.tup [a,b,c,d]):=rfl
@[simp]def a3q:rN []=.ok (.lst []):=rfl
@[simp]def a3h (a b c:D):rN [a,b,c]=.ok (.lst [a,b,c]):=rfl
@[simp]def a3f (x y z:D):T8 (.tup [x,y,z]) (.int 0)=.ok x:=rfl
@[simp]def a3u (x y z:D):T8 (.tup [x,y,z]) (.int 1)=.ok y:=rfl
@[simp]def a3o (x y z:D):T8 (.tup [x,y,z]) (.int 2)=.ok z:=rfl
@[simp]def a3n (x y z t:D):T8 (.tup [x,y,z,t]) (.int 0)=.ok x:=rfl
@[simp]def a3p (x y z t:D):T8 (.tup [x,y,z,t]) (.int 1)=.ok y:=rfl
@[simp]def a3l (x y z t:D):T8 (.tup [x,y,z,t]) (.int 2)=.ok z:=rfl
@[simp]def a3a (x y z t:D):T8 (.tup [x,y,z,t]) (.int 3)=.ok t:=rfl
@[simp]def a3v (x y:D):T8 (.tup [x,y]) (.int 0)=.ok x:=rfl
@[simp]def a3z (x y:D):T8 (.tup [x,y]) (.int 1)=.ok y:=rfl
def O7 (h:rG Y i=some d):T8 (.lst Y) (.int i)=.ok d:=by simp only[T8,h]
def MH {Y:List D}{i:Int}{d:D}(h:rG Y i=some d):T8 (.tup Y) (.int i)=.ok d:=by simp only[T8,h]
@[simp]def a0p (a b:Int):jF (.int a) (.int b)=.ok (.int (a+b)):=rfl
@[simp]def wX (a b:Int):RJ (.int a) (.int b)=.ok (.int (a-b)):=rfl
@[simp]def a1o (a b:Int):ltR (.int a) (.int b)=.ok (.bl (decide (a<b))):=rfl
@[simp]def EH (a b:Int):leR (.int a) (.int b)=.ok (.bl (decide (a<=b))):=rfl
@[simp]def xA (a b:Int):ZO (.int a) (.int b)=.ok (.bl (decide (b<a))):=rfl
@[simp]def a1a (a:Int):jw (.int a)=.ok (.int (-a)):=rfl
@[simp]def FP (b:Bool):qZ (.bl b)=.ok b:=rfl
@[simp]def a3w (b:Int):toI (.int b)=.ok (some b):=rfl
@[simp]def EY (Y:List D):IM [.lst Y]=.ok (.int Y.length):=rfl
@[simp]def a2i (Y:List D):IM [.tup Y]=.ok (.int Y.length):=rfl
@[simp]def NN (a:Int):yy [.int a]=.ok (.int (if a<0 then-a else a)):=rfl
@[simp]def wE (f g:Ev->R Bool)(ρ:Ev):OY f g ρ=(f ρ).bind λb=>if b=true then g ρ else .ok false:=rfl
@[simp]def a2p (f g:Ev->R Bool)(ρ:Ev):orB f g ρ=(f ρ).bind λb=>if b=true then .ok true else g ρ:=rfl
@[simp]def a0j (f:Ev->R Bool)(ρ:Ev):a0h f ρ=(f ρ).bind λb=>.ok (!b):=rfl
@[simp]def a0q (f g:Ev->R D)(ρ:Ev):pj f g ρ=((f ρ).bind qZ).bind λb=>if b=true then g ρ else .ok (.bl false):=rfl
@[simp]def a1k (a b:Int):DI (.int a) (.int b)=.ok (.bl (a==b)):=by simp only[DI,B5,u7];rfl
@[simp]def OJ (a b:Int):xT (.int a) (.int b)=.ok (.bl (!(a==b))):=by simp only[xT,B5,u7];rfl
@[simp]def aw (a b c d e f:Int):DI (.tup [.int a,.int b,.int c]) (.tup [.int d,.int e,.int f])=.ok (.bl (a==d&&(b==e&&c==f))):=by simp[DI,B5,z6,u7,S7]
@[simp]def mI (a b c d e f:Int):xT (.tup [.int a,.int b,.int c]) (.tup [.int d,.int e,.int f])=.ok (.bl (!(a==d&&(b==e&&c==f)))):=by simp[xT,B5,z6,u7,S7]
@[simp]def kj (a:Int):rP "int" (.int a)=true:=rfl
@[simp]def gq (a:Int):rP "bool" (.int a)=false:=rfl
@[simp]def WO (a:List D):rP "tuple" (.tup a)=true:=rfl
def aL {α:Type}{Y:List α}{k:Int}(h0:0<=k):rG Y k=Y[k.toNat]?:=by
 unfold rG IN;rw[jk h0];by_cases h:k<Y.length
 .rw[jk h];rfl
 .rw[ka h,aBM.mpr (by omega)];rfl
def M8 (n:Nat)(Y:List D):Prop:=∀x∈Y,∃i,x=.int i/\bits i<=n
def WH {n:Nat}{ns:List Int}(h:∀x∈ns,bits x<=n):M8 n (ns.map D.int):=λx a=>by obtain⟨i,b,rfl⟩:=aAp.mp a;exact⟨i,rfl,h i b⟩
def tL (g:Int->Int)(Y:List D)(k:Int):D:=match Y[k.toNat]? with
 |some d=>d
 |none=>.int (g k)
def KE (h:M8 n Y)(g:Int->Int)(k:Int):∃i,tL g Y k=.int i/\(bits i<=n\/i=g k):=by
 unfold tL;cases e:Y[k.toNat]? with
 |none=>exact⟨_,rfl,.inr rfl⟩
 |some d=>obtain⟨i,rfl,a⟩:=h d (aAn e);exact⟨i,rfl,.inl a⟩
def K9 (b:-((2:Int)^n)<a)(c:a<(2:Int)^n):bits a<=n:=HQ (by
 have e:((2^n:Nat):Int)=(2:Int)^n:=by simp
 omega)
def bits_fmod {a b:Int}{n:Nat}(h0:b≠0)(c:bits b<=n):bits (a.fmod b)<=n:=PyProof.Rows.bits_fmod_by h0 c
def bits_fdiv (c:bits a<=n):bits (a.fdiv b)<=n:=PyProof.Rows.bits_fdiv c
def v9 (h:bits a<=m)(b:m<=n:=by decide):bits a<=n:=aAr h b
@[simp]def a4i:dW [.int 3]=.ok [.int 0,.int 1,.int 2]:=rfl
@[simp]def lZ (Y:List D):M3 (.lst Y)=.ok Y:=rfl
@[simp]def uT (Y:List D):FH (.tup Y)=.ok Y:=rfl
@[simp]def ZP (G:D->Ev->R Ev)(ft:Ev->R Bool)(fe:Ev->R D)(ρ:Ev):u8 G ft fe ρ []=.ok []:=rfl
@[simp]def ez (i:Nat)(ft:Ev->R Bool)(fe:Ev->R D)(ρ:Ev)(d:D)(ds:List D):u8 (λd ρ=>.ok (ρ.set i (Sl.v d))) ft fe ρ (d::ds)=(ft (ρ.set i (Sl.v d))).bind λb=>if b=true then(fe (ρ.set i (Sl.v d))).bind λr=>(u8 (λd ρ=>.ok (ρ.set i (Sl.v d))) ft fe ρ ds).bind λa=>.ok (r::a)else u8 (λd ρ=>.ok (ρ.set i (Sl.v d))) ft fe ρ ds:=rfl
@[simp]def a0m (d:D):seen (.v d)=.v d:=rfl
def WT (x:D)(r:List D):T8 (.tup (x::r)) (.int 0)=.ok x:=MH (by rw[aL (by decide)];rfl)
def XT (x y:D)(r:List D):T8 (.tup (x::y::r)) (.int 1)=.ok y:=MH (by rw[aL (by decide)];rfl)
def WZ (x y z:D)(r:List D):T8 (.tup (x::y::z::r)) (.int 2)=.ok z:=MH (by rw[aL (by decide)];rfl)
theorem iF (Iv:Nat->Ev->Prop)(d:∀n ρ,Iv (n+1) ρ->c ρ=.ok false\/(c ρ=.ok true/\∃ρ2,F ρ=.ok (.nx ρ2)/\Iv n ρ2))(a:∀ρ,¬Iv 0 ρ):∀n ρ,Iv n ρ->∃m b,T2 c F n ρ=.ok (.nx b)/\Iv m b/\c b=.ok false
 |0,ρ,h=>absurd h (a ρ)
 |n+1,ρ,h=>by
  rcases d n ρ h with e|⟨e,ρ2,f,g⟩
  .exact⟨n+1,ρ,by rw[T2,e];rfl,h,e⟩
  .obtain⟨m,b,k,l,o⟩:=iF Iv d a n ρ2 g;exact⟨m,b,by rw[T2,e];simp only[R.aa0,if_true,f];exact k,l,o⟩
def II {Iv:Nat->Ev->Prop}(f:∀n ρ,Iv (n+1) ρ->c ρ=.ok false\/(c ρ=.ok true/\∃ρ2,F ρ=.ok (.nx ρ2)/\Iv n ρ2))(h0:Iv n ρ)(g:∀n a,Iv n a->c a=.ok false->N6 (k a)=.ok d)(b:∀ρ,¬Iv 0 ρ:=by(intro ρ;rintro⟨x,y,_,z,_⟩;omega)):
  N6 (D9 (T2 c F n ρ) k)=.ok d:=by
 obtain⟨m,a,e,h,l⟩:=iF Iv f b n ρ h0;rw[e];exact g m a h l
end DL
namespace DL
open PySem PySem.Spec L2
open PyProof.Rows hiding St
section
variable [Tabs]
section
variable{K:kc}
def EnvOk.ad8 (E:EnvOk K d e H O σ ρ)(i:Nat)(h:H a=none)(c:K.lookup a=none)(r:Reps K H O vs Y):
  EnvOk K d e (upd H a (.lst vs)) (λb=>O b\/b=a) (σ.set i (some (.ref a))) (ρ.set i (.o Y)):=
 E.ad9 i h c trivial λf=>⟨a,vs,rfl,.inr rfl,f,j3,r.ab8 h c⟩
def EnvOk.disown (E:EnvOk K d f H O σ ρ)(e:ρ[i]?=some (.o Y)):∃c,EnvOk K d f H c σ (ρ.set i (.v (.lst Y)))/\(∀b,c b->O b):=by obtain⟨a,l,g,m,n,h,k⟩:=E.own i Y e;exact⟨λb=>O b/\b≠a,E.ae7 e trivial g (λz=>z) ⟨.ref a,rfl,.lst (K0.of h) (λz=>z.2 rfl) (k.sub λ_ z=>z.1)⟩,λb z=>z.1⟩
def EnvOk.write (E:EnvOk K k l H O σ ρ)(e:ρ[i]?=some (.o Y))(b:σ[i]?=some (some (V.ref a)))(r:Reps K H O c d):
  EnvOk K k l (upd H a (.lst c)) O σ (ρ.set i (.o d))/\Kp H O (upd H a (.lst c)) O:=by
 obtain⟨f,q,m,g,n,h,s⟩:=E.own i Y e;have p:f=a:=by rw[m]at b;cases b;rfl
 subst p;exact E.ae4 e trivial b h trivial trivial λ_ _ _=>⟨f,c,rfl,g,n,j3,r.upd h trivial g⟩
end
section
def tF (X:Cx)(f:Ev->R (List D)):TE:=λσ H Q=>∃g h O ρ,EnvOk X.K g h H O σ ρ/\match f ρ with
 |.ok k=>∀c b a,Same H b->b a=none->Reps X.K b O c k->Q (.ref a) (upd b a<|.lst c)
 |.ex e=>∀d,Same H d->XW X e d
 |.bad=>False
def PF (X:Cx)(e:cy)(f:Ev->R (List D)):Prop:=PE X e (tF X f)
def MA (I:Inv X b σ H s)(h:H a=some o):X.K.lookup a=none:=by
 cases e:X.K.lookup a with
 |none=>rfl
 |some c=>have:=(I.bs a c<|I.ok.mod.kin a c e).2;rw[h]at this;cases this
def PF.pd (h:PF X e f):PD X e (λρ=>(f ρ).bind λds=>.ok (.lst ds)):=SA h λσ H Q g k O ρ E q=>⟨g,k,O,ρ,E,by
 dsimp only at q;cases b:f ρ with
 |ok ds=>rw[b]at q;intro l m a d c r;exact q _ _ (d.trans<|j6 c _) (.lst (K0.of j3) ((E.grow d).fresh c) (r.same<|j6 c _))
 |ex x=>rw[b]at q;exact q
 |bad=>rw[b]at q;exact q⟩
def qO (h:KR X es f):PF X (.List es d) (λρ=>(f ρ).bind λds=>if ds.length<=sizeLine then .ok ds else .bad):=
 SA (QF h) λσ H Q e g O ρ E q=>⟨e,g,O,ρ,E,by
  dsimp only at q;cases a:f ρ with
  |ok ds=>
   rw[a,R.aa0]at q;intro k l m c;by_cases b:ds.length<=sizeLine
   .rw[jk b]at q;exact⟨by rw[c.length];exact b,λp n=>q k l p m n c⟩
   .rw[ka b]at q;exact aAi q
  |ex x=>rw[a]at q;exact q
  |bad=>rw[a]at q;exact q⟩
def fJ (i:Nat)(L:PF X e f)(Q:X.N.Nodup)(T:X.N[i]?=some x:=by rfl)(U:Loc X.env.scope x:=by first|exact aCw rfl|exact aBE rfl)(Y:eZ e (some (.Name x g)) p.line X.env=pure false:=by rfl)(hf:X.fn x=true\/X.env.scope.names.lookup x=some .local:=by first|exact .inl rfl|exact .inr rfl|assumption):
  nM X (.Assign [.Name x g] e p) (λρ=>(f ρ).bind λds=>.ok (.nx (ρ.set i (.o ds)))):=by
 rintro w A h s σ H D I ⟨O,ρ,E,fk,q⟩;dsimp only at q;refine aFf (E6 (L h s σ H (λv B=>∃d c a ds,v=.ref a/\B=upd c a (.lst d)/\Same H c/\c a=none/\Reps X.K c O d ds/\RS X w A H O (.ok (.nx (ρ.set i<|.o ds))) D) I ⟨w,A,O,ρ,E,?_⟩) λv C z9=>?_) Y
 .cases k:f ρ with
  |ok ds=>rw[k,R.aa0]at q;exactλd c a C l r=>⟨d,c,a,ds,rfl,rfl,C,l,r,q⟩
  |ex x=>rw[k]at q;exactλH' s=>q H' (E.same.trans s)
  |bad=>rw[k]at q;exact q
 .obtain⟨y,B,t,r2,d,c,a,ds,k,e2,m,l,r,q'⟩:=z9;subst k e2;refine R4 t Q T U r2 (λs3 I3=>⟨_,_,I3,?_⟩) hf;have hk:=MA t (j3 (H:=c) (a:=a) (o:=.lst d));have J:=(E.grow m).ad8 i l hk r;refine q' _ _ _ J (sR t _ J.trk) ?_;exactλb o u n=>⟨by rw[k8 (t9 (m b o u) l)];exact m b o u,λz=>z.elim n (t9 (m b o u) l)⟩
def BE (i:Nat)(ρ:Ev):Ev:=match ρ[i]? with
 |some (.o Y)=>ρ.set i (.v (.lst Y))
 |_=>ρ
def FY (i:Nat){st:dm}(h:nM X st F):nM X st (λρ=>F (BE i ρ)):=by
 intro g k f s σ H D I ⟨O,ρ,E,l,q⟩;dsimp only at q;unfold BE at q;cases e:ρ[i]? with
 |none=>rw[e]at q;exact h g k f s σ H D I ⟨O,ρ,E,l,q⟩
 |some p=>
  rw[e]at q;cases p with
  |x C=>exact h g k f s σ H D I ⟨O,ρ,E,l,q⟩
  |c m φ=>exact h g k f s σ H D I ⟨O,ρ,E,l,q⟩
  |d U=>exact h g k f s σ H D I ⟨O,ρ,E,l,q⟩
  |no=>exact h g k f s σ H D I ⟨O,ρ,E,l,q⟩
  |v d=>exact h g k f s σ H D I ⟨O,ρ,E,l,q⟩
  |o Y=>obtain⟨r,t,sub⟩:=E.disown e;exact h g k f s σ H D I ⟨r,_,t,λa o u z=>l a o u (sub a z),RS.grow q λb o w n=>⟨w,λz=>n (sub b z)⟩⟩
def AD (i:Nat)(ρ:Ev)(d:D):R Out:=match ρ[i]? with
 |some (.o Y)=>if Y.length<sizeLine then .ok (.nx (ρ.set i<|.o (Y++[d])))else .bad
 |_=>.bad
def W4 (i:Nat)(A:PD X e f)(B:X.N[i]?=some x:=by rfl)(I:BC X.env.scope x:=by first|exact aCw rfl|exact aBE (aCw rfl)|exact aBE (aBE rfl))(J:(x==kd)=false:=by decide)(L:(x==ku)=false:=by decide)(Q:gW (.Name x p) "append" X.env (d3 (.Name x p) X.env)=d3 (.Name x p) X.env:=by rfl)(T:((dq g (av [e] X.env)).all (λx=>!x.1)&&(backToKw g (keywordEach [] X.env)).all (λx=>x.1.isSome)
   &&decide ([e].length+([]:List Keyword).length+(if([]:List Keyword).isEmpty then 0 else 1)<30))=true:=by rfl) (eh:(b.endLine==g.line)=true:=by rfl) (s:av [e] X.env=(false,d3 e X.env)::av [] X.env:=by rfl) (jt:(dq g (av [] X.env)).any (·.1)=false:=by rfl) (wo:eZ (.Call (.Attribute (.Name x p) "append" b) [e] [] g) none n.line X.env=pure false:=by rfl):
  nM X (.Expr (.Call (.Attribute (.Name x p) "append" b) [e] [] g) n) (λρ=>(f ρ).bind (AD i ρ)):=λH9 O0=>
 yP (oA (XB PySem.F.plainAttrs_list PySem.F.slot_list_append PySem.F.type_list_append tZ (N0 B I J L) (f9 A m9 s) Q T eh s jt) wo) λD σ H O ρ E fk q=>by
 cases k:f ρ with
 |ok d=>
  rw[k,R.aa0]at q;unfold AD at q;cases h:ρ[i]? with
  |none=>rw[h]at q;exact aAi q
  |some t=>
   rw[h]at q;cases t with
   |x C=>exact aAi q
   |c m φ=>exact aAi q
   |d U=>exact aAi q
   |no=>exact aAi q
   |v d=>exact aAi q
   |o Y=>
    dsimp only at q;split at q
    .rename_i hz;obtain⟨a,u,w,h2,h3,y,z⟩:=E.own i Y h;refine⟨_,w,.inl ⟨rfl,u,K0.of y⟩,H9,O0,O,ρ,E,?_⟩;show IG X H O ((f ρ).bind λd=>(R.ok []).bind λds=>.ok (d::ds)) _;rw[k];intro us H1 l r;cases r with
     |cons r rn=>cases rn;have E1:=E.grow l;refine⟨a,u,_,rfl,rfl,l _ _ y,by rw[z.length];exact hz,?_⟩;obtain⟨E2,k2⟩:=E1.write h w ((z.same l).snoc r);exact q σ _ O E2 fk ((Kp.of l).trans k2)
    .exact aAi q
 |ex x=>
  rw[k]at q;cases h:ρ[i]? with
  |none=>exact(q H E.same).elim
  |some t=>exact(q H E.same).elim
 |bad=>rw[k]at q;exact aAi q
def ZG (i:Nat)(ρ:Ev)(d:D):R Out:=match ρ[i]?,d with
 |some (.o Y),.lst a=>if Y.length+a.length<=sizeLine then .ok (.nx (ρ.set i<|.o (Y++a)))else .bad
 |_,_=>.bad
def EC (i:Nat)(ρ:Ev):R (D×Ev):=match ρ[i]? with
 |some (.o Y)=>match Y[Y.length-1]? with
  |some d=>.ok (d,ρ.set i (.o Y.dropLast))
  |none=>.bad
 |_=>.bad
def VT (i:Nat)(s:X.N[i]?=some x:=by rfl)(t:BC X.env.scope x:=by first|exact aCw rfl|exact aBE (aCw rfl)|exact aBE (aBE rfl))(u:(x==kd)=false:=by decide)(w:(x==ku)=false:=by decide)(y:gW (.Name x p) "pop" X.env (d3 (.Name x p) X.env)=d3 (.Name x p) X.env:=by rfl)(A:(b.endLine==k.line)=true:=by rfl)(B:eZ (.Call (.Attribute (.Name x p) "pop" b) [] [] k) none f.line X.env=pure false:=by rfl):
  nM X (.Expr (.Call (.Attribute (.Name x p) "pop" b) [] [] k) f) (λρ=>(EC i ρ).bind λz=>.ok (.nx z.2)):=λH9 O0=>
 yP (oA (QH PySem.F.plainAttrs_list PySem.F.slot_list_pop PySem.F.type_list_pop RL (N0 s t u w) y A) B) λD σ H O ρ E I q=>by
 unfold EC at q;cases e:ρ[i]? with
 |none=>rw[e]at q;exact aAi q
 |some J=>
  rw[e]at q;cases J with
  |x C=>exact aAi q
  |c m φ=>exact aAi q
  |d U=>exact aAi q
  |no=>exact aAi q
  |v d=>exact aAi q
  |o Y=>
   dsimp only at q;cases g:Y[Y.length-1]? with
   |none=>rw[g]at q;exact aAi q
   |some d=>rw[g]at q;obtain⟨a,l,n,h2,h3,r,h⟩:=E.own i Y e;obtain⟨v,L,g2⟩:=h.get g;refine⟨_,n,.inl ⟨rfl,l,K0.of r⟩,a,l,v,rfl,rfl,r,by rw[h.length];exact L,?_⟩;obtain⟨Q,T⟩:=E.write e n h.dropLast;exact q σ _ O Q I T
def EU (j i:Nat)(f:X.N.Nodup)(jm:i≠j:=by decide)(A:X.N[i]?=some x:=by rfl)(B:X.N[j]?=some y:=by rfl)(I:BC X.env.scope x:=by first|exact aCw rfl|exact aBE (aCw rfl)|exact aBE (aBE rfl))(J:(x==kd)=false:=by decide)(L:(x==ku)=false:=by decide)(Q:gW (.Name x p) "pop" X.env (d3 (.Name x p) X.env)=d3 (.Name x p) X.env:=by rfl)(T:(b.endLine==n.line)=true:=by rfl)(g:Loc X.env.scope y:=by first|exact aCw rfl|exact aBE rfl)(wo:eZ (.Call (.Attribute (.Name x p) "pop" b) [] [] n) (some (.Name y py)) h.line X.env=pure false:=by rfl)(hf:X.fn y=true\/X.env.scope.names.lookup y=some .local:=by first|exact .inl rfl|exact .inr rfl|assumption):
  nM X (.Assign [.Name y py] (.Call (.Attribute (.Name x p) "pop" b) [] [] n) h) (λρ=>(EC i ρ).bind λz=>.ok (.nx (z.2.set j (.v z.1)))):=λH9 O0=>
 yP (OB f B g (QH PySem.F.plainAttrs_list PySem.F.slot_list_pop PySem.F.type_list_pop RL (N0 A I J L) Q T) wo hf) λD σ H O ρ E r q=>by
 unfold EC at q;cases e:ρ[i]? with
 |none=>rw[e]at q;exact aAi q
 |some sl=>
  rw[e]at q;cases sl with
  |x C=>exact aAi q
  |c m φ=>exact aAi q
  |d U=>exact aAi q
  |no=>exact aAi q
  |v d=>exact aAi q
  |o Y=>
   dsimp only at q;cases k:Y[Y.length-1]? with
   |none=>rw[k]at q;exact aAi q
   |some d=>rw[k]at q;obtain⟨a,s,t,h2,h3,u,l⟩:=E.own i Y e;obtain⟨v,g1,g2⟩:=l.get k;refine⟨_,t,.inl ⟨rfl,s,K0.of u⟩,a,s,v,rfl,rfl,u,by rw[l.length];exact g1,?_⟩;obtain⟨E2,w⟩:=E.write e t l.dropLast;exact q _ _ O (E2.set j<|w.rep E.trk r g2) r w
def ZV (i:Nat)(ρ:Ev)(k d:D):R Out:=match ρ[i]?,k with
 |some (.o Y),.int k=>match IN Y.length k with
  |some j=>.ok (.nx (ρ.set i<|.o (Y.set j d)))
  |none=>.bad
 |_,_=>.bad
def KW (i:Nat)(Q:PD X e f)(T:PD X k g)(hN:X.N[i]?=some x:=by rfl)(hv:BC X.env.scope x:=by first|exact aCw rfl|exact aBE (aCw rfl)|exact aBE (aBE rfl))(hd:(x==kd)=false:=by decide)(fb:(x==ku)=false:=by decide)(ha:∀v,h9 (.Subscript (.Name x p) k ps) X.env v=(do
   let h<-gh [v] (d3 (.Name x p) X.env)
   let t<-gh [v,h] (d3 k X.env)
   standAt ps
   gh [v,h,t] (setItem h t v)
   release [v,h,t] []):=by intro _;rfl) (hs:gs [.Subscript (.Name x p) k ps] e u.line X.env=pure false:=by rfl) (hw:gv [.Subscript (.Name x p) k ps] e X.env=pure none:=by rfl) (l:(et [.Subscript (.Name x p) k ps] X.env).map (·.2)=[h9 (.Subscript (.Name x p) k ps) X.env]:=by rfl):
  nM X (.Assign [.Subscript (.Name x p) k ps] e u) (λρ=>(f ρ).bind λd=>(g ρ).bind λw=>ZV i ρ w d):=λB I=>
 yP (EG Q (OM (N0 hN hv hd fb) T QK ha) hs hw l) λD σ H O ρ E fk q=>⟨B,I,O,ρ,E,by
  cases y:f ρ with
  |ok d=>
   rw[y,R.aa0]at q;intro v H1 J r1;have z:=E.grow J;cases n:g ρ with
   |ok w=>
    rw[n,R.aa0]at q;unfold ZV at q;cases r:ρ[i]? with
    |none=>rw[r]at q;exact aAi q
    |some sl=>
     rw[r]at q;cases sl with
     |x C=>exact aAi q
     |c m φ=>exact aAi q
     |d U=>exact aAi q
     |no=>exact aAi q
     |v d=>exact aAi q
     |o Y=>
      obtain⟨a,vs,l,h2,h3,h4,L⟩:=z.own i Y r;refine⟨_,l,B,I,O,ρ,z,?_⟩;rw[n];intro kv H2 b r2;have E2:=z.grow b;cases w with
      |int kk=>
       dsimp only at q;cases A:IN Y.length kk with
       |none=>rw[A]at q;exact aAi q
       |some j=>rw[A]at q;cases r2;refine⟨a,vs,kk,j,rfl,rfl,b _ _ h4,by rw[L.length];exact A,?_⟩;obtain⟨E3,k3⟩:=E2.write r l ((L.same b).set (r1.same b) j);exact q σ _ O E3 fk (((Kp.of J).trans (Kp.of b)).trans k3)
      |_=>exact aAi q
   |ex x=>rw[n]at q;exact(q H E.same).elim
   |bad=>rw[n]at q;exact aAi q
  |ex x=>rw[y]at q;exactλH' s=>q H' (E.same.trans s)
  |bad=>rw[y]at q;exact q⟩
def uP (i:Nat)(own fr:List Str)(U:List Nat)(hN:X.N.Nodup)(hc:X.calm=true)(S:CompSc X f own fr U)(hi:WN X tg iter fi)(hX:∀(g:O5) (fp:List bb) (X':Cx),(∃s9 Ha C,X'=KF X g s9 Ha (own++fr) f (dN X f C) C fp)->RF X' tg G/\WY X' l ft/\PD X' t fe)(hG:∀ρ d ρ1,G d (i9 own U ρ)=.ok ρ1->CL ρ1 (i9 own U ρ))(hy:X.N[i]?=some y:=by rfl)(Y:X.env.scope.names.lookup y=some .local:=by rfl)(wo:eZ (.ListComp t [⟨tg,iter,l,0⟩] f pos) (some (.Name y py)) spos.line X.env=pure true:=by rfl)(hs:∀x,ff iter X.env x=pure x:=by intro _;rfl):
  nM X (.Assign [.Name y py] (.ListComp t [⟨tg,iter,l,0⟩] f pos) spos) (λρ=>((fi ρ).bind λds=>if ds.length<=sizeLine then(u8 G ft fe (i9 own U ρ) ds).bind λh=>R.ok h else .bad).bind λh=>.ok (.nx (ρ.set i (.o h)))):=by
 rintro H9 O0 g s σ H D I ⟨O,ρ,E,fk,q⟩;dsimp only at q;rw[exec_Assign_Name_used _ _ _ _ wo];refine aAa (aEv<|aAa ?_);show a5 _ X.A (do let _<-comprehension (.ListComp t [⟨tg,iter,l,0⟩] f pos) f X.env _ (newList []) false (d3 iter X.env) (some<|h9 (.Name y py) X.env)) _ _ s;refine aAa (aCF (wpAny_comprehension_free (use:=some (h9 (.Name y py) X.env)) (Q:=λ_ u=>SP X g D .next u) rfl hs (gJ<|Inv.ab4 I S) S.kind S.names ?_) (λ_ u hq=>aAb (aAb hq)) λ_ _ e=>e);refine E6 (hi g s σ H (λJ H1=>∃ds h,Same H H1/\ak X.K J H1 O ds/\ds.length<=sizeLine/\u8 G ft fe (i9 own U ρ) ds=.ok h/\RS X H9 O0 H O (.ok (.nx (ρ.set i<|.o h))) D) I ⟨H9,O0,O,ρ,E,sR I O E.trk,?_⟩) λv s1 h1=>E6 h1 λitv s2 h2=>?_
 .cases e1:fi ρ with
  |ex x=>rw[e1]at q;exactλH' s=>q H' (E.same.trans s)
  |bad=>rw[e1]at q;exact q
  |ok ds=>
   rw[e1,R.aa0]at q;intro J H1 s1 hJ;split at q
   .rename_i hl;cases e2:u8 G ft fe (i9 own U ρ) ds with
    |ex x=>rw[e2]at q;exact(q H E.same).elim
    |bad=>rw[e2]at q;exact q.elim
    |ok h=>rw[e2]at q;exact⟨ds,h,s1,hJ,hl,e2,q⟩
   .exact q.elim
 .obtain⟨it,fp,tn,J,H2,e,I2,T,lu,f2,ds,h,sm,hJ,hl,hrs,q⟩:=h2;subst e;refine yU (RR:=λB C=>compPost (bc X.prog X.w) X.A X.xe (some<|h9 (.Name y py) X.env) (λ_ u=>SP X g D .next u) B C) hc S (hX g fp) (hG ρ) I2 T lu f2 (E.grow sm) hJ hrs hl ?_;intro B C u H' m hn hCa k has sm' r nw hC hI;have I3:=hI u.heap (aGr ..);show a5 _ X.A (h9 (.Name y py) X.env<|.ref B) _ _ u;refine wpAny_assign_Name (tR (i:=i) (v:=.ref B) I3 hN hy (.inl Y) rfl (λs4 I4 z9=>?_)<|.inr Y);obtain⟨a,hsb,ha⟩:=z9;have iu:∀x c,X.env.cells.lookup x=some c->c≠C:=λx c hc=>by obtain⟨v,hv⟩:=I2.cell x c hc;exact aAl (aAu hv.lt k)
  have hCL:C≠X.env.locals:=aCC (aAu I2.lt k);have hCa2:C≠a:=by
   rcases ha with ha|ha
   .rw[ha];exact hCL
   .exact aCg (iu y a ha)
  refine⟨m,hn.sameBut hsb hCa2,λh' ki=>?_⟩;obtain⟨H1,vs,ze,L,eH,rr⟩:=nw;subst eH;have E2:=((E.grow sm).grow ze).ad8 i L (MA I3<|j3 (H:=H1) (a:=B) (o:=.lst vs)) rr;refine⟨_,_,?_,q _ _ _ E2 (sR I3 _ E2.trk) λb o hb n=>⟨by rw[k8 (t9 ((sm.trans ze) b o hb) L)];exact(sm.trans ze) b o hb,λz=>z.elim n (t9 ((sm.trans ze) b o hb) L)⟩⟩;exact I4.turned (t':=s4.toks) (it:=C) (λb o hb e=>(ki.2 b hb).trans e) hC hCL (.inr (aAr I2.sz k)) iu λp hp=>aAl (aAu (aAg (I2.pin p hp).1) k)
def kM (i:Nat)(own s:List Str)(f:List Nat)(hN:X.N.Nodup)(hc:X.calm=true)(S:CompSc X c own s f)(t:WN X u iter Q)(hX:∀(g:O5) (fp:List bb) (p:Cx),(∃s9 Ha C,p=KF X g s9 Ha (own++s) c (dN X c C) C fp)->RF p u G/\WY p h ft/\PD p l fe)(hG:∀ρ d ρ1,G d (i9 own f ρ)=.ok ρ1->CL ρ1 (i9 own f ρ))(hy:X.N[i]?=some y:=by rfl)(w:X.env.scope.names.lookup y=some .local:=by rfl)(wo:eZ (.ListComp l [⟨u,iter,h,0⟩] c A) (some (.Name y py)) m.line X.env=pure true:=by rfl)(hs:∀x,ff iter X.env x=pure x:=by intro _;rfl):
  nM X (.Assign [.Name y py] (.ListComp l [⟨u,iter,h,0⟩] c A) m) (λρ=>((Q ρ).bind λds=>if ds.length<=sizeLine then(u8 G ft fe (i9 own f ρ) ds).bind λr=>.ok (D.lst r)else .bad).bind λd=>.ok (.nx (ρ.set i (.v d)))):=λT U=>yP (uP i own s f hN hc S t hX hG hy w wo hs T U) λD σ H O ρ E fk q=>⟨O,ρ,E,fk,by
 dsimp only at q⊢;cases B:Q ρ with
 |ex x=>rw[B]at q;exact q
 |bad=>rw[B]at q;exact q
 |ok ds=>
  rw[B,R.aa0]at q;rw[R.aa0];by_cases hl:ds.length<=sizeLine
  .rw[jk hl]at q⊢;cases I:u8 G ft fe (i9 own f ρ) ds with
   |ex x=>rw[I]at q;exact q
   |bad=>rw[I]at q;exact q
   |ok r=>
    rw[I]at q;intro af H' O' J f' L;by_cases t:i<ρ.length
    .obtain⟨O2,E2,sub⟩:=J.disown (i:=i) (Y:=r) (by rw[aBB t]);rw[List.set_set]at E2;exact q af H' O2 E2 (λa o k z=>f' a o k (sub a z)) λb o hb n=>⟨(L b o hb n).1,λz=>(L b o hb n).2 (sub b z)⟩
    .have e:∀x,ρ.set i x=ρ:=λx=>List.set_eq_of_length_le (by lia);have q:RS X T U H O (.ok (.nx (ρ.set i<|.v (.lst r)))) D:=q;rw[e]at J q;exact q af H' O' J f' L
  .rw[ka hl]at q;exact aAi q⟩
def kZ {st:dm}:nM X st (λ_=>.bad):=λa b=>yP OF λD σ H O ρ E c q=>q
end
end
section
theorem cH {α β:Type}[BEq α][LawfulBEq α]:∀{l:List (α×β)} {a:α} {b:β},(l.map (·.1)).Nodup->(a,b)∈l->l.lookup a=some b
 |(x,y)::l,a,b,h,d=>by
  rw[aAv,aAI]at h;rw[aBb];rcases aAd.mp d with e|c
  .cases e;simp
  .have:(a==x)=false:=by rw[beq_eq_false_iff_ne];rintro rfl;exact h.1 (aAp.mpr ⟨(a,b),c,rfl⟩)
   rw[this];exact cH h.2 c
theorem mem_lookup {α β:Type}[BEq α][LawfulBEq α]:∀{l:List (α×β)} {a:α} {b:β},l.lookup a=some b->(a,b)∈l
 |(x,y)::l,a,b,h=>by
  rw[aBb]at h;split at h
  .rename_i q;cases h;rw[eq_of_beq q];exact .head _
  .exact .tail _ (mem_lookup h)
def vO (o:Obj):Prop:=∃v,o.data=.cell v
def dZ (H:Hp)(cs:O5):Hp:=λb=>match cs.lookup b with
 |some o=>some (.frz o (.own b))
 |none=>H b
def R7 (H:Hp)(cs:O5):Hp:=λb=>match cs.lookup b with
 |some _=>none
 |none=>H b
section
variable{K:kc}
def fR (e:cs.lookup b=some o):dZ H cs b=some (.frz o (.own b)):=by unfold dZ;rw[e]
def R8 (e:cs.lookup b=none):dZ H cs b=H b:=by unfold dZ;rw[e]
def bZ (e:cs.lookup b=some o):R7 H cs b=none:=by unfold R7;rw[e]
def M0 (e:cs.lookup b=none):R7 H cs b=H b:=by unfold R7;rw[e]
def F3 (a:∀b o,cs.lookup b=some o->H b=none)(e:H b=some u):dZ H cs b=some u:=by
 cases q:cs.lookup b with
 |none=>rw[R8 q];exact e
 |some o=>rw[a b o q]at e;cases e
def fO (a:∀b o,cs.lookup b=some o->H b=none):Same H (dZ H cs):=λb u e=>F3 a e
def w9 (a:∀b o,cs.lookup b=some o->H b=some (.frz o (.own b)))(e:H b=some u)(ne:∀o,cs.lookup b=some o->u≠.frz o (.own b)):R7 H cs b=some u:=by
 cases q:cs.lookup b with
 |none=>rw[M0 q];exact e
 |some o=>rw[a b o q]at e;cases e;exact absurd rfl (ne o q)
def QP (x:gN P w H h)(a:∀b o,cs.lookup b=some o->h.get? b=some o/\H b=none):gN P w (dZ H cs) h:=λb u e=>by
 have d:∀b o,cs.lookup b=some o->H b=none:=λb o q=>(a b o q).2;cases q:cs.lookup b with
 |some o=>rw[fR q]at e;cases e;exact⟨(a b o q).1,⟨o,(a b o q).1⟩⟩
 |none=>rw[R8 q]at e;exact(x b u e).ab7 (λ_ _ _ z=>z) (λc z=>F3 d z) λc u _ z=>F3 d z
def NS (x:gN P w H h)(d:∀b o,cs.lookup b=some o->H b=some (.frz o (.own b))/\vO o):gN P w (R7 H cs) h:=λb u e=>by
 have g:∀b o,cs.lookup b=some o->H b=some (.frz o (.own b)):=λb o q=>(d b o q).1;cases q:cs.lookup b with
 |some o=>rw[bZ q]at e;cases e
 |none=>rw[M0 q]at e;refine(x b u e).ab7 (λ_ _ _ z=>z) (λc z=>w9 g z λo _ a=>by cases a) λc u f z=>w9 g z λo q a=>?_;subst a;obtain⟨m,l⟩:=f;obtain⟨v,k⟩:=(d c o q).2;rw[l]at k;cases k
def YX (U:Un fs [] (dZ H cs) f h h')(k:gN P w f h')(g:∀b o,cs.lookup b=some o->h.get? b=some o/\H b=none/\vO o):Un fs [] H (R7 f cs) h h'/\gN P w (R7 f cs) h'/\∀b o,cs.lookup b=some o->f b=some (.frz o (.own b)):=by
 have l:∀b o,cs.lookup b=some o->H b=none:=λb o q=>(g b o q).2.1;have a:∀b o,cs.lookup b=some o->f b=some (.frz o (.own b)):=λb o q=>U.frzs b o _ (fR q);refine⟨⟨λb o e n m c=>?_,λb o e n m c=>?_,λb o e n c=>?_,λb o e c=>U.there b o e c,λb Y e=>?_,λb o u e=>?_,λb p e=>?_⟩,NS k λb o q=>⟨a b o q,(g b o q).2.2⟩,a⟩
 .cases q:cs.lookup b with
  |none=>exact U.keep b o e (by rw[R8 q];exact n) m c
  |some d=>have:=(g b d q).1;rw[e]at this;cases this;exact(k b _<|a b o q).1
 .cases q:cs.lookup b with
  |none=>exact U.slot b o e (by rw[R8 q];exact n) m c
  |some d=>have:=(g b d q).1;rw[e]at this;cases this;exact⟨o.slots,(k b _<|a b o q).1⟩
 .cases q:cs.lookup b with
  |none=>rw[M0 q];exact U.free b o e (by rw[R8 q];exact n) c
  |some d=>exact bZ q
 .exact w9 a (U.tups b Y<|F3 l e) λo _ z=>by cases z
 .refine w9 a (U.frzs b o u<|F3 l e) λd q z=>?_;rw[l b d q]at e;cases e
 .exact w9 a (U.tbls b p<|F3 l e) λo _ z=>by cases z
def aq (U:Un fs [] (R7 H cs) d h h')(k:gN P w d h')(g:∀b o,cs.lookup b=some o->h.get? b=some o/\H b=some (.frz o (.own b))/\b∉fs):Un fs [] H (dZ d cs) h h'/\gN P w (dZ d cs) h'/\Same d (dZ d cs):=by
 have l:∀b o,cs.lookup b=some o->H b=some (.frz o (.own b)):=λb o q=>(g b o q).2.1;have f:∀b o,cs.lookup b=some o->d b=none:=λb o q=>U.free b o (g b o q).1 (bZ q) (by simp);have p:∀b o,cs.lookup b=some o->h'.get? b=some o:=λb o q=>U.keep b o (g b o q).1 (bZ q) (g b o q).2.2 (by simp);have a:∀b,H b=none->cs.lookup b=none:=λb n=>by
  cases q:cs.lookup b with
  |none=>rfl
  |some o=>rw[l b o q]at n;cases n
 refine⟨⟨λb o e n m c=>U.keep b o e (by rw[M0 (a b n)];exact n) m c,λb o e n m c=>U.slot b o e (by rw[M0 (a b n)];exact n) m c,λb o e n c=>?_,λb o e c=>U.there b o e c,λb Y e=>?_,λb o u e=>?_,λb r e=>?_⟩,
  QP k λb o q=>⟨p b o q,f b o q⟩,fO f⟩
 .rw[R8 (a b n)];exact U.free b o e (by rw[M0 (a b n)];exact n) c
 .exact F3 f (U.tups b Y (w9 l e λo _ z=>by cases z))
 .cases q:cs.lookup b with
  |none=>exact F3 f (U.frzs b o u (by rw[M0 q];exact e))
  |some s=>rw[l b s q]at e;cases e;exact fR q
 .exact F3 f (U.tbls b r (w9 l e λo _ z=>by cases z))
def FU (c:∀b o,cs.lookup b=some o->H b=some (.frz o (.own b)))(q:X1 K H a Y):X1 K (R7 H cs) a Y:=by
 rcases q with(q|⟨o,q⟩)|q
 .exact .inl (.inl (w9 c q λo _ z=>by cases z))
 .exact .inl (.inr ⟨o,w9 c q λo _ z=>by cases z⟩)
 .exact .inr q
def FN (c:∀b o,cs.lookup b=some o->H b=some (.frz o (.own b)))(q:K0 K H a Y):K0 K (R7 H cs) a Y:=by
 rcases q with(q|⟨o,q⟩)|q
 .exact .inl (.inl (w9 c q λo _ z=>by cases z))
 .exact .inl (.inr ⟨o,w9 c q λo _ z=>by cases z⟩)
 .exact .inr q
def FD {cs:O5}{φ:cv->Prop}(a:∀b o,cs.lookup b=some o->H b=some (.frz o (.own b)))(q:H b=some (.ext φ)):R7 H cs b=some (.ext φ):=by
 unfold R7;cases e:cs.lookup b with
 |none=>simpa[e]using q
 |some o=>have:=a b o e;rw[q]at this;cases this
def Rep.hid (a:∀b o,cs.lookup b=some o->H b=some (.frz o (.own b)))(r:Rep K H O v d):Rep K (R7 H cs) O v d:=r.mono (λ_ _ q=>FU a q) (λ_ _ n q=>⟨n,FN a q⟩) λb φ n q=>⟨n,FD a q⟩
def Reps.hid (a:∀b o,cs.lookup b=some o->H b=some (.frz o (.own b)))(r:Reps K H O v d):Reps K (R7 H cs) O v d:=r.mono (λ_ _ q=>FU a q) (λ_ _ n q=>⟨n,FN a q⟩) λb φ n q=>⟨n,FD a q⟩
end
variable [Tabs]
section
variable(P:bt) (w:cq) (K:kc) (mg:dG) (base:cv) (k:Nat)
def LK (n:Nat)(m:List D->R D)(H:Hp)(O:bb->Prop)(a:bb):Prop:=
 (∃h l p q,H a=some (.frz ⟨h,l,.func p,q⟩ (.own a)))/\
 ∀(A:cp) (b:List Env) (s:a9) (f:List ai) (g:List V) (c:List D) (d:D) (Q:VK) (E:XK),Room k A->Env0 P w K mg base A b s H->l6 g f->Reps K H O g c->c.length=n->(∀a,O a->∃o,H a=some o/\Mt o)->Tb H->bL K O->m c=.ok d->
  (∀v e,Same H e->Rep K e O v d->Q v e)->gn (bc P w) A (.call (.ref a) ⟨f,[]⟩) (CR tV b P w H s Q E) s
end
open Classical in
def callC (Φ:(List D->R D)->Hp->(bb->Prop)->bb->Prop) (i:Nat) (f:Ev->R (List D)):Ev->R D:=λρ=>match ρ[i]? with
 |some (.c m φ)=>if φ=Φ m then(f ρ).bind m else .bad
 |_=>.bad
section
def QE (i:Nat)(ha:KR X (e::es) f)(hl:DV f n)(hr:Room k X.A)(hN:X.N[i]?=some x:=by rfl)(hv:BC X.env.scope x:=by first|exact aCw rfl|exact aBE (aCw rfl)|exact aBE (aBE rfl))(hd:(x==kd)=false:=by decide)(fb:(x==ku)=false:=by decide)(he:av (e::es) X.env=(false,d3 e X.env)::av es X.env:=by rfl)(bg:(dq h (av es X.env)).any (·.1)=false:=by rfl):
  PD X (.Call (.Name x p) (e::es) [] h) (callC (LK X.prog X.w X.K X.mg X.base k n) i f):=by
 refine sG λb s σ H Q I H9 O0 O ρ E q=>?_;unfold callC at q;cases B:ρ[i]? with
 |none=>rw[B]at q;exact q.elim
 |some o=>
  rw[B]at q;cases o with
  |c m φ=>
   dsimp only at q;split at q
   .rename_i C;subst C;obtain⟨a,h1,U⟩:=E.slot i _ B;obtain⟨⟨Y,od,fd,o,hf⟩,_⟩:=U H O (Kp.refl _ _);refine aAL (E6 (N0 hN hv hd fb b s σ H (λv H'=>v=.ref a/\H'=H) I ⟨_,h1,rfl,rfl⟩) λu s1 z9=>?_);obtain⟨v,H1,I1,r1,ev,eH⟩:=z9;subst ev eH;obtain rfl:u=aDv a:=r1;refine PySem.W.callWith_F ⟨Y,od,fd,o,(I1.hok a _ hf).1⟩ (E6 (ha h b s1 σ H1 _ I1 ⟨H9,O0,O,ρ,E,IG.seq q⟩) λus s2 ⟨vs,H2,t,rv,J,e2,L,rr,g⟩=>⟨⟨Y,od,fd,o,(t.hok a _<|L _ _ hf).1⟩,?_⟩) he bg;cases y:m J with
    |ex z=>rw[y]at g;exact(g H2<|Same.refl _).elim
    |bad=>rw[y]at g;exact g.elim
    |ok d=>
     rw[y]at g;have T:=E.grow L;refine wpAny_call (aDP ((U H2 O<|Kp.of L).2 X.A X.stack s2 us vs J d Q (λ_ _ _=>False) hr t.af4 rv rr (hl ρ J e2) T.trk T.tab (sR t O T.trk) y g) λr s' l=>?_);cases r with
     |error e=>exact l.elim
     |ok fl=>
      cases fl with
      |ret u=>exact t.after l
      |next=>exact aAi l
      |brk=>exact aAi l
      |cont=>exact aAi l
   .exact q.elim
  |_=>exact q.elim
end
def spF (K:kc)(Φ:(List D->R D)->Hp->(bb->Prop)->bb->Prop)(M:D->(List D->R D)->(List D->R D)->R D):Sp:=λm H Q _=>∃O v1 f g h k l d,m=[v1,.ref g,.ref k]/\Rep K H O v1 f/\(∀b c,Kp H O b c->Φ h b c g)/\(∀b c,Kp H O b c->Φ l b c k)/\
 (∀a,O a->∃o,H a=some o/\Mt o)/\Tb H/\bL K O/\M f h l=.ok d/\∀v e,Same H e->Rep K e O v d->Q v e
def lC (N:List Str)(Φ:(List D->R D)->Hp->(bb->Prop)->bb->Prop)(d:D)(a b:List D->R D):Ev:=.v d::.c a (Φ a)::.c b (Φ b)::aCP (N.length-3) Sl.no
def DX {K:kc}{H:Hp}{O:bb->Prop}{N:List Str}{v1:V}{e:D}{a1 a2:bb}{f g:List D->R D}{Φ:(List D->R D)->Hp->(bb->Prop)->bb->Prop}(r:Rep K H O v1 e)(k:∀c d,Kp H O c d->Φ f c d a1)(l:∀c d,Kp H O c d->Φ g c d a2)
  (t:∀a,O a->∃o,H a=some o/\Mt o) (tb:Tb H):EnvOk K H O H O (start N [v1,.ref a1,.ref a2]) (lC N Φ e f g)where
 len:=by simp[L2.start,lC]
 same:=Same.refl H
 sub:=λ_ h=>h
 trk:=t
 trk0:=λa h=>let⟨o,q,_⟩:=t a h;⟨o,q⟩
 tab:=tb
 slot:=λi m h=>by
  match i with
  |0=>cases h;exact⟨v1,rfl,r⟩
  |1=>cases h;exact⟨a1,rfl,k⟩
  |2=>cases h;exact⟨a2,rfl,l⟩
  |i+3=>
   have b:(aCP (N.length-3) Sl.no)[i]?=some m:=h;rw[aBq]at b;split at b
   .cases b;trivial
   .cases b
 inj:=λi j x y a h _ o=>by
  match i with
  |0=>cases h;exact o.elim
  |1=>cases h;exact o.elim
  |2=>cases h;exact o.elim
  |i+3=>
   have b:(aCP (N.length-3) Sl.no)[i]?=some x:=h;rw[aBq]at b;split at b
   .cases b;exact o.elim
   .cases b
section
variable{K:kc}
def fnF {x qual:Str}{st:dm}{f:bb}{fd:ek}{N ps:List Str}{k:Nat}{M:D->(List D->R D)->(List D->R D)->R D}{Φ:(List D->R D)->Hp->(bb->Prop)->bb->Prop}{F:Ev->R Out}(n:Fun K x qual st f fd)(S:FnScope N ps (c6 st))(p:ps.length=3)
  (t:∀(T:ai) (A:cp) (a:List Env) (s:a9) (H:Hp) (E:XK),Room k (A.deeper (envOfC qual (c6 st) s.heap.objs.size f T))->cE (SH P w K mg base N qual (c6 st) f T A a s H E) (t6 st) F)
  (u:∀c g l d,M c g l=.ok d->N6 (F (lC N Φ c g l))=.ok d):FnOk P w K mg base tV (k+1) f fd ps (spF K Φ M):=by
 refine n.ok S (λv H Q E z=>by obtain⟨O,v1,c,y,g,B,l,d,e,_⟩:=z;rw[e,p];rfl) (λT A a s H v Q E C z=>?_);obtain⟨O,v1,c,y,g,B,l,d,I,r,J,L,U,Y,fk,e,q⟩:=z;subst I;refine⟨_,t T A a s H E C H O,O,_,DX r J L U Y,fk,?_⟩;have h:=u c g l d e;cases m:F (lC N Φ c g l)with
 |ok o=>
  rw[m]at h;cases o with
  |rt d'=>have b:R.ok d'=R.ok d:=h;injection b with b;subst b;exact q
  |nx ρ=>have b:R.ok D.non=R.ok d:=h;injection b with b;subst b;exactλaf H' O' E' _ _=>q .non H' E'.same .non
  |bk ρ=>cases h
  |ct ρ=>cases h
 |ex x=>rw[m]at h;cases h
 |bad=>rw[m]at h;cases h
end
structure NScope (ps ls fn:List Str)(sc:Scope):Prop where
 kind:sc.kind=.function
 co:sc.isCoroutine=false
 gen:sc.isGenerator=false
 nd:(ps++(ls++fn)).Nodup
 par:∀x∈ps,sc.names.lookup x=some .local
 fre:∀x∈fn,sc.names.lookup x=some .free
 all:∀x,sc.names.lookup x=some .free->x∈fn
 nocell:∀y∈sc.names,y.2≠.cell
abbrev wq (P:bt)(w:cq)(K:kc)(mg:dG)(base:cv)(N:List Str)(env:Env)(A:cp)(outer:List Env)(s:a9)(H:Hp):Cx where
 prog:=P
 w:=w
 K:=K
 mg:=mg
 base:=base
 A:=A.deeper env
 N:=N
 s9:=s
 H9:=H
 env:=env
 outer:=outer
 stack:=env::outer
 ex:=[]
 calm:=true
 fn:=λ_=>false
 pn:=[]
 xe:=λ_ _=>False
def N2 {α:Type}(vs:List α)(n:Nat)(no:α)(ws:List α):List α:=vs++(aCP n no++ws)
def iP {α:Type}{vs ws:List α}{n i:Nat}{no a:α}(h:(N2 vs n no ws)[i]?=some a):vs[i]?=some a\/a=no\/(vs.length+n<=i/\ws[i-(vs.length+n)]?=some a):=by
 unfold N2 at h;by_cases c:i<vs.length
 .rw[aAQ c]at h;exact .inl h
 .rw[aAz (by lia)]at h;by_cases b:i-vs.length<n
  .rw[aAQ (by simpa using b),aBq,jk b]at h;exact .inr (.inl (aAk h).symm)
  .rw[aAz (by simpa using b),aCo]at h;exact .inr (.inr ⟨by lia,by rw[show i-(vs.length+n)=i-vs.length-n by lia];exact h⟩)
def QA {α:Type}{vs ws:List α}{n i:Nat}{no a:α}(h:vs[i]?=some a):(N2 vs n no ws)[i]?=some a:=by unfold N2;rw[aAQ (aAx.mp h).1];exact h
def PY {α:Type}{vs ws:List α}{n i:Nat}{no a:α}(h:ws[i]?=some a):(N2 vs n no ws)[vs.length+n+i]?=some a:=by unfold N2;rw[aAz (by lia),aAz (by simp;lia),aCo,show vs.length+n+i-vs.length-n=i by lia];exact h
section
variable{K:kc}
def CS {A:cp}{g:List Env}{s:a9}{H:Hp}{N:List ai}{vs wv:List V}{h₁:cv}{tk:Nat}(S:NScope ps l fn d)(T:A.handled=none)(k:Env0 P w K mg base A g s H)(C:vs.length=ps.length)(r:l6 vs N)(O:wv.length=fn.length)
  (Q:∀(i:Nat) (x:Str) (v:V),fn[i]?=some x->wv[i]?=some v->∃c u,clos.lookup x=some c/\RelV v u/\s.heap.IsCell c (some u)) (B:∀x c,clos.lookup x=some c->(∃v,s.heap.IsCell c v)/\H c=none)
  (U:∀x y c,clos.lookup x=some c->clos.lookup y=some c->x=y) (Y:h₁.Ns s.heap.objs.size (λx=>(ps.zip N).reverse.lookup x)) (E:∀b o,s.heap.get? b=some o->h₁.get? b=some o):
  Inv (wq P w K mg base (ps++(l++fn)) (PySem.W.envX qual d s.heap.objs.size fa cd clos) A g s H) [] (N2 (vs.map some) l.length none (wv.map some)) H {s with heap:=h₁,toks:=tk}:=by
 have m:∀b:bb,b∉(wq P w K mg base (ps++(l++fn)) (PySem.W.envX qual d s.heap.objs.size fa cd clos) A g s H).ex:=λb z=>absurd (show b∈([]:List bb)from z) (by simp);have J:ps.Nodup:=(aCW.mp S.nd).1;refine⟨⟨k.mod,S.kind,rfl,rfl,aAj _,U,λy n=>?_,λy c hf _=>(by cases hf),λ_=>T,aFP k.frames,.inr ⟨rfl,rfl⟩,λb z=>absurd z (m b),k.bs,k.bsz,λb _ _=>m b,λb z=>absurd z (m b),k.funs,k.frf⟩,
  rfl,k.bare,Un.kept E,⟨_,Y,λi y v h1 f h3=>?_⟩,λy c h=>?_,k.hok.fresh (aAj _),λy c h=>(B y c h).2,λp hp=>absurd (show p∈([]:O5)from hp) (by simp),k.hok.kept E,?_⟩
 .have n:d.names.lookup y=some .cell\/d.names.lookup y=some .free:=n;rcases n with n|n
  .exact absurd rfl (S.nocell _<|PySem.mem_of_lookup n)
  .have hm:=S.all y n;obtain⟨i,I,e⟩:=aBc hm;have hw:i<wv.length:=by rw[O];exact I
   obtain⟨c,u,q,_⟩:=Q i y wv[i] (by rw[aAh I,e]) (aAh hw);exact⟨c,q⟩
 .have t:(ps++(l++fn))[i]?=some y:=h1;rcases iP f with f|f|⟨h4,f⟩
  .rw[aAG]at f;cases e:vs[i]? with
   |none=>rw[e]at f;cases f
   |some a=>
    rw[e]at f;have L:a=v:=aAk (aAk f);subst L;obtain⟨u,hu,rv⟩:=r.get e;have I:i<ps.length:=by rw[<-C];exact(aAx.mp e).1
    rw[aAQ I]at t;refine⟨u,rv,.inl ⟨S.par y (aAn t),?_⟩⟩;refine cH ?_ ?_
    .rw[aEr];refine(List.reverse_perm _).nodup_iff.mpr ?_;rw[List.map_fst_zip (by rw[<-C,r.length];exact aAj _)];exact J
    .rw[aCf];exact aAn (i:=i) (by rw[aBv];exact⟨t,hu⟩)
  .cases f
  .rw[aAf]at h4 f;rw[aAG]at f;cases e:wv[i-(vs.length+l.length)]? with
   |none=>rw[e]at f;cases f
   |some a=>rw[e]at f;have L:a=v:=aAk (aAk f);subst L;rw[aAz (by lia),aAz (by lia),<-C,show i-vs.length-l.length=i-(vs.length+l.length)by lia]at t;obtain⟨c,u,q1,q2,q3⟩:=Q _ y a t e;exact⟨u,q2,.inr ⟨.inr (S.fre y<|aAn t),c,q1,q3.keeps E⟩⟩
 .obtain⟨⟨v,z⟩,_⟩:=B y c h;exact⟨v,z.keeps E⟩
 .unfold N2;simp[C,O]
def EF {H:Hp}{O:bb->Prop}{vs wv:List V}{ds wd:List D}{n:Nat}(r:Reps K H O vs ds)(g:Reps K H O wv wd)(t:∀a,O a->∃o,H a=some o/\Mt o)(tb:Tb H):
  EnvOk K H O H O (N2 (vs.map some) n none (wv.map some)) (N2 (ds.map Sl.v) n .no (wd.map Sl.v))where
 len:=by unfold N2;simp[r.length,g.length]
 same:=Same.refl H
 sub:=λ_ h=>h
 trk:=t
 trk0:=λa h=>let⟨o,q,_⟩:=t a h;⟨o,q⟩
 tab:=tb
 slot:=λi k h=>by
  rcases iP h with h|h|⟨l,h⟩
  .rw[aAG]at h;cases e:ds[i]? with
   |none=>rw[e]at h;cases h
   |some d=>rw[e]at h;have b:Sl.v d=k:=aAk h;subst b;obtain⟨v,c,f⟩:=r.get e;exact⟨v,QA (by rw[aAG,c];rfl),f⟩
  .subst h;trivial
  .rw[aAG,aAf]at h;rw[aAf]at l;cases e:wd[i-(ds.length+n)]? with
   |none=>rw[e]at h;cases h
   |some d=>rw[e]at h;have b:Sl.v d=k:=aAk h;subst b;obtain⟨v,c,f⟩:=g.get e;refine⟨v,?_,f⟩;have:=PY (vs:=vs.map some) (n:=n) (no:=(none:Option V)) (ws:=wv.map some) (i:=i-(ds.length+n)) (a:=some v) (by rw[aAG,c];rfl);rw[aAf,r.length,show ds.length+n+(i-(ds.length+n))=i by lia]at this;exact this
 inj:=λi j x y a h _ o=>by
  rcases iP h with h|h|⟨_,h⟩
  .obtain⟨d,_,rfl⟩:=aAp.mp (aAn h);exact o.elim
  .subst h;exact o.elim
  .obtain⟨d,_,rfl⟩:=aAp.mp (aAn h);exact o.elim
def fx {name:Str}{l:Arguments}{body:List dm}{doc pm ctv:ai}{N:bb}{oc:Obj}{k:Nat}{m:List D->R D}{F:Ev->R Out}{H:Hp}{O:bb->Prop}{cs:O5}{wv:List V}{wd:List D}(S:NScope ps ls fn g)
  (hb:∀(A:cp) (f:List Env) (s:a9) (H:Hp),Room k (A.deeper (PySem.W.envX qual g s.heap.objs.size fa (.ref N) clos))->cE (wq P w K mg base (ps++(ls++fn)) (PySem.W.envX qual g s.heap.objs.size fa (.ref N) clos) A f s H) body F)
  (hm:∀ds d,ds.length=ps.length->m ds=.ok d->N6 (F (N2 (ds.map Sl.v) ls.length .no (wd.map Sl.v)))=.ok d)
  (wu:∀(s:a9) (U:List ai),U.length=ps.length->BindsTo s (PySem.W.fnX name qual l body g clos .none .none doc pm none (.ref N) ctv) ⟨U,[]⟩ (ps.zip U))
  (hfa:H fa=some (.frz (PySem.W.fnMade name qual l body g clos doc pm N ctv) (.own fa))) (hc:H N=some (.frz oc (.own N))) (dg:∃vs t,oc.data=.fields vs/\vs[1]?=some (.str qual t))
  (vt:∀b o,cs.lookup b=some o->H b=some (.frz o (.own b))/\vO o) (yd:∀(i:Nat) (x:Str) (v:V),fn[i]?=some x->wv[i]?=some v->∃c u o,clos.lookup x=some c/\cs.lookup c=some o/\o.data=.cell (some u)/\RelV v u)
  (hcc:∀x c,clos.lookup x=some c->∃o,cs.lookup c=some o) (og:∀x y c,clos.lookup x=some c->clos.lookup y=some c->x=y) (qd:wv.length=fn.length) (hr:Reps K H O wv wd) (hO:∀a,O a->∃o,H a=some o/\Mt o):
  ∀B Y,Kp H O B Y->LK P w K mg base (k+1) ps.length m B Y fa:=by
 intro B Y kp;have fz:∀b o u,H b=some (.frz o u)->B b=some (.frz o u):=λb o u e=>(kp b _ e λz=>by obtain⟨o',q,mt⟩:=hO b z;rw[e]at q;cases q;exact mt).1;have T:∀b o,cs.lookup b=some o->B b=some (.frz o (.own b)):=λb o q=>fz _ _ _ (vt b o q).1;refine⟨⟨_,_,_,_,fz _ _ _ hfa⟩,λA f s U vs ds d Q E ou C rv rr hl ht tb fk em q=>?_⟩;have KX:K.In s.heap:=C.mod.kin.keeps λb o e=>(C.bs b o e).1;have lim:s.heap.NoLimit:=C.mod.nolimit.keeps λb o e=>(C.bs b o e).1;have gfa:=(C.hok fa _<|fz _ _ _ hfa).1;have goc:=(C.hok N _<|fz _ _ _ hc).1;obtain⟨ovs,ot,od1,od2⟩:=dg;have hidn:∀b,B b=none->R7 B cs b=none:=λb n=>by
  cases z:cs.lookup b with
  |none=>rw[M0 z];exact n
  |some o=>exact bZ z
 have e1:Env0 P w K mg base A f s (R7 B cs):=⟨C.frames,C.mod,λb o e=>⟨(C.bs b o e).1,hidn b (C.bs b o e).2⟩,C.bsz,C.funs,λb hb=>hidn b (C.frf b hb),NS C.hok λb o z=>⟨T b o z,(vt b o z).2⟩,C.bare⟩;have zg:∀b o,cs.lookup b=some o->s.heap.get? b=some o:=λb o z=>(C.hok b _<|T b o z).1;have cfs:∀b o,cs.lookup b=some o->b∉AL f:=λb o z hb=>by have:=C.frf b hb;rw[T b o z]at this;cases this
 have hul:U.length=ps.length:=by rw[<-rv.length,rr.length];exact hl
 have hvl:vs.length=ps.length:=by rw[rr.length];exact hl
 have rwv:Reps K (R7 B cs) Y wv wd:=(kp.ab9 hO fk hr).hid T;have tb1:Tb (R7 B cs):=λp hp=>w9 T (tb p hp) λo _ z=>by cases z
 have ht1:∀a,Y a->∃o,R7 B cs a=some o/\Mt o:=λa z=>by obtain⟨o,q1,q2⟩:=ht a z;exact⟨o,w9 T q1 λo' _ z'=>by subst z';exact q2,q2⟩
 let Q':VK:=λv H3=>(∀b o,cs.lookup b=some o->H3 b=none)->Q v (dZ H3 cs)
 have qq:∀v L,Same (R7 B cs) L->Rep K L Y v d->Q' v L:=λv L sm r hn=>by
  refine q v _ (λb u e=>?_) (r.same<|fO hn);cases z:cs.lookup b with
  |none=>exact F3 hn (sm b u (by rw[M0 z];exact e))
  |some o=>rw[T b o z]at e;cases e;exact fR z
 have fin:∀{u:ai} {s':a9},CE f P w (R7 B cs) s Q' u s'->CE f P w B s Q u s':=λ{u s'} ⟨v,H3,os,bare,un,hok,r,qv⟩=>by obtain⟨U2,k2,zb⟩:=aq un hok λb o z=>⟨zg b o z,T b o z,cfs b o z⟩;exact⟨v,_,os,bare,U2,k2,r,qv λb o z=>un.free b o (zg b o z) (bZ z) (by simp)⟩
 refine codeAny_call_def (fd:=PySem.W.fnX name qual l body g clos .none .none doc pm none (.ref N) ctv) (body:=body) (binds:=ps.zip U) ou.depth gfa rfl lim ⟨N,oc,ovs,ot,rfl,goc,od1,od2⟩ rfl (wu s U hul) S.nocell (λy hy=>S.par y.1 (aDS hy).1) (λh₁ yv hk=>?_) S.co S.gen S.kind;show a5 (bc P w) (A.deeper<|PySem.W.envX qual g s.heap.objs.size fa (.ref N) clos) (execs body<|PySem.W.envX qual g s.heap.objs.size fa (.ref N) clos) _ _ _;have I:=CS (qual:=qual) (fa:=fa) (cd:=.ref N) (clos:=clos) (tk:=s.toks+(ps.zip U).length) S ou.hd e1 hvl rv qd (λi x v h1 h2=>by
   obtain⟨c,u,o,q1,q2,q3,q4⟩:=yd i x v h1 h2;exact⟨c,u,q1,q4,o,zg c o q2,q3⟩) (λx c h=>by
   obtain⟨o,z⟩:=hcc x c h;obtain⟨v,z2⟩:=(vt c o z).2;exact⟨⟨v,o,zg c o z,z2⟩,bZ z⟩) og yv hk
 have hx:=hb A f s (R7 B cs) (ou.deeper _) (R7 B cs) Y [] _ _ _ {nx:=λ_ L=>Q' .non L,rt:=Q'} I ⟨Y,_,EF (rr.hid T) rwv ht1 tb1,fk,?_⟩
 .refine aCF hx (λfl s' hs=>?_) λe s' hs=>hs.elim;have fin2:∀{af:St} {L:Hp} {v:V} {u:ai},Inv (wq P w K mg base (ps++(ls++fn)) (PySem.W.envX qual g s.heap.objs.size fa (.ref N) clos) A f s<|R7 B cs) [] af L s'->RelV v u->Q' v L->CE f P w B s Q u s':=
   λ{af L v u} J rv q=>fin ⟨v,L,J.os,J.bare,J.base,J.hok,rv,q⟩
  cases fl with
  |ret u=>obtain⟨v,af,L,J,rv,q⟩:=hs;exact fin2 J rv q
  |next=>obtain⟨af,L,J,q⟩:=hs;exact fin2 (v:=V.non) (u:=Value.none) J rfl q
  |brk=>obtain⟨_,_,_,q⟩:=hs;exact aAi q
  |cont=>obtain⟨_,_,_,q⟩:=hs;exact aAi q
 .have h:=hm ds d hl em;cases e1:F (N2 (ds.map Sl.v) ls.length .no (wd.map Sl.v))with
  |ok o=>
   rw[e1]at h;cases o with
   |rt d'=>have h':R.ok d'=R.ok d:=h;injection h' with h';subst h';exact qq
   |nx ρ=>have h':R.ok D.non=R.ok d:=h;injection h' with h';subst h';exactλaf L O' E' _ _=>qq .non L E'.same .non
   |bk ρ=>cases h
   |ct ρ=>cases h
  |ex x=>rw[e1]at h;cases h
  |bad=>rw[e1]at h;cases h
end
end
section
variable [Tabs]
def jI (mg:dG)(base:cv):Prop:=∃b a,mg "__builtins__"=some (.ref b)/\b≠builtinsNs/\base.get? b=some a/\a.cls=.type "module"/\a.dict=some builtinsNs/\a.data=.plain
def sW:∀(l:List ai),TriplesOk l->fo d l=some x->fo d (l++[d9 a,d9 b,c])=some x:=λl h e=>by
 fun_induction TriplesOk l with
 |case1=>simp[fo]at e
 |case2 k t m u y rest g=>
  simp only[aBl,fo]at e⊢;split at e
  .rename_i f;rw[jk f];exact e
  .rename_i f;rw[ka f];exact g h e
 |case3 l n o=>exact h.elim
def RT (ne:¬(a=d.line/\b=d.col)):∀(l:List ai),TriplesOk l->fo d l=none->fo d (l++[d9 a,d9 b,c])=none:=λl h e=>by
 fun_induction TriplesOk l with
 |case1=>simp only[aDw,d9,fo];rw[ka];simp only[aAM,beq_iff_eq];exact ne
 |case2 k t m u y rest f=>
  simp only[aBl,fo]at e⊢;split at e
  .cases e
  .rename_i g;rw[ka g];exact f h e
 |case3 l n o=>exact h.elim
def iU (H:Hp)(fa:bb)(name qual:Str)(a:Arguments)(body:List dm)(b:i6)(clos:List (Str×bb)):Prop:=
 ∃c f d h e,H fa=some (.frz (PySem.W.fnMade name qual a body b clos d h c e) (.own fa))/\H c=some (.frz f (.own c))/\∃g t,f.data=.fields g/\g[1]?=some (.str qual t)
def iU.same (h:iU H fa name qual a body b clos)(s:Same H H'):iU H' fa name qual a body b clos:=
 let⟨e,f,c,g,d,k,l,m⟩:=h;⟨e,f,c,g,d,s _ _ k,s _ _ l,m⟩
section
def xV {Q:Flow->a9->Prop}(I:Inv X pins σ H s)(hB:jI X.mg X.base)(jv:X.env.code=.ref c)(hK:PySem.W.codeHdIn X.K c y=true)(hT:H y=some (.tbl tb))(hq:qualnameIn X.env name name=qual)(hm:(g,qual)∈tb)(hu:∀p∈tb,p.1.line=g.line->p.1.col=g.col->p.2=qual)(yd:closureFor f X.env=pure clos)(hd0:d.defaults=[])(hk0:d.kw_defaults=[])(ha:annTrees d none X.env=[])(hN:X.N.Nodup)(hi:X.N[i]?=some name)(hx:Loc X.env.scope name)(hf:X.fn name=true\/X.env.scope.names.lookup name=some .local)(h:∀fa H' s',Inv X pins (σ.set i (some (.ref fa))) H' s'->Same H H'->iU H' fa name qual d body f clos->Q .next s'):a5 (bc X.prog X.w) X.A (exec (.FunctionDef name d body [] none [] f none name g) X.env) Q X.xe s:=by
 refine PySem.W.nestDef_K hd0 hk0 ha ?_;rw[hq];have hg:s.heap.Ns be X.mg:=I.mod.glob.keeps I.bk;have C:PySem.W.CodeHd s.heap c y:=PySem.W.codeHd_of_K I.kIn hK;obtain⟨ps,hP,x,O⟩:=I.hok y _ hT;have hgP:be≠y:=λq=>by obtain⟨o,es,ep,e,hd,_⟩:=hg;rw[q,hP]at e;cases e;cases hd
 have T:s.heap.BuiltinsAt X.mg y:=by
  obtain⟨bm,ob,b1,b2,b3,b4,b5,b6⟩:=hB;have B:=I.bk _ _ b3;refine⟨bm,ob,b1,b2,λq=>?_,λq=>?_,B,b4,b5,b6⟩
  .obtain⟨o,es,ep,e,hd,_⟩:=hg;rw[<-q,B]at e;cases e;rw[hd]at b6;cases b6
  .rw[q,hP]at B;cases B;cases b4
 have U:∀b,H b=none->b≠y:=λb n z=>by rw[z,hT]at n;cases n
 have neL:X.env.locals≠y:=U _ I.free;rcases O _ hm with hnf|⟨k,oc,vs,t,hf',xu,fb⟩
 .refine PySem.W.makeFunction_K (mg:=X.mg) yd I.ok.glob hg jv C hP x hnf hgP T λk l m h' tk hx' E ao hrec htb=>?_;obtain⟨c2,oc,vs,t,e2,dg,hd,hv⟩:=hrec;cases e2;have old:∀b u,H b=some u->b<s.heap.objs.size:=λb u e=>I.hok.lt e;have hcN:H k=none:=I.hok.fresh E;have J:H h'.objs.size=none:=I.hok.fresh (aAr E<|aDu ao);have ncf:k≠h'.objs.size:=aAl ao;have L:Same H (upd (upd H k<|.frz oc (.own k)) h'.objs.size<|.frz (PySem.W.fnMade name qual d body f clos m ((X.mg "__name__").getD .none) k l) (.own h'.objs.size)):=λb u e=>by rw[k8 (t9 e J),k8 (t9 e hcN)];exact e
  have pf:∀b o,b≠y->s.heap.get? b=some o->(h'.push<|PySem.W.fnMade name qual d body f clos m ((X.mg "__name__").getD .none) k l).get? b=some o:=λb o T e=>aAc _ (hx' b o T e);have lts:∀b o,s.heap.get? b=some o->b≠k/\b≠h'.objs.size:=λb o e=>⟨aAl (aAu (aAg e) E),aAl (aAu (aAg e)<|aAr E<|aDu ao)⟩;have I1:=I.step (H':=upd (upd H k<|.frz oc (.own k)) h'.objs.size (.frz (PySem.W.fnMade name qual d body f clos m ((X.mg "__name__").getD .none) k l) (.own h'.objs.size)))
   (h':=h'.push (PySem.W.fnMade name qual d body f clos m ((X.mg "__name__").getD .none) k l)) (g':=s.gens) (t':=tk) (d':=s.drawn) (ch:=[]) (λ_ z=>nomatch z) (λb o _ _ _ e n=>pf b o (U b n) e) (λb o _ _ _ e n=>⟨o.slots,pf b o (U b n) e⟩)
   (λb o _ e n=>by rw[k8 (lts b o e).2,k8 (lts b o e).1];exact n) (λb o _ e=>by
    by_cases T:b=y
    .subst T;exact⟨_,aAc _ htb⟩
    .exact⟨o,pf b o T e⟩) (λb Y e=>L _ _ e) (λb o u e=>L _ _ e) (λb tb e=>L _ _ e) (λm' hm'=>by
    obtain⟨o,es,ep,e,r⟩:=hm';exact⟨o,es,ep,pf _ o neL e,r⟩) (λb u e=>by
    by_cases hbf:b=h'.objs.size
    .subst hbf;rw[j3]at e;cases e;exact⟨aAo _ rfl,_,aAo _ rfl⟩
    .rw[k8 hbf]at e;by_cases hbc:b=k
     .subst hbc;rw[j3]at e;cases e;exact⟨aAc _ dg,_,aAc _ dg⟩
     .rw[k8 hbc]at e;by_cases hbP:b=y
      .subst hbP;rw[hT]at e;cases e;refine⟨_,aAc _ htb,?_,λp hp=>?_⟩
       .rw[aGf];exact TriplesOk_snoc _ _ _ _ x
       .rw[aGf];show fo p.1 (ps.toList++[d9 g.line,d9 g.col,.ref k])=none\/_;by_cases hpp:(g.line:Int)=p.1.line/\(g.col:Int)=p.1.col
        .rcases O p hp with h0|⟨c3,oc3,vs3,t3,h0,h1,h2⟩
         .have e1:g.line=p.1.line:=by exact_mod_cast hpp.1
          have e2:g.col=p.1.col:=by exact_mod_cast hpp.2
          refine .inr ⟨k,oc,vs,t,?_,by rw[k8 ncf,j3],hd,?_⟩
          .rw[e1,e2];exact codeAmong_snoc _ x h0
          .rw[hu p hp e1.symm e2.symm];exact hv
         .exact .inr ⟨c3,oc3,vs3,t3,sW _ x h0,L _ _ h1,h2⟩
        .rcases O p hp with h0|⟨c3,oc3,vs3,t3,h0,h1,h2⟩
         .exact .inl (RT hpp _ x h0)
         .exact .inr ⟨c3,oc3,vs3,t3,sW _ x h0,L _ _ h1,h2⟩
      .refine(I.hok b u e).ab7 (λb2 v hc q=>pf b2 v (λz=>?_) q) (λb2 z=>L _ _ z) λb2 u _ z=>L _ _ z;rcases hc with hc|hc
       .exact hbP (hc▸z)
       .rw[z,hT]at hc;cases hc) I.bare
  refine R4 I1 hN hi hx (show RelV (.ref h'.objs.size) _ from rfl) (λs' I'=>h _ _ s' I' L ⟨k,oc,m,_,l,j3,by rw[k8 ncf,j3],vs,t,hd,hv⟩) hf
 .refine PySem.W.makeFunction_hit (mg:=X.mg) yd I.ok.glob hg jv C hP x hf' T λl m h' tk hk hsz=>?_;have J:H h'.objs.size=none:=I.hok.fresh hsz;have I1:=I.laid (a:=h'.objs.size) (o:=.frz (PySem.W.fnMade name qual d body f clos m ((X.mg "__name__").getD .none) k l) (.own h'.objs.size)) (h':=h'.push (PySem.W.fnMade name qual d body f clos m ((X.mg "__name__").getD .none) k l)) (t':=tk)
   (λb u e=>aAc _ (hk b u e)) hsz ⟨aAo _ rfl,_,aAo _ rfl⟩
  refine R4 I1 hN hi hx (show RelV (.ref h'.objs.size) _ from rfl) (λs' I'=>h _ _ s' I' (j6 J _) ⟨k,oc,m,_,l,j3,j6 J _ _ _ xu,vs,t,fb⟩) hf
end
structure Nst where
 name:Str
 qual:Str
 params:Arguments
 body:List Stmt
 scope:Scope
 pos:Pos
 ps:List Str
 ls:List Str
 fn:List Str
 js:List Nat
 F:Ev->R Out
 mm:List D->List D->R D
 i:Nat
abbrev Nst.stmt (n:Nst):dm:=.FunctionDef n.name n.params n.body [] none [] n.scope none n.name n.pos
structure NstOk (X:Cx)(k:Nat)(n:Nst):Prop where
 sc:NScope n.ps n.ls n.fn n.scope
 one:n.ps.length=1
 body:∀(fa:Addr) (cd:Value) (clos:List (Str×Addr)) (A:Around) (outer:List Env) (s:Shared) (H:Hp),Room k (A.deeper (PySem.W.envX n.qual n.scope s.heap.objs.size fa cd clos))->cE (wq X.prog X.w X.K X.mg X.base (n.ps++(n.ls++n.fn)) (PySem.W.envX n.qual n.scope s.heap.objs.size fa cd clos) A outer s H) n.body n.F
 mm:∀wd ds d,wd.length=n.fn.length->ds.length=n.ps.length->n.mm wd ds=.ok d->N6 (n.F (N2 (ds.map Sl.v) n.ls.length .no (wd.map Sl.v)))=.ok d
 bind:∀(clos:List (Str×Addr)) (doc pm cd ctv:Value) (us:List Value),us.length=n.ps.length->bindArgs (PySem.W.fnX n.name n.qual n.params n.body n.scope clos .none .none doc pm none cd ctv) ⟨us,[]⟩=pure (n.ps.zip us)
 len:n.js.length=n.fn.length
 at_:∀(i j:Nat) (x:Str),n.js[i]?=some j->n.fn[i]?=some x->X.N[j]?=some x/\X.env.scope.names.lookup x=some .cell
 d0:n.params.defaults=[]
 k0:n.params.kw_defaults=[]
 nm:X.N[n.i]?=some n.name
 lc:Loc X.env.scope n.name
 st:X.fn n.name=true\/X.env.scope.names.lookup n.name=some .local
 dbg:(n.name==kd)=false
 cdt:(n.name==ku)=false
structure ClosOk (X:Cx)(n:Nst)(clos:List (Str×Addr)):Prop where
 eq:closureFor n.scope X.env=pure clos
 ann:annTrees n.params none X.env=[]
 qn:qualnameIn X.env n.name n.name=n.qual
 sub:∀x c,clos.lookup x=some c->X.env.cells.lookup x=some c
 has:∀x∈n.fn,∃c,clos.lookup x=some c
def dU:List Nat->Ev->R (List D)
 |[],_=>.ok []
 |j::a,ρ=>(T0 j ρ).bind λd=>(dU a ρ).bind λb=>.ok (d::b)
theorem NK {K:kc}{k H:Hp}{l O:bb->Prop}{σ:St}{ρ:Ev}(E:EnvOk K k l H O σ ρ):∀{b:List Nat} {wd:List D},dU b ρ=.ok wd->∃wv,Reps K H O wv wd/\wv.length=b.length/\∀(i j:Nat) (v:V),b[i]?=some j->wv[i]?=some v->σ[j]?=some (some v)
 |[],wd,h=>by cases h;exact⟨[],.nil,rfl,λi j v e=>by simp at e⟩
 |j::b,wd,h=>by
  unfold dU at h;cases a:T0 j ρ with
  |ok d=>
   rw[a,R.aa0]at h;cases c:dU b ρ with
   |ok t=>
    rw[c,R.aa0]at h;cases h;obtain⟨wv,r,m,at_⟩:=NK E c;have:ρ[j]?=some (.v d):=by
     unfold T0 at a;split at a
     .rename_i q;cases a;exact q
     .cases a
    obtain⟨v,n,o⟩:=E.val j d this;refine⟨v::wv,.cons o r,by simp[m],λi p s f g=>?_⟩;cases i with
    |zero=>simp at f g;subst f g;exact n
    |succ i=>exact at_ i p s (by simpa using f) (by simpa using g)
   |ex z=>rw[c]at h;cases h
   |bad=>rw[c]at h;cases h
  |ex z=>rw[a]at h;cases h
  |bad=>rw[a]at h;cases h
section
def V1 (h:cv)(a:List (Str×bb)):List (bb×Obj):=a.filterMap λp=>(h.get? p.2).map λo=>(p.2,o)
def L0 (e:(V1 h a).lookup b=some o):h.get? b=some o/\∃x,(x,b)∈a:=by
 obtain⟨p,c,q⟩:=aBW.mp (mem_lookup e);cases z:h.get? p.2 with
 |none=>rw[z]at q;cases q
 |some d=>rw[z]at q;have f:(p.2,d)=(b,o):=aAk q;injection f with g k;subst g k;exact⟨z,p.1,c⟩
def mS (d:(x,b)∈a)(e:h.get? b=some o):∃c,(V1 h a).lookup b=some c:=by
 have:(b,o)∈V1 h a:=aBW.mpr ⟨(x,b),d,by show(h.get? b).map _=_;rw[e];rfl⟩;cases q:(V1 h a).lookup b with
 |some c=>exact⟨c,rfl⟩
 |none=>have:=List.lookup_eq_none_iff.mp q (b,o) this;simp at this
def wz (X:Cx)(n1 n2:Nst)(clos1 clos2:List (Str×bb))(f:Ev->R D)(M:D->(List D->R D)->(List D->R D)->R D):TE:=λσ H Q=>∃c d O ρ b a,EnvOk X.K c d H O σ ρ/\σ[n1.i]?=some (some<|V.ref b)/\σ[n2.i]?=some (some<|V.ref a)/\
 iU H b n1.name n1.qual n1.params n1.body n1.scope clos1/\iU H a n2.name n2.qual n2.params n2.body n2.scope clos2/\RC X H O ((f ρ).bind λe=>(dU n1.js ρ).bind λg=>(dU n2.js ρ).bind λh=>M e (n1.mm g) (n2.mm h)) Q
def AK {n:Nst}{clos a:List (Str×bb)}{k:Nat}{h:O5}{σ:St}{H:Hp}{s:a9}{H9:Hp}{O0 O:bb->Prop}{ρ:Ev}{fa:bb}{wd:List D}(ok:NstOk X k n)(l:ClosOk X n clos)(I:Inv X h σ H s)(E:EnvOk X.K H9 O0 H O σ ρ)
  (hA:∀p∈clos,p∈a) (r:∀x b,(x,b)∈a->X.env.cells.lookup x=some b) (t:iU H fa n.name n.qual n.params n.body n.scope clos) (hw:dU n.js ρ=.ok wd):
  ∀z B,Kp (dZ H (V1 s.heap a)) O z B->LK X.prog X.w X.K X.mg X.base (k+1) 1 (n.mm wd) z B fa:=by
 obtain⟨c',oc,U,pm,Y,h1,h2,h3⟩:=t;obtain⟨wv,oh,hl,at_⟩:=NK E hw;have hn:∀b o,(V1 s.heap a).lookup b=some o->H b=none:=λb o q=>by obtain⟨_,x,hm⟩:=L0 q;exact I.freeC x b (r x b hm)
 have Q:=fO hn
 suffices C:∀z B,Kp (dZ H<|V1 s.heap a) O z B->LK X.prog X.w X.K X.mg X.base (k+1) n.ps.length (n.mm wd) z B fa by rw[ok.one]at C;exact C
 refine fx (cs:=V1 s.heap a) (wv:=wv) (wd:=wd) (F:=n.F) ok.sc (λA g s H hr=>ok.body fa (.ref c') clos A g s H hr) (λds d km e=>ok.mm wd ds d (by rw[<-oh.length,hl,ok.len]) km e) (λs us km=>.of_eq (ok.bind clos U pm (.ref c') Y us km)) (Q _ _ h1) (Q _ _ h2) h3
  (λb o q=>⟨fR q,?_⟩) (λi x v J q2=>?_) (λx c q=>?_) (λx y c J q2=>I.ok.inj x y c (l.sub x c J) (l.sub y c q2)) (by rw[hl,ok.len]) (oh.same Q) (E.grow Q).trk
 .obtain⟨e1,x,hm⟩:=L0 q;obtain⟨v,o',e2,e3⟩:=I.cell x b (r x b hm);rw[e1]at e2;cases e2;exact⟨v,e3⟩
 .have hi:i<n.js.length:=by rw[ok.len];exact(aAx.mp J).1
  have ej:n.js[i]?=some n.js[i]:=aAh hi;obtain⟨hN,hk⟩:=ok.at_ i _ x ej J;have hσ:=at_ i _ v ej q2;obtain⟨m,yv,L⟩:=I.loc;obtain⟨u,ru,N⟩:=L _ x v hN hσ (.inr (.inl hk));rcases N with⟨kl,_⟩|⟨_,c,iu,o,T,hd⟩
  .have f:X.env.scope.names.lookup x=some .local:=kl;rw[hk]at f;cases f
  .obtain⟨c2,q3⟩:=l.has x (aAn J);have q4:=l.sub x c2 q3;rw[iu]at q4;cases q4;obtain⟨o',q5⟩:=mS (hA _<|PySem.mem_of_lookup q3) T;have:=(L0 q5).1;rw[T]at this;cases this;exact⟨c,u,o,q3,q5,hd,ru⟩
 .obtain⟨v,o,T,_⟩:=I.cell x c (l.sub x c q);exact mS (hA _<|PySem.mem_of_lookup q) T
def SK (qm:NstOk X k n1)(qo:NstOk X k n2)(yf:ClosOk X n1 clos1)(jr:ClosOk X n2 clos2)(L:∀x b,(x,b)∈clos1++clos2->X.env.cells.lookup x=some b)(FF:FnOk X.prog X.w X.K X.mg X.base tV kf g gd N (spF X.K (LK X.prog X.w X.K X.mg X.base (k+1) 1) M))(hr:Room kf X.A)(Y:X.mg x=some (.ref g))(hk:PySem.W.keepIn X.K (.ref g)=true)(t:Binds X.K gd N [])(h3:N.length=3)(he:PD X e f)(xt:∀y,X.fn y=true)(hg:Gl X x:=by rfl)(ia:(x==kd)=false:=by decide)(za:av [e,.Name n1.name p1,.Name n2.name B] X.env=(false,d3 e X.env)::av [.Name n1.name p1,.Name n2.name B] X.env:=by rfl)(zh:av [.Name n1.name p1,.Name n2.name B] X.env=(false,d3 (.Name n1.name p1) X.env)::av [.Name n2.name B] X.env:=by rfl)(hs3:av [.Name n2.name B] X.env=(false,d3 (.Name n2.name B) X.env)::av [] X.env:=by rfl)(bg:(dq pos (av [.Name n1.name p1,.Name n2.name B] X.env)).any (·.1)=false:=by rfl):
  PE X (.Call (.Name x p) [e,.Name n1.name p1,.Name n2.name B] [] pos) (wz X n1 n2 clos1 clos2 f M):=by
 rintro pins s σ H Q I ⟨H9,O0,O,ρ,ye,fa2,E,h1,h2,md1,md2,q⟩;have vis:∀{y:Str},Loc X.env.scope y->BC X.env.scope y:=λh=>h.elim .inl λz=>.inr (.inl z);have lb:PA X [e,.Name n1.name p1,.Name n2.name B] _:=J0 he (J0 (N0 qm.nm (vis qm.lc) qm.dbg qm.cdt) (J0 (N0 qo.nm (vis qo.lc) qo.dbg qo.cdt) aM hs3) zh) za;refine aAL (vS I hg Y ?_ ia);refine PySem.W.callWith_K (h₀:=X.base) I.ok.mod.kin hk (E6 (lb pos pins s σ H (λvs c=>∃v1 T w1 w2 d,vs=[v1,.ref ye,.ref fa2]/\Same H c/\Rep X.K c O v1 T/\dU n1.js ρ=.ok w1/\dU n2.js ρ=.ok w2/\M T (n1.mm w1) (n2.mm w2)=.ok d/\∀v m,Same c m->Rep X.K m O v d->Q v m) I ⟨H9,O0,O,ρ,E,?_⟩) λus C z9=>?_) za bg
 .cases e1:f ρ with
  |ex z=>rw[e1]at q;exact q
  |bad=>rw[e1]at q;exact q
  |ok T=>
   rw[e1,R.aa0]at q;cases J:dU n1.js ρ with
   |ex z=>rw[J]at q;exact(q H<|Same.refl _).elim
   |bad=>rw[J]at q;exact q.elim
   |ok w1=>
    rw[J,R.aa0]at q;cases e3:dU n2.js ρ with
    |ex z=>rw[e3]at q;exact(q H<|Same.refl _).elim
    |bad=>rw[e3]at q;exact q.elim
    |ok w2=>
     rw[e3,R.aa0]at q;cases e4:M T (n1.mm w1) (n2.mm w2)with
     |ex z=>rw[e4]at q;exact(q H<|Same.refl _).elim
     |bad=>rw[e4]at q;exact q.elim
     |ok d=>rw[e4]at q;exactλv1 c C r1=>⟨_,h1,_,h2,v1,T,w1,w2,d,rfl,C,r1,rfl,rfl,e4,λv m s2 r2=>q v m (C.trans s2) r2⟩
 .obtain⟨vs,c,a,r,v1,T,w1,w2,d,ev,sm,r1,c1,c2,em,qq⟩:=z9;refine⟨a.kIn,?_⟩;subst ev;have E1:=E.grow sm;generalize vt:V1 C.heap (clos1++clos2)=l;have hn:∀b o,l.lookup b=some o->C.heap.get? b=some o/\c b=none/\vO o:=λb o z=>by rw[<-vt]at z;obtain⟨e1,y,Y⟩:=L0 z;obtain⟨v,o',J,e3⟩:=a.cell y b (L y b Y);rw[e1]at J;cases J;exact⟨e1,a.freeC y b (L y b Y),v,e3⟩
  have hn0:∀b o,l.lookup b=some o->c b=none:=λb o z=>(hn b o z).2.1;have U:Same c (dZ c l):=fO hn0;have E2:=E1.grow U;have n:=a.af4;have nofr:∀b o,l.lookup b=some o->b∉AL X.stack:=λb o z t=>by
   rw[<-vt]at z;obtain⟨_,y,hmy⟩:=L0 z;rcases aAd.mp (a.ab3 b t)with e|t
   .exact a.cne y b (L y b hmy) e
   .obtain⟨_,o',ho,_⟩:=a.ok.funs.mem t;exact absurd (aAu (aAg ho)<|a.ok.cab y b (xt y)<|L y b hmy) (aBg _)
  have nob:∀b o,X.base.get? b=some o->l.lookup b=none:=λb o e=>by
   cases z:l.lookup b with
   |none=>rfl
   |some o'=>rw[<-vt]at z;obtain⟨_,y,Y⟩:=L0 z;exact absurd (aAu (aAg e)<|aAr a.ok.bsz<|a.ok.cab y b (xt y)<|L y b Y) (aBg _)
  have J:Env0 X.prog X.w X.K X.mg X.base X.A X.stack C (dZ c l):=⟨n.frames,n.mod,λb o e=>⟨(n.bs b o e).1,by rw[R8 (nob b o e)];exact(n.bs b o e).2⟩,n.bsz,n.funs,λb t=>by
   cases z:l.lookup b with
   |none=>rw[R8 z];exact n.frf b t
   |some o=>exact absurd t (nofr b o z),QP n.hok λb o z=>⟨(hn b o z).1,(hn b o z).2.1⟩,n.bare⟩
  have cl1:=AK qm yf a E1 (λp hp=>aBH _ hp) L (md1.same sm) c1;have cl2:=AK qo jr a E1 (λp hp=>aAH _ hp) L (md2.same sm) c2;rw[vt]at cl1 cl2;have hl:us.length=N.length:=by rw[<-r.length,h3];rfl
  have hbs:=t C us a.kIn (by rw[aCn];exact hl);rw[aCn]at hbs;refine wpAny_call (aDP (FF.run X.A X.stack C (dZ c l) ⟨us,[]⟩ us _ (λv m=>Q v (R7 m l)) (λ_ _ _=>False) hr J hbs r ⟨O,v1,T,ye,_,fa2,_,d,rfl,r1.same U,cl1,cl2,E2.trk,E2.tab,sR a O E1.trk,em,λv m s2 r2=>?_⟩) λrr s' hq=>?_)
  .have hz:∀b o,l.lookup b=some o->m b=some (.frz o (.own b)):=λb o z=>s2 _ _ (fR z);refine qq v _ (λb u e=>w9 hz (s2 b u<|U b u e) λo z _=>?_) (r2.hid hz);rw[hn0 b o z]at e;cases e
  .cases rr with
   |error e=>exact hq.elim
   |ok fl=>
    cases fl with
    |next=>exact aAi hq
    |brk=>exact aAi hq
    |cont=>exact aAi hq
    |ret u=>obtain⟨v,m,os,bare,un,hok,rv,qv⟩:=hq;obtain⟨U2,k2,_⟩:=YX un hok hn;exact a.after ⟨v,_,os,bare,U2,k2,rv,qv⟩
def IX (a:NstOk X k n1)(h:NstOk X k n2)(B:ClosOk X n1 clos1)(C:ClosOk X n2 clos2)(hA:∀x b,(x,b)∈clos1++clos2->X.env.cells.lookup x=some b)(hB:jI X.mg X.base)(jv:X.env.code=.ref c)(hK:PySem.W.codeHdIn X.K c Pt=true)(m:(Pt,tb)∈Tabs.tbs)(Q:(n1.pos,n1.qual)∈tb)(kr:(n2.pos,n2.qual)∈tb)(dh:∀p∈tb,p.1.line=n1.pos.line->p.1.col=n1.pos.col->p.2=n1.qual)(T:∀p∈tb,p.1.line=n2.pos.line->p.1.col=n2.pos.col->p.2=n2.qual)(ag:n1.i≠n2.i)(hN:X.N.Nodup)(FF:FnOk X.prog X.w X.K X.mg X.base tV kf g gd n (spF X.K (LK X.prog X.w X.K X.mg X.base (k+1) 1) M))(hr:Room kf X.A)(hm:X.mg x=some (.ref g))(hk:PySem.W.keepIn X.K (.ref g)=true)(hb:Binds X.K gd n [])(h3:n.length=3)(he:PD X e f)(xt:∀y,X.fn y=true)(hg:Gl X x:=by rfl)(ia:(x==kd)=false:=by decide)(za:av [e,.Name n1.name o,.Name n2.name l] X.env=(false,d3 e X.env)::av [.Name n1.name o,.Name n2.name l] X.env:=by rfl)(zh:av [.Name n1.name o,.Name n2.name l] X.env=(false,d3 (.Name n1.name o) X.env)::av [.Name n2.name l] X.env:=by rfl)(U:av [.Name n2.name l] X.env=(false,d3 (.Name n2.name l) X.env)::av [] X.env:=by rfl)(bg:(dq Y (av [.Name n1.name o,.Name n2.name l] X.env)).any (·.1)=false:=by rfl):
  cE X [n1.stmt,n2.stmt,.Return (some (.Call (.Name x p) [e,.Name n1.name o,.Name n2.name l] [] Y)) rpos] (λρ=>((f ((ρ.set n1.i .no).set n2.i .no)).bind λd1=>(dU n1.js ((ρ.set n1.i .no).set n2.i .no)).bind λw1=>(dU n2.js ((ρ.set n1.i .no).set n2.i .no)).bind λw2=>M d1 (n1.mm w1) (n2.mm w2)).bind λd=>.ok (.rt d)):=by
 rintro H9 O0 t s σ H D I ⟨O,ρ,E,fk,q⟩;refine aEn (xV (σ:=σ) I hB jv hK (E.tab _ m) B.qn Q dh B.eq a.d0 a.k0 B.ann hN a.nm a.lc a.st λJ H1 s1 I1 sm1 md1=>?_);have E1:EnvOk X.K H9 O0 H1 O (σ.set n1.i<|some<|.ref J) (ρ.set n1.i .no):=(E.grow sm1).put n1.i (λz=>z) trivial;refine aEn (xV (σ:=σ.set n1.i (some<|.ref J)) I1 hB jv hK (E1.tab _ m) C.qn kr T C.eq h.d0 h.k0 C.ann hN h.nm h.lc h.st λu H2 s2 I2 zb md2=>?_);have L:EnvOk X.K H9 O0 H2 O ((σ.set n1.i<|some<|.ref J).set n2.i (some<|.ref u)) ((ρ.set n1.i .no).set n2.i .no):=(E1.grow zb).put n2.i (λz=>z) trivial;have l1:n1.i<σ.length:=by rw[I.len];exact(aAx.mp a.nm).1
 have l2:n2.i<σ.length:=by rw[I.len];exact(aAx.mp h.nm).1
 refine kE (xB<|SK a h B C hA FF hr hm hk hb h3 he xt hg ia za zh U bg) t s2 _ H2 D I2 ⟨H9,O0,O,_,J,u,L,?_,?_,md1.same zb,md2,?_⟩
 .rw[aCV (aCg ag),aBB l1]
 .rw[aBB (by rw[List.length_set];exact l2)]
 .revert q;dsimp only;generalize((f<|(ρ.set n1.i .no).set n2.i .no).bind λd1=>(dU n1.js<|(ρ.set n1.i .no).set n2.i .no).bind λw1=>(dU n2.js<|(ρ.set n1.i .no).set n2.i .no).bind λw2=>M d1 (n1.mm w1) (n2.mm w2))=rr;intro q;cases rr with
  |ok d=>exactλv H' s r=>q v H' (L.same.trans s) (r.sub L.sub)
  |ex z=>exactλH' s=>q H' (L.same.trans s)
  |bad=>exact q
end
def xF (K:kc):Sp:=λc H Q _=>∃(a:bb) (b:List Int),c=[.ref a]/\K0 K H a (b.map V.int)/\b.length<=63/\(∀x∈b,aAV x<=1048576)/\Tb H/\∀d,Q (.bl true) d
def SQ {P:bt}{w:cq}{K:kc}{mg:dG}{base:cv}{k:Nat}{f:bb}{fd:ek}{m:List D->R D}(F:FnOk P w K mg base tV k f fd ["script"] (lq K 1 m))
  (h:∀ns:List Int,ns.length<=63->(∀x∈ns,aAV x<=1048576)->m [.lst (ns.map D.int)]=.ok (.bl true)):FnOk P w K mg base tV k f fd ["script"] (xF K):=
 F.imp<|by rintro n H Q E ⟨a,ns,e,b,c,d,g,q⟩;exact⟨λ_=>False,_,_,by rw[e];exact .cons (.lst b (λz=>z) (Reps.ints ns)) .nil,rfl,λ_ z=>z.elim,g,λ_ _ _ z=>z,h ns c d,λv l _ r=>by cases r;exact q l⟩
def IY {P:bt}{w:cq}{K:kc}{mg mb:dG}{k:Nat}{fa a:bb}{fd:ek}{c:a9}{vs:List ai}{ns:List Int}
  (KX:K.In c.heap) (yv:c.heap.Ns be mg) (l:c.heap.Ns builtinsNs mb) (hbb:∀x:Str,x≠ "__name__"->mb x=df x) (L:c.heap.NoLimit) (hB:jI mg c.heap) (hg:c.gens=#[])
  (N:c.heap.get? a=some {cls:=.type "list",data:=.seq vs.toArray}) (hi:IntsAre vs ns) (hl:ns.length<=63) (xa:∀x∈ns,aAV x<=1048576) (hr:Room k callerA)
  (hT:∀p∈Tabs.tbs,c.heap.get? p.1=some (PySem.W.tabObj #[])/\isCodeTable c.heap p.1) (hTd:(Tabs.tbs.map (·.1)).Nodup) (hKn:PySem.W.noTabs K=true)
  (F:∀base:cv,K.In base->base.Ns be mg->jI mg base->FnOk P w K mg base tV k fa fd ["script"] (xF K)) (wu:∀(s:a9) (u:ai),BindsTo s fd ⟨[u],[]⟩ [("script",u)]):
  gn (bc P w) callerA (.call (.ref fa) ⟨[.ref a],[]⟩) (λr s'=>r=.ok (.ret (.bool true))/\OldK c.heap s'.heap/\s'.os=c.os/\AllBare s'.gens) c:=by
 have rv:=L2.P3 hi;have O:=hi.length;have jd:ns.length<=sizeLine:=aAr hl (by decide);have E:∀b g,Tabs.tbs.lookup b=some g->c.heap.get? b=some (PySem.W.tabObj #[])/\isCodeTable c.heap b:=λb g e=>hT (b,g) (mem_lookup e);have nta:Tabs.tbs.lookup a=none:=by
  cases e:Tabs.tbs.lookup a with
  |none=>rfl
  |some g=>have:=(E a g e).1;rw[N]at this;cases this
 have noK:∀b o,K.lookup b=some o->Tabs.tbs.lookup b=none:=λb o e=>by
  cases z:Tabs.tbs.lookup b with
  |none=>rfl
  |some g=>have Q:=KX b o e;rw[(E b g z).1]at Q;cases Q;have t:=aBt.mp hKn (b,_) (PySem.W.mem_of_lookupK e);exact absurd (show false=true from t) aAP
 let put:Hp->Hp:=λH b=>match Tabs.tbs.lookup b with
  |some g=>some (.tbl g)
  |none=>H b
 have pU:∀(H:Hp) b g,Tabs.tbs.lookup b=some g->put H b=some (.tbl g):=λH b g e=>by show(match Tabs.tbs.lookup b with|some g=>some (HO.tbl g)|none=>H b)=_;rw[e]
 have I:∀(H:Hp) b,Tabs.tbs.lookup b=none->put H b=H b:=λH b e=>by show(match Tabs.tbs.lookup b with|some g=>some (HO.tbl g)|none=>H b)=_;rw[e]
 have A:∀f:Hp,(∀b,f b=none\/∃Y,f b=some (.frz {cls:=.type "list",data:=.seq vs.toArray} (.lst Y)))->K0 K (put f) a (ns.map V.int)->(∀b u,f b=some u->ObjOk P w (put f) c.heap b u)->(∀b,f b≠none->b=a)->(f a≠none->K.lookup a=none)->
   gn (bc P w) callerA (.call (.ref fa) ⟨[.ref a],[]⟩) (λr s'=>r=.ok (.ret (.bool true))/\OldK c.heap s'.heap/\s'.os=c.os/\AllBare s'.gens) c:=by
  intro f hO hS T hA hK;have U:gN P w (put f) c.heap:=λb u e=>by
   cases z:Tabs.tbs.lookup b with
   |none=>rw[I _ b z]at e;exact T b u e
   |some g=>rw[pU _ b g z]at e;cases e;exact⟨#[],(E b g z).1,trivial,λp _=>.inl rfl⟩
  have ni:∀{b:bb} {o:Obj},c.heap.get? b=some o->put f b=none->(rY c.heap<|put f).get? b=some o:=λe n=>QB e n;have none_of:∀{b:bb} {o:Obj},c.heap.get? b=some o->o≠PySem.W.tabObj #[]->o≠{cls:=.type "list",data:=.seq vs.toArray}->put f b=none:=λ{b o} e n1 n2=>by
   cases z:Tabs.tbs.lookup b with
   |some g=>have:=(E b g z).1;rw[e]at this;exact absurd (aAk this) n1
   |none=>
    rw[I _ b z];cases q:f b with
    |none=>rfl
    |some u=>have e':b=a:=hA b (by rw[q];simp);subst e';rw[N]at e;exact absurd (aAk e).symm n2
  have y:∀{b:bb} {m:dG},c.heap.Ns b m->(rY c.heap<|put f).Ns b m:=λ{b m} ⟨o,es,ep,e,d,r⟩=>⟨o,es,ep,ni e (none_of e (λz=>by rw[z]at d;cases d) λz=>by rw[z]at d;cases d),d,r⟩;have hKb:K.In (rY c.heap<|put f):=λb o e=>ni (KX b o e) (by
   rw[I _ b (noK b o e)];cases q:f b with
   |none=>rfl
   |some u=>have e':b=a:=hA b (by rw[q];simp);subst e';rw[hK (by rw[q];simp)]at e;cases e)
  have hBb:jI mg (rY c.heap<|put f):=by obtain⟨bm,ob,b1,b2,b3,b4,b5,b6⟩:=hB;exact⟨bm,ob,b1,b2,ni b3 (none_of b3 (λz=>by rw[z]at b6;cases b6) λz=>by rw[z]at b6;cases b6),b4,b5,b6⟩
  have hM:Mod K mg (rY c.heap<|put f):=⟨hKb,y yv,⟨mb,y l,hbb⟩,let⟨mc,B,t⟩:=L;⟨mc,y B,t⟩⟩;have e0:Env0 P w K mg (rY c.heap<|put f) callerA [] c (put f):=⟨rfl,hM,λb o e=>VS e,aEi (JW _ _),trivial,λb l=>absurd (show b∈([]:List bb)from l) (by simp),U,.of_eq hg⟩;have tb0:Tb (put f):=λp hp=>pU _ p.1 p.2 (cH hTd hp);refine aDP ((F _ hKb (y yv) hBb).run callerA [] c (put f) ⟨[.ref a],[]⟩ [.ref a] [.ref a] (λv _=>v=.bl true) (λ_ _ _=>False) hr e0 (wu c<|.ref a) (.cons rfl .nil) ⟨a,ns,rfl,hS,hl,xa,tb0,λ_=>rfl⟩) λr s' h=>?_;cases r with
  |error e=>exact(show False from h).elim
  |ok fl=>
   cases fl with
   |next=>exact aAi h
   |brk=>exact aAi h
   |cont=>exact aAi h
   |ret u=>
    obtain⟨v,H',os,bare,un,zc,r',q⟩:=h;have q':v=.bl true:=q;subst q';obtain rfl:u=aDA true:=r';have C:∀b o,c.heap.get? b=some o->s'.heap.get? b=some o\/(isCodeTable c.heap b/\o=PySem.W.tabObj #[]/\∃J,s'.heap.get? b=some (PySem.W.tabObj J)):=λb o e=>by
     cases z:Tabs.tbs.lookup b with
     |some g=>have:=(E b g z).1;rw[e]at this;obtain⟨J,hps,_⟩:=zc b _ (un.tbls b g<|pU _ b g z);exact .inr ⟨(E b g z).2,aAk this,J,hps⟩
     |none=>
      refine .inl ?_;rcases hO b with n|⟨Y,n⟩
      .exact un.keep b o e (by rw[I _ b z];exact n) (by intro z;exact absurd (show b∈([]:List bb)from z) (by simp)) (by simp)
      .have z1:put f b=some (.frz {cls:=.type "list",data:=.seq vs.toArray} (.lst Y)):=by rw[I _ b z];exact n
       have z2:=un.frzs b _ _ z1;obtain⟨Q,_⟩:=U b _ z1;obtain⟨e2,_⟩:=zc b _ z2;rw[e]at Q;cases Q;exact e2
    refine⟨rfl,⟨λb o e=>?_,λb o e=>?_⟩,os,bare⟩
    .rcases C b o e with h|⟨B,t,J,h3⟩
     .exact .inl h
     .subst t;exact .inr (.inl ⟨B,rfl,#[],J,rfl,by rw[Array.empty_append];exact h3⟩)
    .rcases C b o e with h|⟨B,t,J,h3⟩
     .exact⟨o,h⟩
     .exact⟨_,h3⟩
 cases hk:K.lookup a with
 |some o=>have e:=KX a o hk;rw[N]at e;cases e;refine A (λ_=>none) (λ_=>.inl rfl) (.inr ⟨_,vs.toArray,_,hk,rfl,rfl,rfl,by rw[aAm,O];exact jd,by simpa using rv⟩) (λb u z=>by have z':(none:Option HO)=some u:=z;cases z') (λb z=>absurd rfl z) λz=>absurd rfl z
 |none=>
  obtain⟨f,B,t⟩:∃f:Hp,f a=some (.frz {cls:=.type "list",data:=.seq vs.toArray} (.lst (ns.map V.int)))/\∀b,b≠a->f b=none:=⟨λb=>if b=a then _ else none,jk rfl,λb l=>ka l⟩;refine A f (λb=>?_) (.inl (.inr ⟨{cls:=.type "list",data:=.seq vs.toArray},(I f a nta).trans B⟩)) (λb u z=>?_) (λb z=>?_) λ_=>hk
  .by_cases l:b=a
   .subst l;exact .inr ⟨_,B⟩
   .exact .inl (t b l)
  .by_cases l:b=a
   .subst l;rw[B]at z;cases z;exact⟨N,by rw[aAf];exact jd,vs,_,rv,N⟩
   .rw[t b l]at z;cases z
  .by_cases l:b=a
   .exact l
   .exact absurd (t b l) z
def UA {l:PySem.W.OpenLaw}{k:Nat}{q:bt}{e:List Str}{E:(Str->Option ai)->cv->Prop}{A:cq->cv->Prop}{d:DefRec}{K:Params->kc}{B:List bb}
  (H:l.most=some 63) (t:d.params.defaults=[]) (I:Room k callerA)
  (J:∀(w:cq) (h:cv),A w h->(K w.params).In h/\∀P∈B,h.get? P=some (PySem.W.tabObj #[]))
  (v:∀p∈Tabs.tbs,p.1∈B/\∃c,∀w:cq,PySem.W.codeHdIn (K w.params) c p.1=true) (x:(Tabs.tbs.map (·.1)).Nodup) (y:∀w:cq,PySem.W.noTabs (K w.params)=true)
  (F:∀(w:cq) (mg:dG) (fa:bb) (h:cv),(K w.params).In h->h.Ns be mg->mg d.name=some (.ref fa)->
   ∃fd:ek,(∀(s:a9) (u:ai),BindsTo s fd ⟨[u],[]⟩ [("script",u)])/\
    ∀base:cv,(K w.params).In base->base.Ns be mg->jI mg base->FnOk l.prog w (K w.params) mg base tV k fa fd ["script"] (xF (K w.params))):
  PySem.W.WalkO q e E A l.row.toRowW d [] (λf vs=>PySem.call f vs):=by
 refine Att2.attach_bits H t λw s9 ae mg mb fa o pm cd L a vs ns G Y ho hd fb N n m r O Q=>?_;obtain⟨z,U⟩:=J w _ Y;obtain⟨fd,hb,hF⟩:=F w mg fa _ z G.T.g N;refine IY z G.T.g G.T.b G.T.builtins G.T.nolimit G.T.bmain Q n m r O I (λp hp=>?_) x (y w) hF hb;obtain⟨h1,c,h2⟩:=v p hp;have C:=U p.1 h1;exact⟨C,((PySem.W.codeHd_of_K z<|h2 w).tab C).isCodeTable⟩
section
def wj {Y es:List cy}{p:Pos}{env:Env}:av (.List Y p::es) env=(false,d3 (.List Y p) env)::av es env:=rfl
def kw {Y:List cy}{p:Pos}{t:Option cy}{l:Nat}{env:Env}:eZ (Expr.List Y p) t l env=pure false:=rfl
end
end
end DL
namespace DL
open PySem L2
def O8 (G:D->Ev->R Ev)(F:Ev->R Out)(d:D)(ρ:Ev):R Out:=match G d ρ with
 |.ok a=>F a
 |_=>.bad
@[simp]def X9 (i:Nat)(F:Ev->R Out)(d:D)(ρ:Ev):O8 (λd ρ=>.ok (ρ.set i (Sl.v d))) F d ρ=F (ρ.set i (.v d)):=rfl
theorem tE (Iv:Ev->Prop):∀{ds:List D} {ρ:Ev},(∀d∈ds,∀ρ,Iv ρ->∃ρ2,O8 G F d ρ=.ok (.nx ρ2)/\Iv ρ2)->Iv ρ->∃a,G1 G F ds ρ=.ok (.nx a)/\Iv a
 |[],ρ,_,h=>⟨ρ,rfl,h⟩
 |d::ds,ρ,c,h=>by
  obtain⟨ρ2,e,f⟩:=c d aBa ρ h;obtain⟨a,g,k⟩:=tE Iv (ds:=ds) (ρ:=ρ2) (λd l=>c d (aAe _ l)) f;unfold O8 at e;cases b:G d ρ with
  |ok m=>rw[b]at e;exact⟨a,by rw[G1,b];dsimp only at e⊢;rw[e];exact g,k⟩
  |ex x=>rw[b]at e;cases e
  |bad=>rw[b]at e;cases e
def OI (Iv:Ev->Prop)(b:∀d∈ds,∀ρ,Iv ρ->∃ρ2,O8 G F d ρ=.ok (.nx ρ2)/\Iv ρ2)(h0:Iv ρ)(c:∀a,Iv a->N6 (f a)=.ok d):
  N6 (D9 (G1 G F ds ρ) f)=.ok d:=by
 obtain⟨a,e,h⟩:=tE Iv b h0;rw[e];exact c a h
@[simp]def mj (G:D->Ev->R Ev)(F:Ev->R Out)(ρ:Ev):G1 G F [] ρ=.ok (.nx ρ):=rfl
def OE {α:Type}{a b:α}:(R.ok a=R.ok b)=(a=b):=by simp
class Bd (a:Int)(n:outParam Nat):Prop where
 h:bits a<=n
def j7 (h:bits a<=m)(b:m<=n):bits a<=n:=aAr h b
section
end
abbrev vd (v:G.V):D:=.tup [.int v.x,.int v.y,.int v.z]
def Sz (n:Nat)(v:G.V):Prop:=bits v.x<=n/\bits v.y<=n/\bits v.z<=n
def Sz.mono (h:Sz m v)(a:m<=n:=by decide):Sz n v:=⟨j7 h.1 a,j7 h.2.1 a,j7 h.2.2 a⟩
def Sz.sub (h:Sz n u)(h':Sz n v):Sz (n+1) (u-v):=⟨bits_sub h.1 h'.1,bits_sub h.2.1 h'.2.1,bits_sub h.2.2 h'.2.2⟩
def Sz.add (h:Sz n u)(h':Sz n v):Sz (n+1) (u+v):=⟨bits_add h.1 h'.1,bits_add h.2.1 h'.2.1,bits_add h.2.2 h'.2.2⟩
def Sz.cr (h:Sz m u)(h':Sz n v):Sz (m+n+1) (G.cr u v):=⟨bits_sub (bits_mul h.2.1 h'.2.2) (bits_mul h.2.2 h'.2.1),bits_sub (bits_mul h.2.2 h'.1) (bits_mul h.1 h'.2.2),bits_sub (bits_mul h.1 h'.2.1) (bits_mul h.2.1 h'.1)⟩
end DL
namespace M
open PySem L2 DL
abbrev pt (a b c:Int):D:=.tup [.int a,.int b,.int c]
abbrev XJ (n:Nat)(a b c:Int):Prop:=bits a<=n/\bits b<=n/\bits c<=n
def SE (k:List D->List D->R D):List D->R D
 |.lst Y::a=>k Y a
 |_=>.bad
def SB (k:List D->List D->R D):List D->R D
 |.tup Y::a=>k Y a
 |_=>.bad
def BH (k:Int->List D->R D):List D->R D
 |.int a::b=>k a b
 |_=>.bad
def aY {k:Int->List D->R D}{ds:List D}{r:D}(h:BH k ds=.ok r):∃a e,ds=.int a::e/\k a e=.ok r:=by
 unfold BH at h;split at h
 .exact⟨_,_,rfl,h⟩
 .cases h
def oV (q:R D):List D->R D
 |[]=>q
 |_=>.bad
def wP (h:SE k ds=.ok r):∃Y e,ds=.lst Y::e/\k Y e=.ok r:=by
 unfold SE at h;split at h
 .exact⟨_,_,rfl,h⟩
 .cases h
def wS (h:SB k ds=.ok r):∃Y e,ds=.tup Y::e/\k Y e=.ok r:=by
 unfold SB at h;split at h
 .exact⟨_,_,rfl,h⟩
 .cases h
def C4 (h:oV q ds=.ok r):ds=[]/\q=.ok r:=by
 unfold oV at h;split at h
 .exact⟨rfl,h⟩
 .cases h
def v1 (k:Int->Int->Int->List D->R D):List D->R D:=SB λY e=>BH (λa=>BH λb=>BH λc=>oV (k a b c e)) Y
def v4 (k:Int->Int->Int->Int->List D->R D):List D->R D:=SB λY e=>BH (λa=>BH λb=>BH λc=>BH λd=>oV (k a b c d e)) Y
def v3 (k:Int->Int->Int->List D->R D):List D->R D:=SB λY e=>BH (λa=>BH λb=>BH λc _=>k a b c e) Y
def XO (h:v3 k ds=.ok r):∃a b c t e,ds=.tup (.int a::.int b::.int c::t)::e/\k a b c e=.ok r:=by obtain⟨Y,e,rfl,h⟩:=wS h;obtain⟨a,x,rfl,h⟩:=aY h;obtain⟨b,y,rfl,h⟩:=aY h;obtain⟨c,z,rfl,h⟩:=aY h;exact⟨a,b,c,z,e,rfl,h⟩
def C3 (h:v1 k ds=.ok r):∃a b c e,ds=.tup [.int a,.int b,.int c]::e/\k a b c e=.ok r:=by obtain⟨Y,e,rfl,h⟩:=wS h;obtain⟨a,x,rfl,h⟩:=aY h;obtain⟨b,y,rfl,h⟩:=aY h;obtain⟨c,z,rfl,h⟩:=aY h;obtain⟨rfl,h⟩:=C4 h;exact⟨a,b,c,e,rfl,h⟩
def MO (h:v4 k ds=.ok r):∃a b c d e,ds=.tup [.int a,.int b,.int c,.int d]::e/\k a b c d e=.ok r:=by obtain⟨Y,e,rfl,h⟩:=wS h;obtain⟨a,x,rfl,h⟩:=aY h;obtain⟨b,y,rfl,h⟩:=aY h;obtain⟨c,z,rfl,h⟩:=aY h;obtain⟨d,w,rfl,h⟩:=aY h;obtain⟨rfl,h⟩:=C4 h;exact⟨a,b,c,d,e,rfl,h⟩
def l5:List D->R D:=v1 λa b c=>v1 λd e f=>oV (.ok (pt (d-a) (e-b)<|f-c))
def w5:List D->R D:=v1 λa b c=>v1 λd e f=>oV (if XJ 20000000 a b c/\XJ 20000000 d e f then .ok (pt (b*f-c*e) (c*d-a*f)<|a*e-b*d)else .bad)
def j5:List D->R D:=v3 λa b c=>v1 λd e f=>oV (if XJ 50000000 a b c/\XJ 50000000 d e f then .ok (.int (a*d+b*e+c*f))else .bad)
@[simp]def BM (P Q:G.V):l5 [vd P,vd Q]=.ok (vd (Q-P)):=rfl
def bI (a:Sz 20000000 u)(b:Sz 20000000 v):w5 [vd u,vd v]=.ok (vd (G.cr u v)):=jk ⟨a,b⟩
def Z1 (a:Sz 50000000 u)(b:Sz 50000000 v):j5 [vd u,vd v]=.ok (.int (G.c8 u v)):=jk ⟨a,b⟩
def rule (k:Int):Int:=7*k*k+10*k+3
def P64:Int:=10^64
def P34:Int:=10^34
def a4b:Int:=P64*P34
def sgn (x:Int):Int:=if 0<x then 1 else if x<0 then-1 else 0
def bD:List D->R D:=v4 λa b c d=>v1 λx y z=>oV (if XJ 50000000 a b c/\XJ 50000000 x y z then .ok (.int (sgn<|a*x+b*y+c*z-d))else .bad)
def VJ (e:XJ 50000000 a b c)(f:XJ 50000000 x y z):bD [.tup [.int a,.int b,.int c,.int d],pt x y z]=.ok (.int (sgn (a*x+b*y+c*z-d))):=jk ⟨e,f⟩
def XN (i:Nat)(ρ:Ev):Nat:=match ρ[i]? with
 |some (.v (.int b))=>b.natAbs+2
 |_=>0
def zM (c:bits a<=n)(d:bits b<=n):bits (aGs a b)<=n:=by
 refine HQ ?_;have f:=FR c;have g:=FR d;have e:((aGs a b:Nat):Int).natAbs=aGs a b:=by simp
 rw[e];unfold aGs;rcases Nat.eq_zero_or_pos a.natAbs with z|z
 .rw[z,Nat.gcd_zero_left];exact g
 .exact aCN (Nat.gcd_le_left _ z) f
end M
namespace DL
open PySem PySem.Spec L2
open PyProof.Rows hiding St
theorem P3:∀{ns:List Int} {a:List ai},l6 (ns.map V.int) a->IntsAre a ns
 |[],_,.nil=>.nil
 |n::ns,_,.cons r t=>by obtain⟨b,rfl⟩:=r;exact .cons n b (P3 t)
section
def JB (k:X.calm=true):uM X (.builtin "sum") (λY H Q=>∃(p:bb) (ns:List Int),Y=[.ref p]/\K0 X.K H p (ns.map V.int)/\Q (.int ns.sum) H):=by
 intro d s σ H Y y Q I r h;obtain⟨p,ns,rfl,l,q⟩:=h;obtain⟨u,rfl,m⟩:=vals1 r;cases m;obtain⟨a,n,o,z⟩:=I.list l;have f:=P3 n;obtain⟨b,e⟩:=f.allInts.items;have g:=o.isList;rw[e]at g;refine sum_intListG (I.ok.hd k) g λA B t v=>?_;have w:preSum (i3 b) b.size=ns.sum:=by have c:=nums_intItems b;rw[<-e]at c;have x:=f.numsOf;rw[show a.toArray.toList=a from rfl,x]at c;rw[preSum_eq,aCK (by simp),c]
 rw[w];exact⟨.int ns.sum,H,I.kept v,⟨t,rfl⟩,q⟩
def fB:List D->Option (List Int)
 |[]=>some []
 |.int i::r=>(fB r).map (i::·)
 |_=>none
theorem fP:∀{ds:List D} {ns:List Int},fB ds=some ns->ds=ns.map D.int
 |[],ns,h=>by cases h;rfl
 |.int i::r,ns,h=>by simp only[fB,aDl]at h;obtain⟨m,a,rfl⟩:=h;rw[fP a];rfl
 |.non::_,_,h=>by cases h
 |.bl _::_,_,h=>by cases h
 |.str _::_,_,h=>by cases h
 |.tup _::_,_,h=>by cases h
 |.lst _::_,_,h=>by cases h
 |.dct::_,_,h=>by cases h
theorem kG:∀ns:List Int,fB (ns.map D.int)=some ns
 |[]=>rfl
 |n::ns=>by simp[fB,kG ns]
theorem gA {K:kc}{H:Hp}{O:bb->Prop}:∀{vs:List V} {ns:List Int},Reps K H O vs (ns.map D.int)->vs=ns.map V.int
 |[],[],_=>rfl
 |v::vs,n::ns,.cons h t=>by cases h;rw[gA t];rfl
def VO:List D->R D
 |[.lst Y]=>match fB Y with
  |some a=>.ok (.int a.sum)
  |none=>.bad
 |_=>.bad
variable [Tabs]in
def iy (c:X.calm=true):dD X (.builtin "sum") VO:=by
 intro H O g d Q h r q;match d,q with
 |[.lst Y],q=>
  obtain⟨v,rfl,z⟩:=HR r;obtain⟨p,k,rfl,a,b⟩:=z.aa3;simp only[VO]at q;cases e:fB Y with
  |none=>rw[e]at q;exact q.elim
  |some f=>rw[e]at q;rw[fP e]at b;rw[gA b]at a;exact⟨_,JB c,p,f,rfl,a,q _ H (Same.refl _) .int⟩
end
theorem uY (Iv:List D->Ev->Prop)(c:∀d ds ρ,Iv (d::ds) ρ->∃ρ2,O8 G F d ρ=.ok (.nx ρ2)/\Iv ds ρ2):∀{ds:List D} {ρ:Ev},Iv ds ρ->∃a,G1 G F ds ρ=.ok (.nx a)/\Iv [] a
 |[],ρ,h=>⟨ρ,rfl,h⟩
 |d::ds,ρ,h=>by
  obtain⟨ρ2,e,f⟩:=c d ds ρ h;obtain⟨a,g,k⟩:=uY Iv c f;unfold O8 at e;cases b:G d ρ with
  |ok l=>rw[b]at e;exact⟨a,by rw[G1,b];dsimp only at e⊢;rw[e];exact g,k⟩
  |ex x=>rw[b]at e;cases e
  |bad=>rw[b]at e;cases e
def fD (Iv:List D->Ev->Prop)(b:∀d ds ρ,Iv (d::ds) ρ->∃ρ2,O8 G F d ρ=.ok (.nx ρ2)/\Iv ds ρ2)(h0:Iv ds ρ)(c:∀a,Iv [] a->N6 (f a)=.ok d):
  N6 (D9 (G1 G F ds ρ) f)=.ok d:=by
 obtain⟨a,e,h⟩:=uY Iv b h0;rw[e];exact c a h
def qL {Post:Ev->Prop}(Iv:Nat->Ev->Prop)(d:∀n ρ,Iv (n+1) ρ->c ρ=.ok false\/(c ρ=.ok true/\∃ρ2,F ρ=.ok (.nx ρ2)/\Iv n ρ2))(b:∀ρ,¬Iv 0 ρ)(h0:Iv n ρ)(f:∀m a,Iv m a->c a=.ok false->Post a):∃ρ2,T2 c F n ρ=.ok (.nx ρ2)/\Post ρ2:=by obtain⟨m,a,e,h,g⟩:=iF Iv d b n ρ h0;exact⟨a,e,f m a h g⟩
end DL
namespace M
open PySem L2 DL
abbrev xS (n:G.V)(d:Int):D:=.tup [.int n.x,.int n.y,.int n.z,.int d]
def G7:List D->R D:=v1 λa b c=>oV (.ok (.int (G.q9 ⟨a,b,c⟩)))
def CZ (v:G.V):G7 [vd v]=.ok (.int (G.q9 v)):=rfl
def Sz3 (P Q R:G.V):Prop:=Sz 1000 P/\Sz 1000 Q/\Sz 1000 R
open Classical in
def S4:List D->R D:=v1 λa b c=>v1 λd e f=>v1 λg h i=>oV (
 if Sz3 ⟨a,b,c⟩ ⟨d,e,f⟩ ⟨g,h,i⟩/\G.cr ((⟨d,e,f⟩:G.V)-⟨a,b,c⟩) ((⟨g,h,i⟩:G.V)-⟨a,b,c⟩)≠0 then .ok (xS (G.d5 ⟨a,b,c⟩ ⟨d,e,f⟩ ⟨g,h,i⟩).1 (G.d5 ⟨a,b,c⟩ ⟨d,e,f⟩ ⟨g,h,i⟩).2)else .bad)
def NW {P Q R:G.V}(h:Sz3 P Q R)(a:G.cr (Q-P) (R-P)≠0):S4 [vd P,vd Q,vd R]=.ok (xS (G.d5 P Q R).1 (G.d5 P Q R).2):=jk ⟨h,a⟩
def uF (h:Sz n v):bits (G.q9 v:Nat)<=n:=by
 have e:((G.q9 v:Nat):Int)=aGs (aGs v.x v.y:Nat) v.z:=by simp[G.q9,aGs]
 rw[e];exact zM (zM h.1 h.2.1) h.2.2
def eM {a g:Int}(h:0<g):a.fdiv g=a/g:=Int.fdiv_eq_ediv_of_nonneg a (aAW h)
end M
namespace DL
open PySem PySem.Spec L2
open PyProof.Rows hiding St
section
variable [Tabs]
mutual
inductive HV (h:Heap):Value->D->Prop
 |int (i:Int) (t:Tok):HV h (.int i t) (.int i)
 |tup {a:Addr} {items:Array Value} {ds:List D} (p:IsTup h a items) (r:HVs h items.toList ds):HV h (.ref a) (.tup ds)
inductive HVs (h:Heap):List Value->List D->Prop
 |nil:HVs h [] []
 |cons {v:Value} {d:D} {vs:List Value} {ds:List D} (r:HV h v d) (t:HVs h vs ds):HVs h (v::vs) (d::ds)
end
mutual
def rF:D->Bool
 |.int _=>true
 |.tup Y=>gZ Y
 |_=>false
def gZ:List D->Bool
 |[]=>true
 |x::Y=>rF x&&gZ Y
end
theorem iX:∀Y:List D,wR Y=Y.map o6
 |[]=>rfl
 |x::Y=>by rw[wR,iX Y];rfl
section
mutual
theorem HV.keeps (k:∀b o,h.get? b=some o->o.cls=.type "tuple"->h'.get? b=some o):∀{v:ai} {d:D},HV h v d->HV h' v d
 |_,_,.int i t=>.int i t
 |_,_,.tup p r=>.tup (by obtain⟨o,e,c,n,d⟩:=p;exact⟨o,k _ _ e c,c,n,d⟩) (HVs.keeps k r)
theorem HVs.keeps (k:∀b o,h.get? b=some o->o.cls=.type "tuple"->h'.get? b=some o):∀{v:List ai} {d:List D},HVs h v d->HVs h' v d
 |_,_,.nil=>.nil
 |_,_,.cons r t=>.cons (HV.keeps k r) (HVs.keeps k t)
end
mutual
theorem HV.inj:∀{v:ai} {d d':D},HV h v d->HV h v d'->d=d'
 |_,_,_,.int i t,.int _ _=>rfl
 |_,_,_,.tup p r,.tup f g=>by obtain⟨o,e,c,n,k⟩:=p;obtain⟨l,a,m,s,b⟩:=f;rw[e]at a;cases a;rw[k]at b;injection b with q _;subst q;rw[HVs.inj r g]
theorem HVs.inj:∀{v:List ai} {d d':List D},HVs h v d->HVs h v d'->d=d'
 |_,_,_,.nil,.nil=>rfl
 |_,_,_,.cons r t,.cons a b=>by rw[HV.inj r a,HVs.inj t b]
end
theorem HVs.length:∀{v:List ai} {d:List D},HVs h v d->v.length=d.length
 |_,_,.nil=>rfl
 |_,_,.cons _ t=>by simp[HVs.length t]
end
section
variable{prog:bt} {w:cq}
def PH (prog:bt)(w:cq)(h:cv)(v:ai)(d:D):Prop:=∀(A:cp) (E:E8) (s:a9) (Q:Int->a9->Prop),s.heap=h->A.units+8*B5 d<dA->(∀a,s.toks<=a->Q (o6 d) {s with toks:=a})->a5 (bc prog w) A (pyHash v) Q E s
mutual
theorem XY:∀{v:ai} {d:D},HV h v d->PH prog w h v d
 |_,_,.int i t=>λA E s Q H I q=>by exact(intKind prog w).pyHash (k:=i) (intKind_is _ _ _ _) (q _<|Nat.le_succ _)
 |_,_,.tup (a:=a) (items:=items) (ds:=ds) p r=>λA E s Q H I q=>by
  have fs:=LV r;subst H;obtain⟨o,J,N,n,O⟩:=p;have m:s.TypeIs (.ref a) "tuple":=⟨o,J,N⟩;have T:A.units<dA:=by lia
  rw[B5]at I;unfold pyHash;first|unfold pyHashByItsType|skip
  first|refine aAa (wpAny_cRoomFor_or (.inr T) ?_)|skip
  refine aAa (aBs m PySem.F.slot_tuple_hash.lookup ?_);show a5 _ _ (if(some (aGk "tuple.__hash__")==some Value.none)=true then _ else _) Q E s;rw[ka (by rw[aFv];exact aAP)];refine aAa (aBs m PySem.F.slot_tuple_hash.lookup ?_);show a5 _ _ (callSpecialIfBoundUnlessNone? (.ref a) "__hash__" _>>=_) Q E s;refine aAa (aDq m PySem.F.slot_tuple_hash<|aBh PySem.F.slot_tuple_hash m PySem.F.entry_tuple_hash ?_ (PySem.F.args_tuple_hash_1 _));show a5 _ _ (aDD (.ref a)>>=_) _ _ s;refine aAa (wpAny_tupleItemsOf J O ?_);refine aAa ?_;rw[<-aCr];refine aCu _
   (λrest (b:Array Int) B=>∃done left f,ds=done++left/\Paired (PH prog w s.heap) rest left/\b.toList=done.map o6/\s.toks<=f/\B={s with toks:=f})
   _ ?_ ?_ _ _ ⟨[],ds,s.toks,rfl,fs,rfl,aAj _,rfl⟩
  .rintro x rest b B ⟨done,left,f,g,C,u,U,rfl⟩;cases C with
   |@cons _ d _ c Y L=>
    refine aAa (Y _ _ _ _ rfl ?_ λy e=>?_)
    .have:B5 d<=z6 ds:=by rw[g];exact oE (j:=done.length) (by simp)
     rw[p8];lia
    first
     |exact aAb ⟨done++[d],c,y,by simp[g],L,by simp[u],by(have:f<=y:=e);lia,rfl⟩
     |exact aAa (aAb (aAb ⟨done++[d],c,y,by simp[g],L,by simp[u],by(have:f<=y:=e;lia),rfl⟩))
  .rintro b B ⟨done,left,f,g,C,u,U,rfl⟩;cases C;rw[aCn]at g;subst g;show a5 _ _ (retInt<|aAJ b.toList) _ _ _;rw[u];refine wpAny_ret_mkInt ?_;show a5 _ _ (if(decide (-(2:Int)^63<=aAJ (ds.map o6))&&decide (aAJ (ds.map o6)<2^63))=true then _ else _) Q E _;have l:=q (f+1) (by lia);rw[o6,iX]at l;unfold reduceHash at l;by_cases z:(decide (-(2:Int)^63<=aAJ (ds.map o6))&&decide (aAJ (ds.map o6)<2^63))=true
   .rw[jk z];rw[jk z]at l;exact aAb l
   .rw[ka z];rw[ka z]at l;exact aAa (aDz<|aAb l)
theorem LV:∀{v:List ai} {d:List D},HVs h v d->Paired (PH prog w h) v d
 |_,_,.nil=>.nil
 |_,_,.cons r t=>.cons (XY r) (LV t)
end
mutual
theorem GX:∀{v u:ai} {d e:D} {A:cp},HV s.heap v d->HV s.heap u e->A.units+B5 d<dA->SeqAt.EqAt A s v u (u7 d e)
 |_,_,_,_,A,.int i t,.int j g,_=>by simp only[u7];exact aEU _ _ _ _
 |_,_,_,_,A,.int i t,.tup p r,b=>by simp only[u7];exact aFR _ _ p (by lia)
 |_,_,_,_,A,.tup p r,.int j g,b=>by simp only[u7];exact aFS _ _ p (by lia)
 |_,_,_,_,A,.tup (a:=a) (ds:=ds) p r,.tup (a:=h) (ds:=k) f c,b=>by
  by_cases e:a=h
  .subst e;have:=HV.inj (.tup p r) (.tup f c);rw[this,M7];exact aDV _
  .simp only[u7];rw[B5]at b;exact aEV e (lY (by simpa using p) (by simpa using f) r.length c.length (by lia) (NT r c (by rw[p8];lia))).1
theorem NT:∀{vs c:List ai} {ds es:List D} {A:cp},HVs s.heap vs ds->HVs s.heap c es->A.in1.units+z6 ds<dA->oI A s vs c ds es
 |_,_,_,_,A,.nil,_,_=>λj u w a b=>by simp at a
 |_,_,_,_,A,.cons r t,.nil,_=>λj u w a b=>by simp at b
 |_,_,_,_,A,.cons (d:=d) (ds:=ds) r t,.cons (d:=h) (ds:=k) e f,g=>λj u w a b=>by
  rw[z6]at g;match j,a,b with
  |0,a,b=>simp only[aDe,aGp]at a b;subst a b;exact GX r e (by lia)
  |j+1,a,b=>simp only[aDg]at a b;exact NT t f (by lia) j u w a b
end
mutual
theorem gB:∀{d e:D},rF d=true->rF e=true->u7 d e=true->d=e
 |.int i,.int j,_,_,h=>by simp[u7]at h;rw[h]
 |.tup Y,.tup c,a,b,h=>by rw[rF]at a b;rw[u7]at h;rw[xW a b h]
 |.int _,.tup _,_,_,h=>by simp[u7]at h
 |.tup _,.int _,_,_,h=>by simp[u7]at h
 |.non,_,h,_,_=>by simp[rF]at h
 |.bl _,_,h,_,_=>by simp[rF]at h
 |.str _,_,h,_,_=>by simp[rF]at h
 |.lst _,_,h,_,_=>by simp[rF]at h
 |_,.non,_,h,_=>by simp[rF]at h
 |_,.bl _,_,h,_=>by simp[rF]at h
 |_,.str _,_,h,_=>by simp[rF]at h
 |_,.lst _,_,h,_=>by simp[rF]at h
theorem xW:∀{d e:List D},gZ d=true->gZ e=true->S7 d e=true->d=e
 |[],[],_,_,_=>rfl
 |[],_::_,_,_,h=>by simp[S7]at h
 |_::_,[],_,_,h=>by simp[S7]at h
 |x::Y,y::c,a,b,h=>by rw[gZ,aAM]at a b;rw[S7,aAM]at h;rw[gB a.1 b.1 h.1,xW a.2 b.2 h.2]
end
mutual
theorem HV.ok:∀{v:ai} {d:D},HV h v d->rF d=true
 |_,_,.int i t=>rfl
 |_,_,.tup p r=>by rw[rF];exact HVs.ok r
theorem HVs.ok:∀{v:List ai} {d:List D},HVs h v d->gZ d=true
 |_,_,.nil=>rfl
 |_,_,.cons r t=>by rw[gZ,HV.ok r,HVs.ok t];rfl
end
mutual
theorem jP:∀{v:ai} {d:D} (k:Nat),HV h v d->B5 d<k->∀(M:Model) (A:cp) (E:E8) (s:a9) (Q:yG),s.heap=h->Q true s->a5 M A (eqIsQuiet k v) Q E s
 |_,_,k,.int i t,_=>λM A E s Q m q=>by unfold eqIsQuiet;exact aAb q
 |_,_,k,.tup (a:=a) (items:=items) (ds:=ds) p r,c=>λM A E s Q m q=>by
  subst m;obtain⟨o,u,y,n,z⟩:=p;have x:s.TypeIs (.ref a) "tuple":=⟨o,u,y⟩;match k,c with
  |k+1,c=>
   rw[B5]at c;unfold eqIsQuiet;refine aAa (aBs x PySem.F.slot_tuple_eq.lookup ?_);show a5 _ _ (isInstance (.ref a) (.type "tuple")>>=_) _ _ s;refine aAa (aDi x isSubtype_tuple_tuple ?_);simp only[aDf,aAt,if_false];refine aAa (aBN u z ?_);refine aAa ?_;show a5 _ _ (forIn items _ _) _ _ s;rw[<-aCr];refine aCu _ (λrest r b=>r.1=none/\b=s/\∃e,HVs s.heap rest e/\z6 e<k) _ ?_ ?_ _ _ ⟨rfl,rfl,ds,r,by lia⟩
   .rintro v rest r b ⟨f,rfl,e,g,l⟩;cases g with
    |@cons _ d _ B g C=>rw[z6]at l;refine aAa (jP k g (by lia) M A E b _ rfl ?_);simp only[aDf,aAt,if_false];exact aAb ⟨rfl,rfl,B,C,by lia⟩
   .rintro⟨H,I⟩ b ⟨f,rfl,_⟩;simp only at f;subst f;exact aAb q
end
mutual
theorem iO:∀{v:ai} {d:D} (k:Nat),HV h v d->B5 d<k->∀(M:Model) (A:cp) (E:E8) (s:a9) (Q:yG),s.heap=h->Q false s->a5 M A (ofAClassStatement k v) Q E s
 |_,_,k,.int i t,_=>λM A E s Q m q=>by unfold ofAClassStatement;exact aAb q
 |_,_,k,.tup (a:=a) (items:=items) (ds:=ds) p r,c=>λM A E s Q m q=>by
  subst m;obtain⟨o,u,x,n,y⟩:=p;have z:s.TypeIs (.ref a) "tuple":=⟨o,u,x⟩;match k,c with
  |k+1,c=>
   rw[B5]at c;unfold ofAClassStatement;refine aAa (aDQ z ?_);dsimp only;rw[jk (by decide)];refine aAa (aAb ?_);simp only[aDf,aAt,if_false];refine aAa (aBN u y ?_);dsimp only;refine aAa ?_;show a5 _ _ (forIn items _ _) _ _ s;rw[<-aCr];refine aCu _ (λrest r b=>r.1=none/\b=s/\∃e,HVs s.heap rest e/\z6 e<k) _ ?_ ?_ _ _ ⟨rfl,rfl,ds,r,by lia⟩
   .rintro v rest r b ⟨f,rfl,e,g,l⟩;cases g with
    |@cons _ d _ B g C=>rw[z6]at l;refine aAa (iO k g (by lia) M A E b _ rfl ?_);simp only[aAt,if_false];exact aAb ⟨rfl,rfl,B,C,by lia⟩
   .rintro⟨H,I⟩ b ⟨f,rfl,_⟩;simp only at f;subst f;exact aAb q
end
mutual
theorem pW:∀{v:ai} {d:D} (k:Nat),HV h v d->B5 d<k->∀(M:Model) (A:cp) (E:E8) (s:a9) (Q:yG),s.heap=h->Q true s->a5 M A (hashByValue k v) Q E s
 |_,_,k,.int i t,_=>λM A E s Q m q=>by unfold hashByValue;exact aAb q
 |_,_,k,.tup (a:=a) (items:=items) (ds:=ds) p r,c=>λM A E s Q m q=>by
  subst m;obtain⟨o,u,x,n,y⟩:=p;have z:s.TypeIs (.ref a) "tuple":=⟨o,u,x⟩;match k,c with
  |k+1,c=>
   rw[B5]at c;unfold hashByValue;refine aAa (aBs z PySem.F.slot_tuple_hash.lookup ?_);dsimp only;refine aAa (aBN u y ?_);refine aAa ?_;show a5 _ _ (forIn items _ _) _ _ s;rw[<-aCr];refine aCu _ (λrest r b=>r.1=none/\b=s/\∃e,HVs s.heap rest e/\z6 e<k) _ ?_ ?_ _ _ ⟨rfl,rfl,ds,r,by lia⟩
   .rintro v rest r b ⟨f,rfl,e,g,l⟩;cases g with
    |@cons _ d _ B g C=>rw[z6]at l;refine aAa (pW k g (by lia) M A E b _ rfl ?_);simp only[aDf,aAt,if_false];exact aAb ⟨rfl,rfl,B,C,by lia⟩
   .rintro⟨H,I⟩ b ⟨f,rfl,_⟩;simp only at f;subst f;exact aAb q
end
def mL {α:Type}{M:Model}{A:cp}{E:E8}{s:a9}{Q:α->a9->Prop}{c:Prop}[Decidable c]{a b:Sem α}(d:c->a5 M A a Q E s)(e:¬c->a5 M A b Q E s):a5 M A (if c then a else b) Q E s:=by
 by_cases h:c
 .rw[jk h];exact d h
 .rw[ka h];exact e h
def YM {M:Model}{A:cp}{E:E8}{s:a9}{Q:yG}{x:ai}{d:D}(l:HV s.heap x d)(m:B5 d<8)(c:List ai)(o:∀y∈c,∃e,HV s.heap y e/\B5 e<8)(q:Q false s):a5 M A (searchCouldBeSeen x c) Q E s:=by
 unfold searchCouldBeSeen;refine aAa ?_;refine aCu _ (λrest r a=>r.1=none/\a=s/\∀y∈rest,y∈c) _ ?_ ?_ _ _ ⟨rfl,rfl,λy h=>h⟩
 .rintro y rest r a ⟨f,rfl,g⟩;obtain⟨e,n,b⟩:=o y (g y (by simp));dsimp only;refine mL (λ_=>?_) (λ_=>?_)
  .exact aAb ⟨rfl,rfl,λz k=>g z (aAe _ k)⟩
  .refine aAa (jP 8 l m M A E a _ rfl ?_);simp only[aDf,aAt,if_false];refine aAa (jP 8 n b M A E a _ rfl ?_);simp only[aDf,aAt,if_false];refine aAa (iO 8 l m M A E a _ rfl ?_);simp only[aAt,if_false];refine aAa (iO 8 n b M A E a _ rfl ?_);simp only[aAt,if_false];exact aAb ⟨rfl,rfl,λz k=>g z (aAe _ k)⟩
 .rintro⟨p,t⟩ a ⟨f,rfl,_⟩;simp only at f;subst f;exact aAb q
end
def EV (h:cv)(e:Int×ai)(d:D):Prop:=HV h e.2 d/\e.1=o6 d
theorem F9 {α β:Type}{F:α->β->Prop}:∀{l:List α} {m:List β} {i:Nat} {a:α},Paired F l m->l[i]?=some a->∃b,m[i]?=some b/\F a b
 |_,_,_,_,.nil,h=>by simp at h
 |_,_,0,_,.cons r _,h=>by simp at h;subst h;exact⟨_,rfl,r⟩
 |_,_,i+1,a,.cons _ t,h=>by obtain⟨b,c,d⟩:=F9 (i:=i) t (by simpa using h);exact⟨b,by simpa using c,d⟩
theorem dJ {α β:Type}{F:α->β->Prop}:∀{l:List α} {m:List β} {i:Nat} {b:β},Paired F l m->m[i]?=some b->∃a,l[i]?=some a/\F a b
 |_,_,_,_,.nil,h=>by simp at h
 |_,_,0,_,.cons r _,h=>by simp at h;subst h;exact⟨_,rfl,r⟩
 |_,_,i+1,a,.cons _ t,h=>by obtain⟨b,c,d⟩:=dJ (i:=i) t (by simpa using h);exact⟨b,by simpa using c,d⟩
theorem gP {α β:Type}{F:α->β->Prop}:∀{l:List α} {m:List β},Paired F l m->l.length=m.length
 |_,_,.nil=>rfl
 |_,_,.cons _ t=>by simp[gP t]
section
variable{es:Array (Int×ai)}
def jU (K:ST.SOk t es.toList):t.fits es.size=true:=by
 have a:=K.len;have c:=K.room;have b:=K.tab.nod;unfold aGl SetTable.fill;rw[b];simp at a⊢
 lia
theorem mX (ho:s.heap.get? S=some o)(hd:o.data=.set es ep t)(K:ST.SOk t es.toList)(u:t.mask%2=1)(P:Paired (EV s.heap) es.toList ds)(N:HV s.heap (.ref x) (.tup Y))(B:B5 (.tup Y)<8)(xv:∀e∈ds,B5 e<8)(hT:∀e∈ds,∃C,e=.tup C)
  (hu:A.units+16<dA) (hf:ST.W2 t (o6 (.tup Y)) n0) {Q:SetFound->a9->Prop} (f:D.tup Y∈ds->Q (.there none) s) (b:D.tup Y∉ds->Q (.free (ST.n8 t.mask (o6 (.tup Y)) n0).j false) s):
  ∀(a n:Nat) (O:Option SetTable.Probe),O.getD (t.probeStart (o6 (.tup Y)))=ST.n8 t.mask (o6 (.tup Y)) n->n<=n0->n0-n<a->
   (∀m<n,∀(i:Nat),t.place[i]?=some (ST.n8 t.mask (o6 (.tup Y)) m).j->ds[i]?≠some (.tup Y))->a5 (bc prog w) A (setSearchFrom S (.ref x) (o6 (.tup Y)) true a O) Q E s
 |0,n,O,_,_,h,_=>by lia
 |a+1,n,O,jn,hn,hfu,H=>by
  unfold setSearchFrom;refine aAa (aCj ho hd (jU K) ?_);dsimp only;refine mL (λz=>?_) (λ_=>?_)
  .unfold SetTable.gaveWay at z;simp at z;lia
  rw[jn];obtain⟨T,a1,a2,a3,a4⟩:=ST.NO K.tab (λi=>(es[i]?.map (·.1)).getD 0) (o6<|.tup Y) hf n hn;generalize hg:t.probe _ (o6<|.tup Y) (ST.n8 t.mask (o6<|.tup Y) n)=pm;rcases a4 with⟨en,e⟩|⟨ao,i,q,hh,e⟩
  .have ep:pm=_:=hg.symm.trans e;rw[ep];dsimp only;refine aAb (b λI=>?_);obtain⟨i,q⟩:=aBU.mp I;obtain⟨⟨J,v⟩,he,h1,h2⟩:=dJ P q;obtain⟨j,U,qp⟩:=ST.VL K.len he;dsimp only at h2;have hr:=K.reach _ qp;dsimp only at hr;rw[h2]at hr;obtain⟨m,I,em⟩:=ST.Reach.before hf (by rw[<-aAA]at U;exact aAn U) hr;by_cases z:m<n
   .exact H m z i (by rw[em];exact U) q
   .obtain⟨d,gi,ag⟩:=a3 m (by lia) (by lia);have:d=i:=by have f:=ST.L7 K.tab gi;have b:=ST.L7 K.tab U;rw[em]at f;rw[f]at b;injection b
    subst this;refine ag ?_;show(es[d]?.map (·.1)).getD 0=_;rw[<-aAA,he];exact h2
  .have ep:pm=_:=hg.symm.trans e;rw[ep];dsimp only;have L:i<es.size:=by
    have:=(aCi.mp q).1;have h1:=K.len;simp at h1
    lia
   have g:es[i]?=some es[i]:=aAy L;obtain⟨di,c,J,l⟩:=F9 P (show es.toList[i]?=some es[i]by rw[aAA];exact g);obtain⟨C,rfl⟩:=hT di (aAn c);have go:a5 (bc prog w) A (do
     let some (_,y):=es[i]?|unsupported "internal:set-entry"
     let equal<-gh [y] (eqBool y<|.ref x)
     let(es',_,t')<-setState S
     if true&&equal then return .there none
     let some same:=t'.sameMemory t.moves t.mask|unsupported "set.changed-during-lookup:is-the-new-block-at-the-old-address"
     let XX<-match(if same then t'.slot (ST.n8 t.mask (o6<|.tup Y) T).j else .empty)with
      |.live d=>match es'[d]? with
       |some (_,y')=>do pure (if<-isSame y' y then some d else none)
       |none=>pure none
      |_=>pure none
     match XX with
     |none=>rule "set.search.anew";setSearchFrom S (.ref x) (o6<|.tup Y) true a none
     |some d=>if equal then return .there (some d)else setSearchFrom S (.ref x) (o6<|.tup Y) true a (some<|ST.n8 t.mask (o6<|.tup Y)<|T+1)) Q E s:=by
    rw[g];generalize he:es[i]=en at*
    obtain⟨hn,y⟩:=en;dsimp only at J l⊢;refine aAa (aAK (GX J N (by have:=xv _ (aAn c);lia) prog w E _ ?_));refine aAa (aCj ho hd (jU K) ?_);dsimp only;cases hq:u7 (.tup C) (.tup Y)with
    |true=>rw[jk (show(true&&true)=true from rfl)];have:D.tup C=.tup Y:=gB J.ok N.ok hq;rw[this]at c;exact aAb (f<|aAn c)
    |false=>
     rw[ka (by simp)];have hsm:t.sameMemory t.moves t.mask=some true:=by unfold SetTable.sameMemory;rw[jk (by simp)]
     rw[hsm];dsimp only;rw[jk rfl,ST.L7 K.tab q];dsimp only;rw[g];dsimp only;cases J with
     |tup p r=>
      refine aAa (wpAny_isSame_ref_self ?_);refine aAa (aAb ?_);rw[jk rfl];dsimp only;rw[ka (by simp)];refine mX ho hd K u P N B xv hT hu hf f b a (T+1) _ rfl (by lia) (by lia) λm I i2 vc hz=>?_;by_cases z:m<n
      .exact H m z i2 vc hz
      .by_cases z2:m=T
       .subst z2;have:i2=i:=by have f:=ST.L7 K.tab vc;have b:=ST.L7 K.tab q;rw[f]at b;injection b
        subst this;rw[c]at hz;have:D.tup C=.tup Y:=aAk hz;rw[this,M7]at hq;cases hq
       .obtain⟨d,gi,ag⟩:=a3 m (by lia) (by lia);have:d=i2:=by have f:=ST.L7 K.tab gi;have b:=ST.L7 K.tab vc;rw[f]at b;injection b
        subst this;obtain⟨⟨h0,v0⟩,he0,hv0,hh0⟩:=dJ P hz;refine ag ?_;show(es[d]?.map (·.1)).getD 0=_;rw[<-aAA,he0];exact hh0
   refine mL (λ_=>?_) (λ_=>go);refine aAa (YM N B _ (λy hy=>?_) ?_)
   .obtain⟨e',xn,rfl⟩:=aAp.mp hy;rw[Array.toList_filter]at xn;have I:=(aBX.mp xn).1;obtain⟨k,hk⟩:=aBU.mp I;obtain⟨dk,hdk,hvk,_⟩:=F9 P hk;exact⟨dk,hvk,xv _ (aAn hdk)⟩
   .rw[ka (by simp)];exact go
def xQ (m n:Nat):Prop:=(m=7/\n<=4)\/(m=31/\n<=18)\/(m=127/\n<=76)
def xQ.odd (h:xQ m n):m%2=1:=by rcases h with⟨rfl,_⟩|⟨rfl,_⟩|⟨rfl,_⟩<;>rfl
def Keeps (h0 h:cv):Prop:=∀b o,h0.get? b=some o->h.get? b=some o
structure SetAt (L:Bool)(h0 h:Heap)(S:Addr)(ds:List D):Prop where
 ex:∃(o:Obj) (es:Array (Int×Value)) (ep:Nat) (t:SetTable),h.get? S=some o/\o.cls=.type "set"/\o.dict=none/\o.slots=#[]/\o.data=.set es ep t/\ST.SOk t es.toList/\xQ t.mask es.size/\Paired (EV h0) es.toList ds/\t.led=L/\t.plain=true
 nd:ds.Nodup
def Z2 {α β:Type}{F:α->β->Prop}:∀{l b:List α} {m:List β},b.Perm l->Paired F l m->∃a,a.Perm m/\Paired F b a:=λ{l b m} p=>by
 induction p generalizing m with
 |nil=>intro h;exact⟨m,.refl _,h⟩
 |cons x _ e=>
  intro h;cases h with
  |cons r t=>obtain⟨a,f,g⟩:=e t;exact⟨_::a,f.cons _,.cons r g⟩
 |swap x y l=>
  intro h;cases h with
  |cons r t=>
   cases t with
   |cons k n=>exact⟨_,.swap _ _ _,.cons k (.cons r n)⟩
 |trans _ _ c d=>intro h;obtain⟨w,o,q⟩:=d h;obtain⟨s,u,v⟩:=c q;exact⟨s,u.trans o,v⟩
theorem eI {α β:Type}{F G:α->β->Prop}(i:∀a b,F a b->G a b):∀{l:List α} {m:List β},Paired F l m->Paired G l m
 |_,_,.nil=>.nil
 |_,_,.cons r t=>.cons (i _ _ r) (eI i t)
theorem qY {α β:Type}{F:α->β->Prop}{a:α}{b:β}(r:F a b):∀{l:List α} {m:List β} (p:Nat),Paired F l m->Paired F (l.take p++a::l.drop p) (m.take p++b::m.drop p)
 |_,_,0,h=>.cons r h
 |_,_,p+1,.nil=>.cons r .nil
 |_,_,p+1,.cons c t=>.cons c (qY r p t)
def MQ {α:Type}(a:α)(l:List α)(p:Nat):(l.take p++a::l.drop p).Perm (a::l):=by have h:=List.perm_middle (a:=a) (l₁:=l.take p) (l₂:=l.drop p);rw[aFD]at h;exact h
def AJ {α β:Type}{M:Model}{Q:α->a9->Prop}{c:Prop}[Decidable c]{a:Sem β}{k:β->Sem α}(b:β)(e:∀d:β->a9->Prop,d b s->a5 M A a d E s)(h:a5 M A (k b) Q E s):a5 M A (if c then a>>=k else pure b>>=k) Q E s:=
 mL (λ_=>aAa (e _ h)) (λ_=>aAa (aAb h))
def mW (h:cv)(S:bb)(f:Obj->Obj):Heap.SameBut S h (h.update S f):=⟨by simp[Heap.size_update],λb a=>aAC _ _ (aCg a)⟩
def tY {h:cv}{S:bb}{o:Obj}{es es':Array (Int×ai)}{ep:Nat}{t t':fh}(b:h.get? S=some o)(a:o.data=.set es ep t):(h.update S (aEw es' t')).get? S=some {o with data:=.set es' (ep+1) t'}:=by
 have e:aEw es' t' o={o with data:=.set es' (ep+1) t'}:=by obtain⟨c,d,f,g⟩:=o;cases f<;>simp at a;obtain⟨rfl,rfl,rfl⟩:=a;rfl
 rw[aAZ _ b (by rw[e];rfl),e]
def YB {L:Bool}{h0:cv}{Q:yG}(hS:SetAt L h0 s.heap S ds)(kp:Keeps h0 s.heap)(B:HV h0 (.ref x) (.tup Y))(C:B5 (.tup Y)<8)(xv:∀e∈ds,B5 e<8)(hT:∀e∈ds,∃ys,e=.tup ys)(hu:A.units+128<dA)(hn:ds.length<76)
  (q1:D.tup Y∈ds->∀tk,s.toks<=tk->Q false {s with toks:=tk})
  (q2:D.tup Y∉ds->∀h' tk bh,s.toks<=tk->Heap.SameBut S s.heap h'->SetAt L h0 h' S bh->bh.Perm (.tup Y::ds)->Q true {s with heap:=h',toks:=tk}):a5 (bc prog w) A (setAdd S (.ref x)) Q E s:=by
 obtain⟨⟨o,es,ep,t,H,hc,zl,I,J,K,mk,P0,lp0⟩,nd⟩:=hS;have hx:HV s.heap (.ref x) (.tup Y):=B.keeps λb o e _=>kp b o e;have P:Paired (EV s.heap) es.toList ds:=eI (λe d r=>⟨r.1.keeps λb o e _=>kp b o e,r.2⟩) P0;have hsz:es.size=ds.length:=by have:=gP P;simpa using this
 unfold setAdd;refine aAK (aAa (XY hx A E s _ rfl (by lia) λtk xc=>?_));unfold setAddHashed setAddHashedIn;refine aAK (aAa<|aCj (s:={s with toks:=tk}) H J (jU K) ?_);dsimp only;rw[show byScan (.ref x) es=false from rfl];simp only[aAt,if_false];obtain⟨n0,hf⟩:=ST.DU K.full K.room (o6<|.tup Y);refine aAa (mX (s:={s with toks:=tk}) (n0:=n0) H J K mk.odd P hx C xv hT (by lia) hf (λn=>?_) (λn=>?_) 100000 0 none rfl (aAY _) ?_ (λm n=>by lia))
 .dsimp only;exact aAb (q1 n tk xc)
 .dsimp only;refine aAa (aCj (s:={s with toks:=tk}) H J (jU K) ?_);dsimp only;refine AJ true (λU q=>pW 8 hx C _ _ _ _ _ rfl q) ?_;rw[jk rfl];have ou:t.place.size+1<=t.mask:=by have:=K.len;simp at this;rcases mk with⟨a,k⟩|⟨a,k⟩|⟨a,k⟩<;>lia
  have p:=ST.ax K (x:=.ref x) hf ou;have el:=ST.gO es (t.put (ST.n8 t.mask (o6<|.tup Y) n0).j).2 (o6 (.tup Y),aDv x);have lp:(t.put (ST.n8 t.mask (o6<|.tup Y) n0).j).1.led=L/\(t.put (ST.n8 t.mask (o6<|.tup Y) n0).j).1.plain=true:=lp0;have em:(t.put (ST.n8 t.mask (o6<|.tup Y) n0).j).1.mask=t.mask:=rfl;rw[<-el]at p;have N:Paired (EV h0) (aGt es (t.put (ST.n8 t.mask (o6<|.tup Y) n0).j).2 (o6 (.tup Y),aDv x)).toList (ds.take (t.put (ST.n8 t.mask (o6<|.tup Y) n0).j).2++.tup Y::ds.drop (t.put (ST.n8 t.mask (o6<|.tup Y) n0).j).2):=by rw[el];exact qY ⟨B,rfl⟩ _ P0
  have O:=MQ (D.tup Y) ds (t.put (ST.n8 t.mask (o6<|.tup Y) n0).j).2;generalize hds2:ds.take (t.put (ST.n8 t.mask (o6<|.tup Y) n0).j).2++.tup Y::ds.drop (t.put (ST.n8 t.mask (o6<|.tup Y) n0).j).2=me at N O;generalize hes2:aGt es (t.put (ST.n8 t.mask (o6<|.tup Y) n0).j).2 (o6 (.tup Y),aDv x)=g at p N⊢;generalize ht2:(t.put (ST.n8 t.mask (o6<|.tup Y) n0).j).1=f at p em lp⊢;have uf:me.Nodup:=O.nodup_iff.mpr (aAI.mpr ⟨n,nd⟩);have h:g.size=es.size+1:=by
   have h1:=gP N;have h2:=O.length_eq;simp at h1 h2
   lia
  have eh:g.size<=sizeLine:=by rw[h,aFm];lia
  refine aAa (wpAny_storeSet_of (s:={s with toks:=tk}) H J ?_ eh);have kn:=tY (es':=g) (t':=f) H J;have T:=mW s.heap S (aEw g f);have l:f.fill=g.size:=by have h1:=p.len;have h2:=p.tab.nod;unfold SetTable.fill;rw[h2];simp at h1⊢;lia
  refine mL (λxf=>?_) (λxf=>?_)
  .
   have qr:f.fill*5>=f.mask*3:=by
    have:f.tooFull=true:=by simpa using xf
    simpa[aGz]using this
   rw[l,em,h]at qr;obtain⟨M,hM,hM1,u⟩:∃M,SetTable.sizeAbove (SetTable.grown<|es.size+1)=M+1/\ST.nR (M+1)/\xQ M (es.size+1):=by
    rcases mk with⟨a,k⟩|⟨a,k⟩|⟨a,k⟩
    .have:es.size=4:=by lia
     rw[this];exact⟨31,by decide,ST.jx,.inr (.inl ⟨rfl,by lia⟩)⟩
    .have:es.size=18:=by lia
     rw[this];exact⟨127,by decide,ST.UJ,.inr (.inr ⟨rfl,by lia⟩)⟩
    .lia
   unfold setRelay;refine aAa (aAa<|aCj (s:={s with heap:=s.heap.update S (aEw g f),toks:=tk}) kn rfl (jU p) ?_);dsimp only;rw[hM];refine mL (λz=>?_) (λ_=>?_)
   .exfalso;rcases u with⟨a,_⟩|⟨a,_⟩|⟨a,_⟩<;>(subst a;exact absurd z (by rw[aFm];decide))
   obtain⟨y,c,r1,r2,r3,r4,r5,r6,r7,r8,r9⟩:=ST.NZ (finger:=f.finger) (moves:=f.movedTo M) (led:=f.led) (plain:=f.plain) hM1 g (by rw[h];rcases u with⟨a,k⟩|⟨a,k⟩|⟨a,k⟩<;>lia);have er:f.relaid (g.map (·.1)) (SetTable.grown<|es.size+1)=some (y,c):=by unfold SetTable.relaid;rw[hM];exact r1
   rw[er];have hre:∀{U:Array (Int×ai)×fh->a9->Prop} {s':a9},U (c.filterMap (g[·]?),y) s'->a5 (bc prog w) A (do
     let es':=c.filterMap (g[·]?)
     if es'.size !=g.size then unsupported "internal:set-table-lost-an-element"
     pure (es',y)) U E s':=λ{U s'} qq=>by
    dsimp only;rw[ka (by simp[r2])];exact aAb qq
   refine aAa (hre ?_);dsimp only;generalize hes3:c.filterMap (g[·]?)=v at r2 r3 r4⊢;refine wpAny_storeSet_of (s:={s with heap:=s.heap.update S (aEw g f),toks:=tk}) kn rfl ?_ (by rw[r2];exact eh);refine aAb ?_;have ho3:=tY (es':=v) (t':=y) kn rfl;have sb3:=mW (s.heap.update S<|aEw g f) S (aEw v y);obtain⟨ds3,p3,P5⟩:=Z2 r3 N;exact q2 n _ tk ds3 xc (T.trans sb3) ⟨⟨_,v,_,y,ho3,hc,zl,I,rfl,r4,by rw[r5,r2,h];exact u,P5,by rw[r7];exact lp.1,by rw[r8];exact lp.2⟩,p3.nodup_iff.mpr uf⟩ (p3.trans O)
  .refine aAb ?_;refine q2 n _ tk me xc T ⟨⟨_,g,_,f,kn,hc,zl,I,rfl,p,?_,N,lp⟩,uf⟩ O;have qr:¬f.fill*5>=f.mask*3:=λz=>xf (by simp[aGz,z]);rw[l,em,h]at qr;rw[em,h];rcases mk with⟨a,k⟩|⟨a,k⟩|⟨a,k⟩
   .exact .inl ⟨a,by lia⟩
   .exact .inr (.inl ⟨a,by lia⟩)
   .exact .inr (.inr ⟨a,by lia⟩)
 .have:=hf.1;have n:t.mask<=127:=by rcases mk with⟨a,_⟩|⟨a,_⟩|⟨a,_⟩<;>lia
  lia
end
section
variable{prog:bt} {w:cq} {A:cp} {R:Result->a9->Prop} {I:bb} {fp wr:List bb} {G:Array GenState->Array GenState->Prop} {n:Nat} {P:Nat->ai->Prop} {St:Nat->a9->Prop} {h0:cv}
def ZQ (h0:cv)(v:ai)(d:D):Prop:=∃a Y,v=.ref a/\d=.tup Y/\B5 d<8/\HV h0 v d
def NP {L:Bool}(W:WalksS prog w A.in1 I fp wr G n P St)(S:bb)(qf:S∉fp)(hS0:h0.get? S=none)(hw0:∀b∈wr,h0.get? b=none)
  (val:Nat->D) (x:∀i v,P i v->ZQ h0 v (val i)) (oi:∀i<n,B5 (val i)<8/\∃ys,val i=.tup ys) {U:List D} (hU:∀i<n,val i∈U) (c:U.length<=75) (hu:A.units+200<dA):
  ∀(k i:Nat) (s:a9),n-i=k->i<=n->St i s->Keeps h0 s.heap->(∃ds,SetAt L h0 s.heap S ds/\∀d,d∈ds↔∃j<i,val j=d)->
   (∀s',Moved (S::wr) G s s'->(∃ds,SetAt L h0 s'.heap S ds/\∀d,d∈ds↔∃j<n,val j=d)->R (.ok (.ret .none)) s')->
   gn (bc prog w) A (.builtin "set.update.loop" ⟨[.ref S,.ref I],[]⟩) R s:=by
 have y:S∉wr:=λh=>qf (W.sub _ h);have ke:∀b∈wr,b∈S::wr:=λb c=>aAe _ c;intro k;induction k with
 |zero=>
  intro i s hk hi jn B hS N;have O:i=n:=by omega
  subst O;refine aBu F.entry_set_update_loop ?_;rw[aAX F.plain_set_update_loop _];show a5 _ A.in1 (fT (.ref I)>>=_) _ _ s;refine aAa (W.done s _ _ jn λs' g=>?_);show a5 _ A.in1 (ret Value.none) _ _ s';refine aAb (N s' (g.mono ke) ?_);obtain⟨ds,⟨⟨o,es,ep,t,ho,r⟩,Q⟩,l⟩:=hS;exact⟨ds,⟨⟨o,es,ep,t,g.heap S _ y ho,r⟩,Q⟩,l⟩
 |succ k ih=>
  intro i s hk hi jn B hS N;have ao:i<n:=by omega
  refine aBu F.entry_set_update_loop ?_;rw[aAX F.plain_set_update_loop _];show a5 _ A.in1 (fT (.ref I)>>=_) _ _ s;refine aAa (W.item i s _ _ ao jn λv s' hP la g=>?_);obtain⟨ds,⟨⟨o,es,ep,t,ho,r⟩,Q⟩,l⟩:=hS;have jh:SetAt L h0 s'.heap S ds:=⟨⟨o,es,ep,t,g.heap S _ y ho,r⟩,Q⟩;have p:Keeps h0 s'.heap:=λb ob e=>g.heap b ob (λz=>by rw[hw0 b z]at e;cases e) (B b ob e);obtain⟨a,Y,rfl,T,C,hv⟩:=x i v hP;rw[T]at C hv;show a5 _ A.in1 (gh [aDv a] (setAdd S<|.ref a)>>=_) _ _ s';have f:∀e∈ds,B5 e<8/\∃ys,e=.tup ys:=λe E=>by obtain⟨j,H,ej⟩:=(l e).mp E;rw[<-ej];exact oi j (by omega)
  refine aAa (aAK (YB jh p hv C (λe E=>(f e E).1) (λe E=>(f e E).2) (by rw[p8];omega) (by letI:DecidableEq D:=λa b=>aDW _;have:=ST.Q7 (m:=U) Q (λd hd=>by obtain⟨j,H,e⟩:=(l d).mp hd;rw[<-e];exact hU j (by omega));omega) (λO tk J=>?_)<|λhni h' tk bh J hsb hS2 pm=>?_))
  .
   refine aAb ⟨aBQ F.plain_set_update_loop _,ih (i+1) _ (by omega) ao (W.frame _ s' _ _ la J λb c o e=>e) p ⟨ds,jh,λd=>?_⟩ λq nu xg=>?_⟩
   .rw[l];constructor
    .rintro⟨j,H,e⟩;exact⟨j,by omega,e⟩
    .rintro⟨j,H,e⟩;by_cases z:j=i
     .subst z;rw[T]at e;rw[e]at O;exact(l d).mp O
     .exact⟨j,by omega,e⟩
   .exact N q (aFo W.gtrans ((g.mono ke).then_heap J λb o c e=>e) nu) xg
  .have u:∀b,b≠S->h'.get? b=s'.heap.get? b:=λb c=>hsb.2 b c;refine aAb ⟨aBQ F.plain_set_update_loop _,ih (i+1) _ (by omega) ao (W.frame _ s' _ _ la J λb c o e=>?_) (λb o e=>?_) ⟨bh,hS2,λd=>?_⟩ λq nu xg=>?_⟩
   .rw[u b (λz:b=S=>qf (by rw[<-z];exact c))];exact e
   .show h'.get? b=some o;rw[u b (λz=>by subst z;rw[hS0]at e;cases e)];exact p b o e
   .rw[pm.mem_iff,aAd,l];constructor
    .rintro(rfl|⟨j,H,e⟩)
     .exact⟨i,by omega,T⟩
     .exact⟨j,by omega,e⟩
    .rintro⟨j,H,e⟩;by_cases z:j=i
     .subst z;rw[T]at e;exact .inl e.symm
     .exact .inr ⟨j,by omega,e⟩
   .refine N q (aFo W.gtrans ((g.mono ke).then_heap J λb o c e=>?_) nu) xg;rw[u b (λz:b=S=>c (by rw[z];exact aBa))];exact e
end
section
variable{prog:bt} {w:cq} {A:cp} {E:E8} {s:a9}
abbrev nP (led:Bool):Obj:={cls:=.type "set",dict:=none,data:=.set #[] 0 (.fresh 0 0 led)}
def LI (h0 h:cv)(S:bb)(led:Bool)(e:h.get? S=some (nP led)):SetAt led h0 h S []:=by
 refine⟨⟨_,#[],0,.fresh 0 0 led,e,rfl,rfl,rfl,rfl,⟨⟨λi k a=>?_,λj b=>?_,rfl⟩,ST.a0d,rfl,?_,λe c=>?_⟩,.inl ⟨rfl,aAY _⟩,.nil,rfl,rfl⟩,aDk⟩
 .exact absurd a (by show¬i<0;omega)
 .exact absurd b (by show¬j∈[];simp)
 .show 0<=7;omega
 .exact absurd c (by show¬e∈[];simp)
def AU (a:ai){Q₁:E8}(h:Q₁ (.ref s.heap.objs.size) {s with heap:=s.heap.push (nP (!w.params.followText "set-order"))}):
  gn (bc prog w) A (.call (.builtin "set.__new__") ⟨[.type "set",a],[]⟩) (wants Q₁ E) s:=by
 refine codeAny_of_tree ?_;show a5 _ A.in1 (do checkBuiltinCall "set.__new__" ⟨[.type "set",a],[]⟩;again (.builtin "set.__new__" ⟨[.type "set",a],[]⟩)) _ _ s;refine aAa (aGg (F.newCall_set_1 a)<|aAb ⟨aBQ F.plain_set_new _,aBu F.entry_set_new ?_⟩);rw[aAX F.plain_set_new _];unfold Builtin.«set.__new__» Builtin.Frozenset.newClass;have b:=sub_set_self;obtain⟨c,g,d,e,os⟩:=s;dsimp only
 wp_walk
 refine aFw (aAb ?_);dsimp only;simp only[newObj];exact aAa (wpAny_alloc<|aAb<|aAb h)
def AQ {h0:cv}(m:Keeps h0 s.heap){l:bb}{its:Array ai}{val:Nat->D}{Q:E8}(hh:A.handled=none)(hl:s.heap.IsList l its)
  (n:∀(i:Nat) (v:ai),its[i]?=some v->ZQ h0 v (val i)) (oi:∀i<its.size,B5 (val i)<8/\∃ys,val i=.tup ys) {U:List D} (hU:∀i<its.size,val i∈U) (g:U.length<=75) (hu:A.units+300<dA)
  (h:∀(h':cv) (tk:Nat) (ds:List D),SetAt (!w.params.followText "set-order") h0 h' s.heap.objs.size ds->(∀d,d∈ds↔∃j<its.size,val j=d)->Keeps s.heap h'->Q (.ref s.heap.objs.size) {s with heap:=h',toks:=tk}):
  a5 (bc prog w) A (call (.type "set") [.ref l]) Q E s:=by
 obtain⟨c,tl,Y⟩:=PySem.F.called_set.mro;have C:=PySem.F.called_set.made;have ke:=PySem.F.called_set.sub;refine wpAny_call (codeAny_of_tree ?_);show a5 _ _ (callAny (.type "set") _) _ _ _;refine aAb ⟨Code.quiet_builtin _ (by decide+kernel),aBu PySem.F.entry_type_call ?_⟩;rw[Around.under_plain (weight_type_call_type "set" [.ref l] []) rfl];have h1:=PySem.F.called_set.notType;have h2:=PySem.F.called_set.canCreate;have hct:=PySem.F.typeCall_set_1 (.ref l);repeat(any_goals(first|assumption|wp_step))
 refine aDP (AU (.ref l) (E:=E) (Q₁:=λob ae=>∃led:Bool,led=!w.params.followText "set-order"/\ob=.ref s.heap.objs.size/\ae={s with heap:=s.heap.push (nP led)}) ⟨_,rfl,rfl,rfl⟩) λr ae p=>?_;cases r with
 |error e=>exact p
 |ok fl=>
  cases fl with
  |next=>exact p.elim
  |brk=>exact p.elim
  |cont=>exact p.elim
  |ret ob=>
   obtain⟨led,eL,rfl,rfl⟩:=p;have hS:(s.heap.push<|nP led).get? s.heap.objs.size=some (nP led):=aAo _ rfl;have hT:Shared.TypeIs {s with heap:=s.heap.push (nP led)} (.ref s.heap.objs.size) "set":=⟨_,hS,rfl⟩;have hli:=PySem.F.called_set.init.lookup;have hbi:=PySem.F.called_set.init.bind (.ref s.heap.objs.size);repeat(any_goals(first|assumption|wp_step))
   refine aDP (codeAny_call_builtin (R:=wants (λr gm=>r=.none/\∃h' tk ds,gm={s with heap:=h',toks:=tk}/\SetAt (!w.params.followText "set-order") h0 h' s.heap.objs.size ds/\(∀d,d∈ds↔∃j<its.size,val j=d)/\Keeps s.heap h') E) PySem.F.called_set.init.plain PySem.F.entry_set_init<|check_set_init_1 hT ?_) λr0 gm a=>?_
   .obtain⟨ol,q,yd,nl,t⟩:=hl;obtain⟨ocls,k,H,f⟩:=ol;simp only at yd t;subst yd;subst t;have u:(s.heap.push<|nP led).get? l=some {cls:=.type "list",dict:=k,data:=.seq its nl,slots:=f}:=aAc _ q;have hsls:=PySem.F.sub_list_set;have hslf:=PySem.F.sub_list_frozenset;have ag:(aCq "list"==aCq "dict")=false:=by decide
    have pg:(s.heap.push<|nP led).IsList l its:=⟨_,u,rfl,nl,rfl⟩;unfold Builtin.«set.__init__» noKeywords Builtin.Frozenset.updateFrom;generalize I:pyIter=PI
    wp_walk
    subst I;refine aDB pg (aAa<|aFW ?_);have x:l<s.heap.objs.size:=aAg q;have J:A.in1.in1.in1.handled=none:=by simp[hh]
    have y:l≠(s.heap.push<|nP led).objs.size:=by rw[aBy];exact aAl (aBz x)
    have qf:s.heap.objs.size∉[(s.heap.push<|nP led).objs.size,l]:=by rw[aBy];simp only[aAd,aAD,or_false,not_or];exact⟨aAl (aDK _),aCC x⟩
    have ph:∀b,s.heap.objs.size<=b->h0.get? b=none:=λb g=>by
     cases e:h0.get? b with
     |none=>rfl
     |some o=>have:=m b o e;rw[aEu g]at this;cases this
    refine NP (h0:=h0) ((Walks.list J _ l y its).toS) s.heap.objs.size qf (ph _<|aAj _) (λb g=>?hw) val n oi hU g (by show A.units+1+1+200<dA;omega) (its.size-0) 0 _ (by omega) (aAY _) ⟨⟨_,aAo _ rfl,rfl,rfl⟩,(pg.push _)⟩ (λb o e=>aAc _ (aAc _<|m b o e)) ⟨[],LI _ _ _ led (aAc _ hS),λd=>?he⟩ ?hR
    case he=>exact⟨λz=>(by cases z),by rintro⟨j,hj,_⟩;exact(by omega)⟩
    case hw=>
     have je:b=(s.heap.push<|nP led).objs.size:=by simpa using g
     subst je;rw[aBy];exact ph _ (Nat.le_succ _)
    case hR=>
     rintro⟨h',g',d',yg,L⟩ B ⟨ds,N,O⟩;have eg:g'=s.gens:=B.gens;have ed:d'=s.drawn:=B.drawn;have eo:L=s.os:=B.os;subst eg;subst ed;subst eo;refine aAb ?_;show a5 _ _ (ret Value.none) _ _ _;refine aAb ⟨rfl,h',yg,ds,rfl,(eL▸N),O,λb o e=>?_⟩;have g:=aAg e;have xo:b≠(s.heap.push<|nP led).objs.size:=by rw[aBy];exact aAl (aBz g)
     exact B.heap b o (by simp only[aAd,aAD,or_false,not_or];exact⟨aAl g,xo⟩) (aAc _<|aAc _ e)
   .cases r0 with
    |error e=>exact a
    |ok T=>
     cases T with
     |next=>exact a.elim
     |brk=>exact a.elim
     |cont=>exact a.elim
     |ret r=>
      obtain⟨rfl,h',tk,ds,rfl,N,O,kl⟩:=a;repeat(any_goals(first|assumption|wp_step))
      exact h _ _ _ N O kl
end
end
section
variable [Tabs]
def oz:D->R D
 |.lst Y=>.ok (.lst Y.reverse)
 |_=>.bad
def gw {st:cy}{t:Pos}{f:Ev->R D}(he:PB X a f)(hs:yk X (some st) λ_=>.ok (some (-1))){ops:ai->ai->List ai}(ho:∀v u,subscripted (.Slice none none (some st) t) false v u=operate (ops v u) (getItem v u):=by intro _ _;with_unfolding_all rfl):PD X (.Subscript a (.Slice none none (some st) t) pos) (λρ=>(f ρ).bind oz):=by
 refine sG λc s σ H Q I Y O0 O ρ E q=>?_;dsimp only at q;refine Subscript_ (E6 (he c s σ H (λx h=>∃m,f ρ=.ok (.lst m)/\Same H h/\A9 X.K h O x (.lst m)) I ⟨Y,O0,O,ρ,E,?_⟩) λv y z9=>?_)
 .cases e:f ρ with
  |ex z=>rw[e]at q;exact q
  |bad=>rw[e]at q;exact q.elim
  |ok d=>
   rw[e,R.aa0]at q;cases d with
   |lst m=>exactλv h y B=>⟨m,rfl,y,B⟩
   |_=>exact aAi q
 .obtain⟨x,h,I1,B,m,ef,C,rb⟩:=z9;rw[ef,R.aa0]at q;refine wpAny_Slice (E6 (vZ c y σ h (λo n=>o=none/\n=h) I1 ⟨rfl,rfl⟩) λvl s2 ⟨l,n,I2,pl,e,J⟩=>?_);subst e J;refine E6 (vZ c s2 σ n (λo p=>o=none/\p=n) I2 ⟨rfl,rfl⟩) λvu s3 ⟨u,p,I3,pu,e,J⟩=>?_;subst e J;refine E6 (hs c s3 σ p (λo L=>o=some (-1)/\Same p L) I3 ⟨Y,O0,O,ρ,E.grow C,λH' s=>⟨rfl,s⟩⟩) λvk g ⟨k,L,I4,pk,e,N⟩=>?_;subst e;obtain⟨b,vs,rfl,hx,rr⟩:=(rb.same N).aa3;cases B;have T:Inv X c σ L {g with heap:=g.heap.push {cls:=.type "slice",data:=.fields #[vl,vu,vk]}}:=I4.kept (t':=g.toks) λb ob q=>aAc _ q;obtain⟨its,r,ht,hz⟩:=T.list hx;have hlen:=r.length;show a5 (bc X.prog X.w) X.A (subscriptTail a (.Slice none none (some st) t) (.ref b)<|.ref g.heap.objs.size) (EP X c σ Q) X.xe {g with heap:=g.heap.push {cls:=.type "slice",data:=.fields #[vl,vu,vk]}};refine tail_any ht.isList.typeIs aFi.lookup ?_ (ho _ _);refine wpAny_getItem_list_slice ht.isList (Heap.IsSliceOf.new ..) pl pu pk (by simp) ?_ (by rw[aAm];lia);rw[PySem.W.krv_pick];have U:=T.hok.fresh (aAj _);refine⟨.ref _,_,T.laid (t':=g.toks) (o:=.lst vs.reverse) (λb ob q=>aAc _ q) (aAj _) ?_,rfl,?_⟩
  .exact⟨by rw[aBS];exact hz,_,0,r.reverse,aAo _ rfl⟩
  .have E4:=(E.grow C).grow N;exact q _ _ ((C.trans N).trans (j6 U _)) (.lst (K0.of j3) (E4.fresh U) (rr.reverse.same<|j6 U _))
end
end DL
namespace SI
open PySem
theorem HY {α:Type}(next:Nat->Nat):∀(a k:Nat) (left:List α) (b:Array α),left.length=a->(aGy next a k left b).toList.Perm (b.toList++left)
 |0,k,left,b,h=>by have:left=[]:=aCv h;subst this;simp[aGy]
 |a+1,k,left,b,h=>by
  unfold aGy;have d:0<left.length:=by lia
  have c:next k%left.length<left.length:=aDO _ d
  rw[aAh c];dsimp only;refine(HY next a (k+1) _ _ (by rw[List.length_eraseIdx_of_lt c];lia)).trans ?_;rw[Array.toList_push,aFj];refine List.Perm.append_left _ ?_;have:∀(l:List α) (i:Nat) (h:i<l.length),(l[i]::l.eraseIdx i).Perm l:=by
   intro l;induction l with
   |nil=>intro i h;simp at h
   |cons x l e=>
    intro i h;cases i with
    |zero=>simp
    |succ i=>
     have f:i<l.length:=by simpa using h
     rw[aFn,List.getElem_cons_succ];exact(List.Perm.swap _ _ _).trans ((e i f).cons _)
  exact this left _ c
def uH {α:Type}(next:Nat->Nat)(Y:Array α):(ja next Y).toList.Perm Y.toList:=by unfold ja;simpa using HY next Y.size 0 Y.toList #[] (by simp)
def walkL (w:cq)(S:bb)(es:Array (Int×ai))(ep:Nat):List (Int×ai):=if w.params.followText "set-order"=true then(ja (w.params.setOrder S ep) es).toList else es.toList
def walkL_perm (w:cq)(S:bb)(es:Array (Int×ai))(ep:Nat):(walkL w S es ep).Perm es.toList:=by
 unfold walkL;split
 .exact uH _ _
 .exact List.Perm.refl _
def slotAt (w:cq)(t:fh):Nat->Nat
 |0=>0
 |i+1=>if w.params.followText "set-order"=true then 0 else t.place.getD i 0+1
def P7 (h:cv)(w:cq)(it S:bb)(t:fh)(i n ep:Nat):Prop:=
 h.get? it=some {cls:=.type "set_iterator",dict:=none,data:=.fields #[d9 (slotAt w t i),d9 i,.ref S,d9 n,d9 ep],slots:=#[]}
def IsSet (h:cv)(S:bb)(es:Array (Int×ai))(ep:Nat)(t:fh):Prop:=∃o,h.get? S=some o/\o.cls=.type "set"/\o.data=.set es ep t
namespace F
def entry_set_iter:entryFor table "set.__iter__"=some Builtin.«frozenset.__iter__»:=entryFor_alias (id':= "frozenset.__iter__") (by kernel_rfl) rfl (by decide+kernel) (by kernel_rfl)
def slot_seti_next:Slot "set_iterator" "__next__" "set_iterator.__next__":=
 .of (owner:= "set_iterator") (n:= "__next__") (by rw[aDx,aCp];kernel_rfl) (by decide+kernel) (by decide+kernel) (by decide+kernel)
  (by first|exact .inl (by decide+kernel)|exact .inr (by decide+kernel)) (by rw[aEZ];kernel_rfl)
def entry_seti_next:entryFor table "set_iterator.__next__"=some Builtin.«set_iterator.__next__»:=entryFor_of_tree (by kernel_rfl)
def args_seti_next (a:ai):argsOk "set_iterator.__next__" ⟨[a],[]⟩:=by unfold argsOk;kernel_rfl
def slot_seti_iter:Slot "set_iterator" "__iter__" "set_iterator.__iter__":=
 .of (owner:= "set_iterator") (n:= "__iter__") (by rw[aDx,aCp];kernel_rfl) (by decide+kernel) (by decide+kernel) (by decide+kernel)
  (by first|exact .inl (by decide+kernel)|exact .inr (by decide+kernel)) (by rw[aEZ];kernel_rfl)
def entry_seti_iter:entryFor table "set_iterator.__iter__"=some Builtin.«dict_keyiterator.__iter__»:=entryFor_alias (id':= "dict_keyiterator.__iter__") (by kernel_rfl) rfl (by decide+kernel) (by kernel_rfl)
def args_seti_iter (a:ai):argsOk "set_iterator.__iter__" ⟨[a],[]⟩:=by unfold argsOk;kernel_rfl
end F
section
variable{s:a9} {t:fh}
def IK {α:Type}{M:Model}{Q:α->a9->Prop}{c:Prop}[Decidable c]{a b:Sem α}(h:c)(k:a5 M A a Q E s):a5 M A (if c then a else b) Q E s:=by rw[jk h];exact k
def BA (es:Array (Int×ai))(a:t.plain=true):(!t.plain&&decide (es.size>1))=false:=by rw[a];rfl
def DJ {Q:yG}(h:Q (w.params.followText "set-order") s):a5 (bc prog w) A setsByText Q E s:=by unfold setsByText;exact aAa (aFw<|aAb h)
def OS {Q:E8}(e:IsSet s.heap S es ep t)(b:t.fits es.size=true)(f:t.plain=true)
  (h:Q (.ref s.heap.objs.size) {s with heap:=s.heap.push {cls:=.type "set_iterator",dict:=none,data:=.fields #[d9 (slotAt w t 0),d9 (0:Nat),.ref S,d9 es.size,d9 ep],slots:=#[]}}):
  a5 (bc prog w) A (pyIter (.ref S)) Q E s:=by
 obtain⟨o,a,g,c⟩:=e;have d:s.TypeIs (.ref S) "set":=⟨o,a,g⟩;refine aDZ d PySem.F.slot_set_iter (aBh PySem.F.slot_set_iter d F.entry_set_iter ?_ (PySem.F.args_set_iter_1 _));unfold Builtin.«frozenset.__iter__»;show a5 _ _ (aFp "__iter__" ⟨[.ref S],[]⟩>>=_) _ _ s;have k:aFp "__iter__" ⟨[.ref S],[]⟩=pure S:=rfl;rw[k];refine aAa (aAb ?_);unfold Builtin.Frozenset.sizeOf;refine aAa (aAa<|aED a c b<|aAb ?_);refine aAa ?_;unfold setDrawn;refine aAa (aCj a c b<|aAa<|DJ<|aAb ?_);show a5 _ _ (if(!w.params.followText "set-order"&&(!t.plain&&decide (es.size>1)))=true then _ else _) _ _ s;rw[BA es f,aFV];simp only[aAt,if_false];refine aAa (aAb<|aAa<|wpAny_setEpoch_of a c b ?_);refine aAa (aAS<|aAb ⟨_,rfl, "set_iterator",_,⟨_,aAo _ rfl,rfl⟩,F.slot_seti_next.lookup,?_⟩);simpa[slotAt]using h
def BL (a:ST.KC Y):aDH Y 0=0:=by
 obtain⟨c,b,d⟩:=ST.cV a 0;by_cases h:aDH Y 0=0
 .exact h
 .exact absurd (b 0 (by lia) (by lia)) (by lia)
def DQ (b:ST.KC Y)(a:i<Y.size):aDH Y (Y.getD i 0+1)=i+1:=by
 have e:Y.getD i 0=Y[i]:=by simp[aFd,a]
 rw[e];obtain⟨g,d,f⟩:=ST.cV b (Y[i]+1);rcases Nat.lt_trichotomy (aDH Y<|Y[i]+1) (i+1)with q|q|q
 .have:=f i a (by lia);lia
 .exact q
 .have c:i+1<Y.size:=by lia
  have:=d (i+1) c q;have:=b i (i+1) a c (by lia)
  lia
def DZ (t:fh)(a:ST.KC t.place)(b:¬w.params.followText "set-order"=true)(c:i<=t.place.size):aDH t.place (slotAt w t i)=i:=by
 cases i with
 |zero=>exact BL a
 |succ i=>show aDH t.place (if w.params.followText "set-order"=true then 0 else t.place.getD i 0+1)=i+1;rw[ka b];exact DQ a (by lia)
def yJ {Q:Option (ai×Nat)->a9->Prop}(p:IsSet s.heap S es ep t)(c:t.fits es.size=true)(q:t.plain=true)(r:¬w.params.followText "set-order"=true->t.led=true)(u:ST.KC t.place)(H:i<=es.size)(d:∀e,(walkL w S es ep)[i]?=some e->Q (some (e.2,slotAt w t (i+1))) s)(k:i=es.size->Q none s):a5 (bc prog w) A (setNext S (slotAt w t i) i ep) Q E s:=by
 obtain⟨o,l,I,m⟩:=p;have v:t.place.size=es.size:=by simp only[aGl,aAM,beq_iff_eq,decide_eq_true_eq]at c;exact c.1
 unfold setNext;refine aAa (aCj l m c ?_);refine aAa (DJ ?_);by_cases a:w.params.followText "set-order"=true
 .rw[jk a,ka (by simp)];unfold setWalk;refine aAa (aAa<|aCj l m c<|aAa<|DJ ?_);rw[jk a];refine aAa (aFw<|aAb ?_);refine aAb ?_;have g:(walkL w S es ep)=(ja (w.params.setOrder S ep) es).toList:=by unfold walkL;rw[jk a]
  have h:slotAt w t i=slotAt w t (i+1):=by
   cases i with
   |zero=>show 0=if w.params.followText "set-order"=true then 0 else _;rw[jk a]
   |succ i=>show(if w.params.followText "set-order"=true then 0 else _)=if w.params.followText "set-order"=true then 0 else _;rw[jk a,jk a]
  rw[g,aAA]at d;show Q (((ja (w.params.setOrder S ep) es)[i]?).map λe=>(e.2,slotAt w t i)) s;cases e:(ja (w.params.setOrder S ep) es)[i]? with
  |some x=>rw[h];exact d x e
  |none=>
   have n:(ja (w.params.setOrder S ep) es).size=es.size:=by have:=(uH (w.params.setOrder S ep) es).length_eq;simpa using this
   have:=Array.getElem?_eq_none_iff.mp e;exact k (by lia)
 .rw[ka a];have y:¬(!t.plain&&decide (es.size>1))=true:=by rw[q];simp
  show a5 _ _ (if(!t.plain&&decide (es.size>1))=true then _ else _) _ _ s;rw[ka y];show a5 _ _ ((if(!t.led&&!es.isEmpty)=true then _ else _)>>=_) _ _ s;rw[ka (by rw[r a];simp)];refine aAa (aAb<|aAb ?_);rw[DZ t u a (by lia)];have g:(walkL w S es ep)=es.toList:=by unfold walkL;rw[ka a]
  rw[g,aAA]at d;by_cases z:i<es.size
  .have f:es[i]?=some es[i]:=aAy z;have b:i<t.place.size:=by lia
   have B:t.place[i]?=some t.place[i]:=aAy b;have:=d _ f;rw[f,B];have C:slotAt w t (i+1)=t.place[i]+1:=by show(if w.params.followText "set-order"=true then 0 else t.place.getD i 0+1)=_;rw[ka a];simp[aFd,b]
   rw[C]at this;exact this
  .have f:es[i]?=none:=aBC (by lia);rw[f];exact k (by lia)
def S1 (h:P7 s.heap w it S t i n ep):s.TypeIs (.ref it) "set_iterator":=⟨_,h,rfl⟩
def ME {Q:Option ai->a9->Prop}(a:P7 s.heap w it S t i es.size ep)(b:IsSet s.heap S es ep t)(c:t.fits es.size=true)(g:t.plain=true)(k:¬w.params.followText "set-order"=true->t.led=true)(l:ST.KC t.place)(m:i<es.size)(h:∀e h',(walkL w S es ep)[i]?=some e->P7 h' w it S t (i+1) es.size ep->Heap.SameBut it s.heap h'->Q (some e.2) {s with heap:=h'}):a5 (bc prog w) A (fT (.ref it)) Q E s:=by
 have d:=S1 a;obtain⟨o,n,z,p⟩:=id b;unfold fT;refine aAa (aDU (aBY (name:=aCD "__next__") d F.slot_seti_next
  (aBh F.slot_seti_next d F.entry_seti_next ?_ (F.args_seti_next _))))
 refine aAa (aAb ?_);refine aAa (aFX a rfl ?_);show a5 _ _ (setEntries S>>=_) _ _ s;refine aAa (aED n p c ?_);rw[ka (by simp)];show a5 _ _ (setNext S (aEE (slotAt w t i:Int)) (aEE (i:Int)) (aEE (ep:Int))>>=_) _ _ s;rw[aBA,aBA,aBA];refine aAa (yJ b c g k l (aDu m) (λe q=>?_) λe=>by lia);show a5 _ _ (setField (.ref it) 0 (d9<|slotAt w t<|i+1)>>=_) _ _ s;refine aAa (aCa a (by simp) λr u v=>?_);show a5 _ _ (setField (.ref it) 1 (d9<|(i:Int)+1)>>=_) _ _ _;refine aAa (aCa (s:={s with heap:=r}) u (by simp) λf x y=>?_);refine aAb ⟨_,rfl,aAb (h e f q ?_ (v.trans y))⟩;have:f.get? it=some _:=x;unfold P7;rw[this];simp
def VD {Q:Option ai->a9->Prop}(l:A.handled=none)(c:P7 s.heap w it S t es.size es.size ep)(d:IsSet s.heap S es ep t)(f:t.fits es.size=true)(n:t.plain=true)(p:¬w.params.followText "set-order"=true->t.led=true)(q:ST.KC t.place)(h:∀h',Heap.ExtBut it s.heap h'->Q none {s with heap:=h'}):a5 (bc prog w) A (fT (.ref it)) Q E s:=by
 have g:=S1 c;obtain⟨o,r,y,u⟩:=id d;unfold fT;refine aAa (aDU (aBY (name:=aCD "__next__") g F.slot_seti_next
  (aBh F.slot_seti_next g F.entry_seti_next ?_ (F.args_seti_next _))))
 refine aAa (aAb ?_);refine aAa (aFX c rfl ?_);show a5 _ _ (setEntries S>>=_) _ _ s;refine aAa (aED r u f ?_);rw[ka (by simp)];show a5 _ _ (setNext S (aEE (slotAt w t es.size:Int)) (aEE (es.size:Int)) (aEE (ep:Int))>>=_) _ _ s;rw[aBA,aBA,aBA];refine aAa (yJ d f n p q (aAj _) (λe v=>?_) λ_=>?_)
 .have x:=(walkL_perm w S es ep).length_eq;have k:=(aAx.mp v).1;rw[x]at k;simp at k
 .show a5 _ _ (setField (.ref it) 2 .none>>=_) _ _ s;refine aAa (aFY c rfl (by simp) ?_);show a5 _ _ (newExc (.type "StopIteration") []>>=_) _ _ _;refine aAa ?_;simp only[newExc,newTuple];refine aAa (aAS ?_ (by size_fits));refine aAa (m:=firstArgMember _ _) (aGg (a:=Value.none) (by first|rfl|(simp only[firstArgMember];rfl)) ?_);refine aAS ?_ (by size_fits);simp only[raiseNew];refine aAa (wpAny_handled ?_);rw[show A.in1.handled=none from l];refine aAa (aAb<|wpAny_throw ?_);refine aAa (aDi (T:= "StopIteration") (b:=true) ⟨_,aAo _ rfl,rfl⟩ aFZ ?_);exact aAb (h _<|((aEF ..).extBut.push _).push _)
def fF (x:IsSet h S es ep t)(e:∀o,h.get? S=some o->h'.get? S=some o):IsSet h' S es ep t:=let⟨o,a,r⟩:=x;⟨o,e o a,r⟩
end
section
def KI (p:A.handled=none)(I S:bb)(r:S≠I)(f:t.fits es.size=true)(g:t.plain=true)(k:¬w.params.followText "set-order"=true->t.led=true)(l:ST.KC t.place):
  Walks prog w A I [I,S] [I] es.size (λi v=>∃e,(walkL w S es ep)[i]?=some e/\v=e.2) (λi h=>P7 h w I S t i es.size ep/\IsSet h S es ep t)where
 sub:=λb a=>by simp at a;simp[a]
 frame:=λ_ _ _ st m=>⟨m I (by simp) _ st.1,fF st.2 λo e=>m S (by simp) o e⟩
 item:=λi s Q E u st c=>ME st.1 st.2 f g k l u λe d x y n=>c e.2 d s.toks ⟨e,x,rfl⟩ ⟨y,fF st.2 λo q=>(n.2 S r).trans q⟩ λb o a q=>(n.2 b (λz=>a (by simp[z]))).trans q
 done:=λs Q E st c=>VD p st.1 st.2 f g k l λd B=>c d s.toks λb o a q=>B b o (λz=>a (by simp[z])) q
 self:=λi s Q E st c=>by refine aDZ (S1 st.1) F.slot_seti_iter (aBh F.slot_seti_iter (S1 st.1) F.entry_seti_iter ?_ (F.args_seti_iter _));refine aAa (aAb<|aAb ⟨_,rfl, "set_iterator",_,S1 st.1,F.slot_seti_next.lookup,c⟩)
def collect_set {Q:List ai->a9->Prop}(hh:A.handled=none)(hS:IsSet s.heap S es ep t)(hf:t.fits es.size=true)(hp:t.plain=true)(hl:¬w.params.followText "set-order"=true->t.led=true)(ha:ST.KC t.place)(hn:es.size<=sizeLine)
  (hQ:∀h' tk,(∀b o,s.heap.get? b=some o->h'.get? b=some o)->Q ((walkL w S es ep).map (·.2)) {s with heap:=h',toks:=tk}):a5 (bc prog w) A (collect (.ref S)) Q E s:=by
 obtain⟨I,d,h,hdS⟩:=id hS;have hT:s.TypeIs (.ref S) "set":=⟨I,d,h⟩;have C:S<s.heap.objs.size:=aAg d;unfold collect;refine aAa (aFW<|aBu PySem.F.entry_proto_collect ?_);rw[aAX PySem.F.plain_proto_collect _];show a5 _ A.in1 (newList []>>=λl=>again (.builtin "list.__iadd__" ⟨[l,.ref S],[]⟩)) _ _ s;refine aAa (aAS ?_);refine aAb ⟨aBQ PySem.F.plain_list_iadd _,aBu PySem.F.entry_list_iadd ?_⟩;rw[aAX PySem.F.plain_list_iadd _];generalize k:s.heap.push {cls:=.type "list",data:=.seq ([]:List ai).toArray}=a;have f:∀b o,s.heap.get? b=some o->a.get? b=some o:=λb o e=>by rw[<-k];exact aAc _ e
 have c:a.objs.size=s.heap.objs.size+1:=by rw[<-k,aBy]
 have J:a.get? s.heap.objs.size=some {cls:=.type "list",data:=.seq ([]:List ai).toArray}:=by rw[<-k];exact aAo _ rfl
 have p:IsSet a S es ep t:=fF hS λo e=>f S o e;have L:Shared.TypeIs {s with heap:=a} (.ref S) "set":=⟨I,f _ _ d,h⟩;have q:aDc (.ref s.heap.objs.size) (.ref S)=false:=by simp[aDc,aCC C]
 show a5 _ A.in1 (aCb (.ref s.heap.objs.size) (.ref S)<|.ref s.heap.objs.size) _ _ _;unfold aCb;refine aAa (aDQ L ?_);rw[ka (by rw[q];decide)];refine aAa (OS (s:={s with heap:=a}) p hf hp ?_);refine aAa (aAK ?_);generalize r:a.push {cls:=.type "set_iterator",dict:=none,data:=.fields #[d9 (slotAt w t 0),d9 (0:Nat),.ref S,d9 es.size,d9 ep],slots:=#[]}=n;have g:∀b o,a.get? b=some o->n.get? b=some o:=λb o e=>by rw[<-r];exact aAc _ e
 have N:P7 n w a.objs.size S t 0 es.size ep:=by rw[<-r];exact aAo _ rfl
 have O:IsSet n S es ep t:=fF p λo e=>g S o e;have m:Shared.TypeIs {s with heap:=n} (.ref S) "set":=⟨I,g _ _ (f _ _ d),h⟩;have u:=g _ _ J;unfold aCI;refine aAa (aBs m PySem.F.slot_set_len.lookup ?_)
 (generalize hid:("set.__len__":String)=v;(fail_if_success (clear hid v));wp_delta;rw[show splitId v=some ("set", "__len__")from by subst hid;decide+kernel];subst hid)
 refine aAa (aDi (b:=true) m (by rw[aEZ];kernel_rfl) ?_);rw[ka (by decide)];refine IK (by decide+kernel) ?_
 .refine aAa (aDQ m<|aAb ?_);rw[jk (by decide)];show a5 _ A.in1 (rule "list.extend.makes-room">>=λ_=>aFB (.ref s.heap.objs.size)>>=λ_=>again (.builtin "list.extend.loop" ⟨[.ref s.heap.objs.size,.ref a.objs.size,.ref s.heap.objs.size],[]⟩)) _ _ _
  refine aAa (aDz ?_);refine aAa ?_;show a5 _ A.in1 (i4 s.heap.objs.size (·.push .none)>>=λ_=>i4 s.heap.objs.size (·.pop)) _ _ _;refine aAa (aCc u rfl ?_);have x:=aAZ (aBx (·.push Value.none)) u rfl;refine aCc x rfl ?_;have T:=aAZ (aBx (·.pop)) x rfl;have U:∀b o,b≠s.heap.objs.size->n.get? b=some o->((n.update s.heap.objs.size (aBx (·.push Value.none))).update s.heap.objs.size (aBx (·.pop))).get? b=some o:=
   λb o y e=>(aAC _ _<|aCg y).trans ((aAC _ _<|aCg y).trans e)
  have z:a.objs.size≠s.heap.objs.size:=by rw[c];lia
  have W:=(KI (prog:=prog) (w:=w) (A:=A.in1) (by simp[hh]) a.objs.size S (by rw[c];exact aAl (aBz C)) (es:=es) (ep:=ep) (t:=t) hf hp hl ha).toS;refine aAb ⟨aBQ PySem.F.plain_extend_loop _,codeAny_extend_loopS W hn _ (by simp only[aAd,aAD,or_false,not_or];exact⟨aCg z,aCC C⟩) _ es.size 0 _ _ _ rfl (aAY _) ⟨U _ _ z N,fF O λo e=>U S o (aAl C) e⟩ T (ItemsOf.nil _) λB ip c' H jh Y=>?_⟩;show a5 _ A (load s.heap.objs.size>>=_) _ _ B;refine aAa (wpAny_load jh ?_);refine aAb ?_;have g0:B.gens=s.gens:=H.gens;have d0:B.drawn=s.drawn:=H.drawn;have o0:B.os=s.os:=H.os;have ea:ip.toList=(walkL w S es ep).map (·.2):=by
   have km:=(walkL_perm w S es ep).length_eq;apply aDy;intro i;rw[aAG,aAA];by_cases hi:i<es.size
   .have vc:i<ip.size:=by rw[Y.1];exact hi
    obtain⟨e,he,hv⟩:=Y.2 i _ (aAy vc);rw[he,aAy vc,hv];rfl
   .rw[aBC (by rw[Y.1];lia),aEm (by rw[km];simp;lia)];rfl
  obtain⟨h',g',d',yg,os'⟩:=B;subst g0 d0 o0;rw[ea];refine hQ h' yg λb o e=>?_;have y:b≠s.heap.objs.size:=aAl (aAg e);have xo:b≠a.objs.size:=by rw[c];exact aAl (aBz<|aAg e)
  exact H.heap b o (by simp only[aAd,aAD,or_false,not_or];exact⟨y,xo⟩) (U b o y<|g _ _<|f _ _ e)
end
end SI
namespace DL
open PySem PySem.Spec L2
open PyProof.Rows hiding St
def MP:D->Bool
 |.int _=>true
 |_=>false
def U1:D->Bool
 |.tup Y=>!Y.isEmpty&&Y.all MP
 |_=>false
def intD:D->Int
 |.int i=>i
 |_=>0
def flat:D->List Int
 |.tup Y=>Y.map intD
 |_=>[]
theorem QU:∀{Y:List D},Y.all MP=true->Y=(Y.map intD).map D.int
 |[],_=>rfl
 |x::Y,h=>by
  simp only[aGj,aAM]at h;cases x with
  |int i=>show D.int i::Y=D.int i::(Y.map intD).map D.int;rw[<-QU h.2]
  |_=>cases h.1
def iY (h:U1 d=true):flat d≠[]/\d=.tup ((flat d).map .int):=by
 cases d with
 |tup Y=>simp only[U1,aAM,Bool.not_eq_true',List.isEmpty_eq_false_iff]at h;refine⟨by simpa[flat]using h.1,?_⟩;show D.tup Y=D.tup ((Y.map intD).map D.int);rw[<-QU h.2]
 |_=>cases h
def qH (h:U1 d=true)(h':U1 e=true)(q:flat d=flat e):d=e:=by rw[(iY h).2,(iY h').2,q]
theorem tN:∀l:List Int,gZ (l.map D.int)=true
 |[]=>rfl
 |i::l=>by show(true&&gZ (l.map D.int))=true;rw[tN l];rfl
def D6 (h:U1 d=true):rF d=true:=by rw[(iY h).2];exact tN _
def FS (h:U1 d=true):B5 d<8:=by
 rw[(iY h).2];have:∀l:List Int,z6 (l.map D.int)=0:=λl=>by
  induction l with
  |nil=>rfl
  |cons i l a=>show max 0 (z6<|l.map D.int)=0;rw[a];rfl
 show z6 _+1<8;rw[this];lia
def sH (d:D):List D->List D
 |[]=>[d]
 |x::Y=>if flat d=flat x then x::Y else if HT.lexLt (flat d) (flat x)=true then d::x::Y else x::sH d Y
def T5 (ds:List D):List D:=ds.foldr sH []
def LU (ds:List D):Prop:=ds.Pairwise λx y=>HT.lexLt (flat x) (flat y)=true
theorem jX:∀{Y:List D},e∈sH d Y->e=d\/e∈Y
 |[],h=>by rcases aAd.mp h with h|h;exact .inl h;cases h
 |x::Y,h=>by
  unfold sH at h;split at h
  .exact .inr h
  .split at h
   .rcases aAd.mp h with h|h
    .exact .inl h
    .exact .inr h
   .rcases aAd.mp h with h|h
    .exact .inr (by rw[h];exact .head _)
    .rcases jX h with h|h
     .exact .inl h
     .exact .inr (.tail _ h)
theorem AX:∀{Y:List D},e∈Y->e∈sH d Y
 |x::Y,h=>by
  unfold sH;split
  .exact h
  .split
   .exact .tail _ h
   .rcases aAd.mp h with h|h
    .rw[h];exact .head _
    .exact .tail _ (AX h)
theorem BB (a:U1 d=true):∀{Y:List D},(∀x∈Y,U1 x=true)->d∈sH d Y
 |[],_=>.head _
 |x::Y,h=>by
  unfold sH;split
  .rename_i q;rw[qH a (h x (.head _)) q];exact .head _
  .split
   .exact .head _
   .exact .tail _ (BB a λy b=>h y (.tail _ b))
theorem AT:∀{Y:List D},LU Y->LU (sH d Y)
 |[],_=>aDd _ _
 |x::Y,h=>by
  have b:=aAs.mp h;unfold sH;split
  .exact h
  .rename_i ne;split
   .rename_i lt;refine aAs.mpr ⟨λy a=>?_,h⟩;rcases aAd.mp a with rfl|a
    .exact lt
    .exact TS.lex_trans _ _ _ lt (b.1 y a)
   .rename_i c;refine aAs.mpr ⟨λy a=>?_,AT b.2⟩;rcases jX a with rfl|a
    .cases q:HT.lexLt (flat x) (flat y)with
     |true=>rfl
     |false=>exact absurd (TS.lex_total _ _ (by simpa using c) q) ne
    .exact b.1 y a
theorem V5:∀ds:List D,LU (T5 ds)
 |[]=>.nil
 |_::ds=>AT (V5 ds)
theorem xZ:∀{ds:List D},(∀d∈ds,U1 d=true)->∀d∈T5 ds,U1 d=true
 |[],_,d,h=>by cases h
 |e::ds,h,d,hd=>by
  rcases jX hd with rfl|hd
  .exact h _ (.head _)
  .exact xZ (λd hd=>h d (.tail _ hd)) d hd
theorem G9:∀{ds:List D},(∀d∈ds,U1 d=true)->∀d,d∈T5 ds↔d∈ds
 |[],_,d=>Iff.rfl
 |e::ds,h,d=>by
  have a:∀d∈ds,U1 d=true:=λd b=>h d (.tail _ b);constructor
  .intro q;rcases jX q with rfl|q
   .exact .head _
   .exact .tail _ ((G9 a d).mp q)
  .intro q;rcases aAd.mp q with rfl|q
   .exact BB (h _<|.head _) (xZ a)
   .exact AX ((G9 a d).mpr q)
theorem fE:∀{Y b:List D},LU Y->LU b->(∀d,d∈Y↔d∈b)->Y=b
 |[],[],_,_,_=>rfl
 |[],y::b,_,_,h=>by have:=(h y).mpr (.head _);cases this
 |x::Y,[],_,_,h=>by have:=(h x).mp (.head _);cases this
 |x::Y,y::b,k,l,h=>by
  have c:=aAs.mp k;have e:=aAs.mp l;have a:∀d:D,HT.lexLt (flat d) (flat d)≠true:=λd q=>by rw[TS.lex_irrefl]at q;cases q
  have f:x=y:=by
   rcases aAd.mp ((h x).mp (.head _))with q|q
   .exact q
   .rcases aAd.mp ((h y).mpr (.head _))with g|g
    .exact g.symm
    .exact absurd (TS.lex_trans _ _ _ (e.1 x q)<|c.1 y g) (a y)
  subst f;congr 1;refine fE c.2 e.2 λd=>?_;constructor
  .intro q;rcases aAd.mp ((h d).mp (.tail _ q))with z|z
   .subst z;exact absurd (c.1 d q) (a d)
   .exact z
  .intro q;rcases aAd.mp ((h d).mpr (.tail _ q))with z|z
   .subst z;exact absurd (e.1 d q) (a d)
   .exact z
def KQ (h:LU Y):Y.Nodup:=h.imp λ{x y} q z=>by subst z;rw[TS.lex_irrefl]at q;cases q
def zj:D->R (List D)
 |.lst a=>if a.all U1=true/\(T5 a).length<=63 then .ok (T5 a)else .bad
 |_=>.bad
section
mutual
theorem S6 (I:Inv X a σ H s):∀{v:V} {d:D} {u:ai},Rep X.K H O v d->rF d=true->RelV v u->HV s.heap u d
 |_,_,_,.non,e,_=>by cases e
 |_,_,_,.bl,e,_=>by cases e
 |_,_,_,.str,e,_=>by cases e
 |_,_,_,.lst _ _ _,e,_=>by cases e
 |_,_,_,.dct _ _ _,e,_=>by cases e
 |_,_,_,.int,_,r=>by obtain⟨t,rfl⟩:=r;exact .int _ t
 |_,_,_,.tup h r,e,b=>by cases b;obtain⟨c,f,p,_⟩:=I.tuple h;exact .tup p (GJ I r e f)
theorem GJ (I:Inv X b σ H s):∀{v:List V} {d:List D} {u:List ai},Reps X.K H O v d->gZ d=true->l6 v u->HVs s.heap u d
 |_,_,_,.nil,_,.nil=>.nil
 |_,_,_,.cons r t,e,.cons c f=>by have a:(rF _&&gZ _)=true:=e;rw[aAM]at a;exact .cons (S6 I r a.1 c) (GJ I t a.2 f)
end
end
variable [Tabs]
def nq (w:cq)(o:Obj)(es:List ai):Prop:=o.ExactSet/\∃a b t,o.data=.set a b t/\t.fits a.size=true/\t.plain=true/\t.led=!w.params.followText "set-order"/\ST.KC t.place/\a.toList.map (·.2)=es
abbrev u9 (K:kc)(H:Hp)(O:bb->Prop):List ai->List D->Prop:=Paired λu d=>∃v,RelV v u/\Rep K H O v d
theorem u9.of {K:kc}{H:Hp}{O:bb->Prop}:∀{vs:List V} {a:List ai} {ds:List D},l6 vs a->Reps K H O vs ds->u9 K H O a ds
 |_,_,_,.nil,.nil=>.nil
 |_,_,_,.cons r t,.cons q u=>.cons ⟨_,r,q⟩ (u9.of t u)
theorem u9.ab9 {K:kc}{H:Hp}{O:bb->Prop}:∀{a:List ai} {ds:List D},u9 K H O a ds->∃vs,l6 vs a/\Reps K H O vs ds
 |_,_,.nil=>⟨[],.nil,.nil⟩
 |_,_,.cons ⟨v,r,q⟩ t=>let⟨vs,b,c⟩:=u9.ab9 t;⟨v::vs,.cons r b,.cons q c⟩
def u9.same {K:kc}{H H':Hp}{O:bb->Prop}(s:Same H H'){a:List ai}{ds:List D}(h:u9 K H O a ds):u9 K H' O a ds:=eI (by rintro _ _ ⟨v,r,q⟩;exact⟨v,r,q.same s⟩) h
theorem u9.get {K:kc}{H:Hp}{O:bb->Prop}:∀{a:List ai} {ds:List D} {u:ai},u9 K H O a ds->u∈a->∃d∈ds,∃v,RelV v u/\Rep K H O v d
 |_,_,_,.cons r t,h=>by
  rcases aAd.mp h with rfl|h
  .exact⟨_,.head _,r⟩
  .obtain⟨d,b,q⟩:=u9.get t h;exact⟨d,.tail _ b,q⟩
open Classical in
def Q5 (K:kc) (H:Hp) (h:cv):cv:=PySem.W.hideAll h ((aBw h.objs.size).filter λa=>decide (¬∃Y,X1 K H a Y))
def aJ (K:kc)(H:Hp)(h:cv):Keeps (Q5 K H h) h:=λb o e=>PySem.W.of_hideAll _ e
open Classical in
def xX {K:kc}{H:Hp}{h:cv}{b:bb}{o:Obj}{Y:List V}(e:h.get? b=some o)(q:X1 K H b Y):(Q5 K H h).get? b=some o:=PySem.W.hideAll_get _ e λa=>by have:=(aBX.mp a).2;exact(of_decide_eq_true this) ⟨Y,q⟩
open Classical in
def CQ {K:kc}{H:Hp}{h:cv}{b:bb}{o:Obj}(e:(Q5 K H h).get? b=some o):∃Y,X1 K H b Y:=by refine Classical.byContradiction λn=>?_;have a:=aJ K H h b o e;have:(Q5 K H h).get? b=none:=PySem.W.hideAll_none _ (aBX.mpr ⟨aCB.mpr (aAg a),decide_eq_true n⟩);rw[this]at e;cases e
section
mutual
theorem RK (I:Inv X a σ H s):∀{v:V} {d:D} {u:ai},Rep X.K H O v d->rF d=true->RelV v u->HV (Q5 X.K H s.heap) u d
 |_,_,_,.non,e,_=>by cases e
 |_,_,_,.bl,e,_=>by cases e
 |_,_,_,.str,e,_=>by cases e
 |_,_,_,.lst _ _ _,e,_=>by cases e
 |_,_,_,.dct _ _ _,e,_=>by cases e
 |_,_,_,.int,_,r=>by obtain⟨t,rfl⟩:=r;exact .int _ t
 |_,_,_,.tup h r,e,b=>by cases b;obtain⟨f,k,⟨o,g,c,n,d⟩,_⟩:=I.tuple h;exact .tup ⟨o,xX g h,c,n,d⟩ (FI I r e k)
theorem FI (I:Inv X b σ H s):∀{v:List V} {d:List D} {u:List ai},Reps X.K H O v d->gZ d=true->l6 v u->HVs (Q5 X.K H s.heap) u d
 |_,_,_,.nil,_,.nil=>.nil
 |_,_,_,.cons r t,e,.cons c f=>by have a:(rF _&&gZ _)=true:=e;rw[aAM]at a;exact .cons (RK I r a.1 c) (FI I t a.2 f)
end
mutual
theorem NG (I:Inv X b σ H s):∀{u:ai} {d:D},HV (Q5 X.K H s.heap) u d->∃v,RelV v u/\Rep X.K H O v d
 |_,_,.int i t=>⟨.int i,⟨t,rfl⟩,.int⟩
 |_,_,.tup (a:=a) ⟨o,g,c,n,h⟩ r=>by obtain⟨Y,q⟩:=CQ g;obtain⟨k,l,m⟩:=u9.ab9 (GU I r);obtain⟨p,w,⟨y,e,_,z,f⟩,_⟩:=I.tuple q;rw[aJ _ _ _ _ _ g]at e;cases e;rw[h]at f;injection f with x _;subst x;have:k=Y:=l.inj (by simpa using w);subst this;exact⟨.ref a,rfl,.tup q m⟩
theorem GU (I:Inv X a σ H s):∀{u:List ai} {d:List D},HVs (Q5 X.K H s.heap) u d->u9 X.K H O u d
 |_,_,.nil=>.nil
 |_,_,.cons r t=>.cons (NG I r) (GU I t)
end
end
section
def yw (X:Cx)(B:D->Bool)(U:List D->List D)(f:Ev->R D):TE:=λσ H Q=>∃h k O ρ,EnvOk X.K h k H O σ ρ/\match f ρ with
 |.ok (.lst b)=>(b.all B=true/\(U b).length<=63)/\∀S o e c a,Same H a->a S=none->nq X.w o e->u9 X.K a O e c->c.Nodup->(∀d,d∈c↔d∈b)->Q (.ref S) (upd a S<|.frz o (.own S))
 |.ex x=>∀g,Same H g->XW X x g
 |_=>False
def VH {B:D->Bool}{U:List D->List D}(hB:∀{d},B d=true->rF d=true/\B5 d<8/\∃N,d=.tup N)(hU:∀{ds:List D},(∀d∈ds,B d=true)->∀d,d∈U ds↔d∈ds)(ha:PB X e f)(hh:X.calm=true)(hu:X.A.units+300<dA)(hg:Gl X "set":=by rfl)(hm:X.mg "set"=none:=by assumption)(hv:df "set"=some (.type "set"):=by decide+kernel)(he:av [e] X.env=(false,d3 e X.env)::av [] X.env:=by rfl)(bg:(dq y (av [] X.env)).any (·.1)=false:=by rfl):
  PE X (.Call (.Name "set" p) [e] [] y) (yw X B U f):=by
 refine sG λC s σ H Q I H9 O0 O ρ E q=>?_;refine aAL (K8 I hg hm hv ?_ (by decide) (by decide));have lb:PA X [e] _:=J0 ha aM he;refine aBe (E6 (lb y C s σ H (λvs c=>∃v ds,vs=[v]/\f ρ=.ok (.lst ds)/\Same H c/\A9 X.K c O v (.lst ds)) I ⟨H9,O0,O,ρ,E,?_⟩) λus g z9=>?_) he bg
 .cases b:f ρ with
  |ex z=>rw[b]at q;exact q
  |bad=>rw[b]at q;exact q.elim
  |ok d=>
   rw[b]at q;cases d with
   |lst ds=>exactλv c g r1=>⟨v,ds,rfl,rfl,g,r1⟩
   |_=>exact q.elim
 .obtain⟨vs,c,l,r1,v,ds,ev,ef,sm,rb⟩:=z9;subst ev;rw[ef]at q;obtain⟨⟨hp,qt⟩,q⟩:=q;obtain⟨a,ws,rfl,hS,rr⟩:=rb.aa3;obtain⟨u,rfl,ru⟩:=vals1 r1;cases ru;obtain⟨h,rv,⟨oL,nL,gL,cL,dL,sL⟩,zL⟩:=l.list hS;have pt:∀d∈ds,B d=true:=aBt.mp hp;have hlen:h.toArray.size=ds.length:=by rw[aAm,<-rv.length,rr.length]
  have st:u9 X.K c O h ds:=u9.of rv rr;have J:∀(i:Nat) (v:ai),h.toArray[i]?=some v->ZQ (Q5 X.K c g.heap) v (ds.getD i .non):=λi v m=>by
   rw[aCO]at m;obtain⟨d,n,w,oh,rp⟩:=F9 st m;have qg:ds.getD i .non=d:=by rw[aAq,n];rfl
   rw[qg];have hpt:=pt d (aAn n);obtain⟨T,hd8,N,rfl⟩:=hB hpt;have hv:=RK l rp T oh;cases hv with
   |tup p r=>exact⟨_,_,rfl,rfl,hd8,.tup p r⟩
  have vd:∀i<h.toArray.size,B5 (ds.getD i .non)<8/\∃N,ds.getD i .non=.tup N:=λi m=>by
   have L:i<ds.length:=by rw[<-hlen];exact m
   have b:ds.getD i .non=ds[i]:=by rw[aAq,aAh L];rfl
   rw[b];exact(hB<|pt _<|aBR L).2
  refine AQ (aJ X.K c g.heap) (val:=λi=>ds.getD i .non) (U:=U ds) (l.ok.hd hh) ⟨oL,gL,cL,nL,sL⟩ J vd (λi m=>?_) (by lia) hu λh' tk bh jh qp kp=>?_
  .have L:i<ds.length:=by rw[<-hlen];exact m
   rw[hU pt];have b:ds.getD i .non=ds[i]:=by rw[aAq,aAh L];rfl
   show ds.getD i .non∈ds;rw[b];exact aBR L
  .obtain⟨⟨o,x,ep,t,T,hc,zl,hsl,n,k,msk,pr,led,pl⟩,nd⟩:=jh;have mem:∀d,d∈bh↔d∈ds:=λd=>by
    rw[qp];constructor
    .rintro⟨j,Y,b⟩;have ui:j<ds.length:=by rw[<-hlen];exact Y
     have e2:ds.getD j .non=ds[j]:=by rw[aAq,aAh ui];rfl
     rw[<-b,e2];exact aBR ui
    .intro n;obtain⟨j,Y,b⟩:=aBc n;refine⟨j,by rw[hlen];exact Y,?_⟩;show ds.getD j .non=d;rw[aAq,aAh Y,<-b];rfl
   have I2:=l.laid (a:=g.heap.objs.size) (o:=.frz o (.own g.heap.objs.size)) (h':=h') (t':=tk) kp (aAj _) ⟨T,o,T⟩;refine⟨.ref g.heap.objs.size,_,I2,rfl,q g.heap.objs.size o (x.toList.map (·.2)) bh c sm (l.hok.fresh<|aAj _) ⟨⟨hc,zl,hsl⟩,x,ep,t,n,?_,pl,led,k.tab.asc,rfl⟩ ?_ nd mem⟩
   .have h1:=k.len;have h2:=k.room;simp only[aGl,aAM,beq_iff_eq,decide_eq_true_eq];exact⟨by simpa using h1,by show t.place.size+t.dummies.size<=t.mask;rw[k.tab.nod];simpa using h2⟩
   .have:∀{x:List (Int×ai)} {ds:List D},Paired (EV<|Q5 X.K c g.heap) x ds->u9 X.K c O (x.map (·.2)) ds:=λ{x ds} p=>by
     induction p with
     |nil=>exact .nil
     |cons r _ ih=>exact .cons (NG l r.1) ih
    exact this pr
def BZ (h:cv) (v:ai):List Int:=open Classical in if p:∃d,U1 d=true/\HV h v d then flat p.choose else[]
def U5 (b:U1 d=true)(a:HV h v d):BZ h v=flat d:=by unfold BZ;have q:∃d,U1 d=true/\HV h v d:=⟨d,b,a⟩;rw[dif_pos q,HV.inj q.choose_spec.2 a]
def bY (e:U1 d=true)(c:HV h v d):∃b items,v=.ref b/\IsTup h b items/\IntsAre items.toList (flat d):=by
 rw[(iY e).2]at c;cases c with
 |tup p r=>
  refine⟨_,_,rfl,p,?_⟩;have:∀{a:List ai} {l:List Int},HVs h a (l.map D.int)->IntsAre a l:=λ{a l} r=>by
   induction l generalizing a with
   |nil=>cases r;exact .nil
   |cons i l f=>
    cases r with
    |cons r t=>cases r;exact .cons _ _ (f t)
  exact this r
def EJ {prog:bt}{w:cq}{A:cp}{E:E8}{s:a9}{x y:ai}{d e:D}{f:Bool}{Q:yG}(c:U1 d=true)(g:U1 e=true)(h:HV s.heap x d)(k:HV s.heap y e)(q:Q (HT.lexLt (flat d) (flat e)) s):a5 (bc prog w) A (keyLt' (TS.tupK f) x y) Q E s:=by obtain⟨b,l,rfl,m,n⟩:=bY c h;obtain⟨r,a,rfl,o,p⟩:=bY g k;exact TS.lt_ints f m o n p q
def pH {prog:bt}{w:cq}{A:cp}{E:E8}{s:a9}{vs:List ai}{Q:SortKind->a9->Prop}(h:∀x∈vs,∃d,U1 d=true/\HV s.heap x d)(y:2<=vs.length)(q:Q (TS.tupK true) s):a5 (bc prog w) A (keyKind' vs.toArray) Q E s:=by
 obtain⟨f,m⟩:∃f:ai->ai,∀x∈vs,∃b a k t,x=.ref b/\IsTup s.heap b a/\a[0]?=some (f x)/\f x=.int k t:=by
  refine⟨λx=>open Classical in if z:∃p,∃b a k t,x=.ref b/\IsTup s.heap b a/\a[0]?=some p/\p=aGB k t then z.choose else .none,λx n=>?_⟩;obtain⟨d,B,H⟩:=h x n;obtain⟨b,a,rfl,I,c⟩:=bY B H;have C:=(iY B).1;have z:∃p,∃g a k t,aDv b=.ref g/\IsTup s.heap g a/\a[0]?=some p/\p=aGB k t:=by
   cases e:a.toList with
   |nil=>rw[e]at c;generalize flat d=l at c C;cases c;exact absurd rfl C
   |cons p L=>
    rw[e]at c;generalize flat d=l at c;cases c with
    |cons k t N=>exact⟨_,b,a,k,t,rfl,I,by rw[<-aAA,e];rfl,rfl⟩
  dsimp only;rw[dif_pos z];obtain⟨g,J,k,t,o,r,u,v⟩:=z.choose_spec;exact⟨g,J,k,t,o,r,u,v⟩
 refine TS.kind_tuples (T:= "int") f (λx n=>?_) (λz=>by rw[z]at y;simp at y) (by decide) q;obtain⟨b,a,k,t,o,r,u,v⟩:=m x n;exact⟨b,a,o,r,u,by rw[v];exact typeIs_int s k t⟩
def kL {K:kc}{H:Hp}{O:bb->Prop}{o b:List ai}{ds:List D}{key:ai->List Int}(st:u9 K H O o ds)(E:b.Perm o)(I:b.Pairwise λx y=>HT.lexLt (key y) (key x)=false)(J:∀u d,(∃v,RelV v u/\Rep K H O v d)->d∈ds->key u=flat d)(pt:∀d∈ds,U1 d=true)(L:ds.Nodup):
  ∃a,u9 K H O b a/\a.Perm ds/\LU a:=by
 obtain⟨a,k,m⟩:=Z2 E st;refine⟨a,m,k,?_⟩;have n:a.Nodup:=k.nodup_iff.mpr L;have p:∀d∈a,U1 d=true:=λd c=>pt d (k.mem_iff.mp c);have s:∀u d,(∃v,RelV v u/\Rep K H O v d)->d∈a->key u=flat d:=λu d h c=>J u d h (k.mem_iff.mp c);clear E k st L pt J;induction m with
 |nil=>exact .nil
 |@cons u d o ds r t w=>
  have A:=aAs.mp I;have B:=aAI.mp n;refine aAs.mpr ⟨λe f=>?_,w A.2 B.2 (λd c=>p d (.tail _ c)) λu d h c=>s u d h (.tail _ c)⟩;have:∃g∈o,∃v,RelV v g/\Rep K H O v e:=by
   clear w I A B n p s r;induction t with
   |nil=>cases f
   |cons r t w=>
    rcases aAd.mp f with rfl|f
    .exact⟨_,.head _,r⟩
    .obtain⟨g,C,q⟩:=w f;exact⟨g,.tail _ C,q⟩
  obtain⟨g,C,q⟩:=this;have l:=A.1 g C;rw[s g e q (.tail _ f),s u d r (.head _)]at l;cases z:HT.lexLt (flat d) (flat e)with
  |true=>rfl
  |false=>have:=qH (p _<|.head _) (p _<|.tail _ f) (TS.lex_total _ _ z l);subst this;exact absurd f B.1
def N4 {p Y gg:Pos}{f:Ev->R D}(ha:PB X e f)(hh:X.calm=true)(hu:X.A.units+300<dA)(hg:Gl X "set":=by rfl)(hm:X.mg "set"=none:=by assumption)(hg2:Gl X "sorted":=by rfl)(kr:X.mg "sorted"=none:=by assumption)
  (hv:df "set"=some (.type "set"):=by decide+kernel) (hv2:df "sorted"=some (.builtin "sorted"):=by decide+kernel)
  (he:av [e] X.env=(false,d3 e X.env)::av [] X.env:=by rfl) (bg:(dq gg (av [] X.env)).any (·.1)=false:=by rfl)
  (lg:av [.Call (.Name "set" Y) [e] [] gg] X.env=(false,d3 (.Call (.Name "set" Y) [e] [] gg) X.env)::av [] X.env:=by rfl) (xi:(dq pos (av [] X.env)).any (·.1)=false:=by rfl):
  PF X (.Call (.Name "sorted" p) [.Call (.Name "set" Y) [e] [] gg] [] pos) (λρ=>(f ρ).bind zj):=by
 refine sG λpins s σ H Q I H9 O0 O ρ E q=>?_;dsimp only at q;refine aAL (K8 I hg2 kr hv2 ?_ (by decide) (by decide));have lb:PA X [.Call (.Name "set" Y) [e] [] gg] _:=J0 (VH (p:=Y) (B:=U1) (U:=T5) (λh=>⟨D6 h,FS h,_,(iY h).2⟩) G9 ha hh hu hg hm hv he bg) aM lg;refine aBo (E6 (lb pos pins s σ H (λvs H2=>∃S o es g c N,vs=[.ref S]/\H2=upd N S (.frz o (.own S))/\f ρ=.ok (.lst c)/\(c.all U1=true/\(T5 c).length<=63)/\Same H N/\N S=none/\nq X.w o es/\u9 X.K N O es g/\g.Nodup/\(∀d,d∈g↔d∈c)) I ⟨H9,O0,O,ρ,E,?_⟩)
  λus s1 z=>?_) lg xi
 .cases e1:f ρ with
  |ex z=>rw[e1]at q;exact q
  |bad=>rw[e1]at q;exact q.elim
  |ok d=>
   rw[e1,R.aa0]at q;cases d with
   |lst c=>
    simp only[zj]at q;by_cases hc:c.all U1=true/\(T5 c).length<=63
    .exact⟨hc,λS o es g N sm hS so st nd m=>⟨S,o,es,g,c,N,rfl,rfl,rfl,hc,sm,hS,so,st,nd,m⟩⟩
    .rw[ka hc]at q;exact q.elim
   |_=>exact q.elim
 .obtain⟨vs,H2,I2,r1,S,o,es,g,c,N,ev,eH,ef,⟨hp,qt⟩,sm,hS1,so,st,nd,m⟩:=z;subst ev eH;obtain⟨u,rfl,ru⟩:=vals1 r1;cases ru;rw[ef,R.aa0]at q;simp only[zj]at q;rw[jk ⟨hp,qt⟩]at q;have pt:∀d∈c,U1 d=true:=aBt.mp hp;have yh:∀d∈g,U1 d=true:=λd L=>pt d ((m d).mp L);have s12:Same N (upd N S<|.frz o (.own S)):=j6 hS1 _;have lu:=st.same s12;obtain⟨hc,ea,ep,t,L,hf,hpln,led,asc,ees⟩:=so;have goS:=(I2.hok S _ j3).1;have hS2:SI.IsSet s1.heap S ea ep t:=⟨o,goS,hc.1,L⟩;have hsl:(T5 c).Perm g:=by
   letI:DecidableEq D:=λa b=>aDW _
   exact(aDC (KQ<|V5 c) nd).mpr λd=>by rw[G9 pt,m]
  have hsz:ea.size=g.length:=by have:=st.length;rw[<-ees]at this;simpa using this
  have h63':g.length<=63:=by rw[<-hsl.length_eq];exact qt
  have wp:=SI.walkL_perm X.w S ea ep;have wpv:((SI.walkL X.w S ea ep).map (·.2)).Perm es:=by rw[<-ees];exact wp.map _
  have r:∀u∈(SI.walkL X.w S ea ep).map (·.2),∃d,d∈g/\U1 d=true/\HV s1.heap u d:=λu hu=>by obtain⟨d,L,v,rv,rp⟩:=lu.get (wpv.mem_iff.mp hu);exact⟨d,L,yh d L,S6 I2 rp (D6<|yh d L) rv⟩
  refine TS.sorted_keys (vs:=(SI.walkL X.w S ea ep).map (·.2)) (f:=true) (key:=BZ s1.heap) (C:=λs'=>∃h' T,s'={s1 with heap:=h',toks:=T}/\∀b o,s1.heap.get? b=some o->h'.get? b=some o)
   (λ{Q'} hq=>SI.collect_set (by simp[I2.ok.hd hh]) hS2 hf hpln (λnb=>by rw[led];simpa using nb) asc (by rw[hsz];exact aAr h63' (by decide)) λh' T k=>hq _ ⟨h',T,rfl,k⟩)
   (λs' ⟨h',T,J,k⟩ s6 k6 x hx y hy prog w A E hA {Q} qq=>?_) (λh2 s' ⟨h',T,J,k⟩ s6 k6 A {Q} qq=>?_) (by rw[aAf,wp.length_eq,aBd,hsz];lia) λs' gc h' l ⟨h1,T,J,k⟩ pm vf k2 hl ⟨n,gl⟩=>?_
  .subst J;obtain⟨d,_,pd,oi⟩:=r x hx;obtain⟨d',_,pd',qa⟩:=r y hy;rw[U5 pd oi,U5 pd' qa]at qq;exact EJ pd pd' (oi.keeps λb o e _=>k6 b o (k b o e)) (qa.keeps λb o e _=>k6 b o (k b o e)) qq
  .subst J;refine pH (λx hx=>?_) h2 qq;obtain⟨d,_,pd,oi⟩:=r x hx;exact⟨d,pd,oi.keeps λb o e _=>k6 b o (k b o e)⟩
  .subst J;obtain⟨me,yp,Y,qu⟩:=kL (key:=BZ s1.heap) lu (pm.trans wpv) vf (by rintro u d ⟨v,rv,rp⟩ L;exact U5 (yh d L) (S6 I2 rp (D6<|yh d L) rv)) yh nd;have e2:me=T5 c:=fE qu (V5 c) λd=>by rw[Y.mem_iff,m,G9 pt]
   subst e2;obtain⟨wv,oh,rr⟩:=yp.ab9;have I2':=I2.kept (h':=h1) (t':=T) k;have I3:=I2'.laid (a:=l) (o:=.lst wv) (h':=h') (t':=T) k2 hl ⟨by rw[rr.length];exact aAr qt (by decide),gc,n,oh,gl⟩;exact⟨.ref l,_,I3,rfl,q wv _ l (sm.trans s12) (I2'.hok.fresh hl) rr⟩
end
end DL
namespace SZ
open PySem
abbrev Zs (h:cv)(z TI TO:bb)(a b:ai):Prop:=h.get? z=some {cls:=.type "zip",dict:=none,data:=.fields #[a,b,.bool false,.ref TI,.ref TO],slots:=#[]}
def yB (b:ai):Prop:=b=.none\/∃a:Nat,b=d9 a
section
def alive {Q:Option Obj->a9->Prop}(h:Q (s.heap.get? c) s):a5 (bc prog w) A (loadIfAlive c) Q E s:=λΓ p _=>by unfold loadIfAlive;rw[Sem.wp_loadIfAlive];simpa using h
def nW {Q:yG}(hz:Zs s.heap z TI TO b c)(k:yB b)(e:Q true s)(f:∀h' d,Zs h' z TI TO b d->Heap.SameBut z s.heap h'->Q false {s with heap:=h'}):a5 (bc prog w) A (aBT (.ref z)) Q E s:=by
 unfold aBT;refine aAa (aCR hz rfl (x:=b) rfl ?_);rcases k with rfl|⟨a,rfl⟩
 .exact aAb e
 .show a5 _ _ (loadIfAlive (aEE (a:Int))>>=_) _ _ _;refine aAa (alive ?_);by_cases g:(s.heap.get?<|aEE (a:Int)).isNone=true
  .rw[jk g];exact aAb e
  .rw[ka g];refine aAa (aCR hz rfl (x:=c) rfl ?_);by_cases h:(c !=aDA true)=true
   .rw[jk h];refine aAa (aCa hz (by simp) λh' l m=>aAb (f h' (.bool true) l m))
   .rw[ka h];exact aAb (f s.heap c hz ⟨rfl,λ_ _=>rfl⟩)
def PV {Q:E8}(D:ZipApart z TI TO n p U l2)(hz:Zs s.heap z TI TO f0 f1)(ho:yB f0)(vg:gr s.heap TI (.ref n) (.ref p))(uh:gr s.heap TO a b)(h1:s.heap.IsListIter n U k)(h2:s.heap.IsListIter p l2 k)(pg:s.heap.IsList U Y)(km:s.heap.IsList l2 ys)(hx:Y[k]?=some x)(hy:ys[k]?=some y)(hQ:∀h' T f0' B a' b',Zs h' z TI TO f0' B->yB f0'->gr h' TO a' b'->h'.IsListIter n U (k+1)->h'.IsListIter p l2 (k+1)->s.heap.objs.size<=T->gr h' T x y->
   (∀c o,c≠z->c≠TO->c≠n->c≠p->s.heap.get? c=some o->h'.get? c=some o)->Q (.ref T) {s with heap:=h'}):
  a5 (bc prog w) A (Builtin.«zip.__next__» ⟨[.ref z],[]⟩) (λfin s'=>∃v,fin=.done (.ret v)/\Q v s') E s:=by
 show a5 _ _ (field (.ref z) 2>>=_) _ _ _;refine aAa (aCR hz rfl (x:=.bool false) rfl ?_);show a5 _ _ (field (.ref z) 3>>=_) _ _ _;refine aAa (aCR hz rfl (x:=.ref TI) rfl ?_);refine aAa (aBN vg rfl ?_);show a5 _ _ (aBT (.ref z)>>=_) _ _ _;refine aAa (nW hz ho ?_ λr B yi d=>?_)
 .simp only[if_true];refine aAa (aDz ?_);refine aAa (aCR hz rfl (x:=.ref TO) rfl ?_);refine aAa (aCa hz (by simp) λr yi d=>?_);replace yi:Zs r z TI TO .ellipsis f1:=yi;refine aAa ?_;simp only[aEp,aEC,aDb,aEb];refine aAa (aAa<|wpAny_onRaise ?_);show a5 _ _ (aBO (.ref n)>>=_) _ _ _;refine aAa (aDm (h1.extBut d.extBut D.i1z) (pg.extBut d.extBut D.l1z) hx λjb C g=>aAb ?_);have t:gr jb TO a b:=g.extBut _ _ D.TOi1 (d.extBut _ _ D.TOz uh);refine aAa (aBN t rfl ?_);refine aAa (wpAny_updateSeq_pair t λaA h O=>?_);replace h:gr aA TO x b:=h;refine aAa (aEa<|aAb ?_);refine aAa (aAa<|wpAny_onRaise ?_);show a5 _ _ (aBO (.ref p)>>=_) _ _ _;refine aAa (aDm (((h2.extBut d.extBut D.i2z).extBut g.extBut D.i12.symm).extBut O.extBut D.TOi2.symm)
   (((km.extBut d.extBut D.l2z).extBut g.extBut D.l2i1).extBut O.extBut D.l2TO) hy λH I l=>aAb ?_)
  have zr:gr H TO x b:=l.extBut _ _ D.TOi2 h;refine aAa (aBN zr rfl ?_);refine aAa (wpAny_updateSeq_pair zr λf zu m=>?_);replace zu:gr f TO x y:=zu;refine aAa (aEa<|aAb<|aAb ?_);refine aAa (aBN zu rfl ?_);refine aAa (aFU ?_);have J:f.objs.size=s.heap.objs.size:=by rw[m.1,l.1,O.1,g.1,d.1]
  have hz4:Zs f z TI TO .ellipsis f1:=m.extBut _ _ D.TOz.symm (l.extBut _ _ D.i2z.symm<|O.extBut _ _ D.TOz.symm<|g.extBut _ _ D.i1z.symm yi);have hk3:∀c o,c≠z->c≠TO->c≠n->c≠p->s.heap.get? c=some o->f.get? c=some o:=λc o q c2 c3 c4 e=>m.extBut _ _ c2 (l.extBut _ _ c4<|O.extBut _ _ c2<|g.extBut _ _ c3<|d.extBut _ _ q e)
  have h11:f.IsListIter n U (k+1):=((C.extBut O.extBut D.TOi1.symm).extBut l.extBut D.i12).extBut m.extBut D.TOi1.symm;have h21:f.IsListIter p l2 (k+1):=I.extBut m.extBut D.TOi2.symm;have u:z<f.objs.size:=aAg hz4;show a5 _ _ (aDI (.ref z) (.ref f.objs.size)>>=_) _ _ _;refine aAa ?_;unfold aDI;have hz6:Zs (f.push {cls:=.type "tuple",data:=.seq #[x,y]}) z TI TO .ellipsis f1:=aAc _ hz4;refine aAa (aCa hz6 (by simp) λaC L hs8=>?_);replace L:Zs aC z TI TO (d9 f.objs.size) f1:=L;refine aCa L (by simp) λaB N hs9=>?_;replace N:Zs aB z TI TO (d9 f.objs.size) (.bool false):=N;have up:∀c o,c≠z->f.get? c=some o->aB.get? c=some o:=λc o q e=>hs9.extBut _ _ q (hs8.extBut _ _ q<|aAc _ e);have hT0:gr aB f.objs.size x y:=hs9.extBut _ _ (aCC u) (hs8.extBut _ _ (aCC u)<|aAo _ rfl);refine aAb ⟨_,rfl,?_⟩;exact hQ aB f.objs.size _ _ x y N (.inr ⟨_,rfl⟩) (up _ _ D.TOz zu) (h11.at λo e=>up _ o D.i1z e) (h21.at λo e=>up _ o D.i2z e) (aEi J.symm) hT0 λc o q c2 c3 c4 e=>up c o q (hk3 c o q c2 c3 c4 e)
 .simp only[aAt,if_false];refine aAa ?_;show a5 _ _ (forIn (#[.ref n,.ref p]:Array ai) _ _) _ _ _;rw[<-aCr];simp only[aDb,aEb];refine aAa (aAa<|aAK ?_);show a5 _ _ (aBO (.ref n)>>=_) _ _ _;refine aAa (aDm (h1.extBut d.extBut D.i1z) (pg.extBut d.extBut D.l1z) hx λjb C g=>aAb ?_);refine aAb ?_;refine aAa (aAa<|aAK ?_);show a5 _ _ (aBO (.ref p)>>=_) _ _ _;refine aAa (aDm ((h2.extBut d.extBut D.i2z).extBut g.extBut D.i12.symm) ((km.extBut d.extBut D.l2z).extBut g.extBut D.l2i1) hy λH I l=>aAb ?_);refine aAb (aAb ?_);have J:H.objs.size=s.heap.objs.size:=by rw[l.1,g.1,d.1]
  have hz7:Zs H z TI TO f0 B:=l.extBut _ _ D.i2z.symm (g.extBut _ _ D.i1z.symm yi);have zr:gr H TO a b:=l.extBut _ _ D.TOi2 (g.extBut _ _ D.TOi1<|d.extBut _ _ D.TOz uh);have h12:H.IsListIter n U (k+1):=C.extBut l.extBut D.i12;show a5 _ _ (newTuple [x,y]>>=_) _ _ _;refine aAa (aFU ?_);refine aAb ⟨_,rfl,?_⟩;exact hQ _ H.objs.size _ _ a b (aAc _ hz7) ho (aAc _ zr) (h12.at λo e=>aAc _ e) (I.at λo e=>aAc _ e) (aEi J.symm) (aAo _ rfl)
   λc o q c2 c3 c4 e=>aAc _ (l.extBut _ _ c4<|g.extBut _ _ c3<|d.extBut _ _ q e)
def UK {Q:Fin->a9->Prop}(B:A.handled=none)(D:ZipApart z TI TO h n C H)(hz:Zs s.heap z TI TO T I)(U:yB T)(vg:gr s.heap TI (.ref h) (.ref n))(uh:gr s.heap TO a b)
  (J:s.heap.IsListIter h C k) (h2:s.heap.IsListIter n H k) (L:s.heap.IsList C Y) (km:s.heap.IsList H ys) (N:Y[k]?=none)
  (hE:∀h' e,(∀c o,c≠z->c≠TO->c≠h->c≠n->s.heap.get? c=some o->h'.get? c=some o)->(∃o,h'.get? e=some o/\o.cls=.type "StopIteration")->E (.ref e) {s with heap:=h'}):
  a5 (bc prog w) A (Builtin.«zip.__next__» ⟨[.ref z],[]⟩) Q E s:=by
 show a5 _ _ (field (.ref z) 2>>=_) _ _ _;refine aAa (aCR hz rfl (x:=.bool false) rfl ?_);show a5 _ _ (field (.ref z) 3>>=_) _ _ _;refine aAa (aCR hz rfl (x:=.ref TI) rfl ?_);refine aAa (aBN vg rfl ?_);show a5 _ _ (aBT (.ref z)>>=_) _ _ _;refine aAa (nW hz U ?_ λd f1' p f=>?_)
 .simp only[if_true];refine aAa (aDz ?_);refine aAa (aCR hz rfl (x:=.ref TO) rfl ?_);refine aAa (aCa hz (by simp) λd p f=>?_);replace p:Zs d z TI TO .ellipsis I:=p;refine aAa ?_;simp only[aEp,aEC,aDb,aEb];refine aAa (aAa<|wpAny_onRaise ?_);show a5 _ _ (aBO (.ref h)>>=_) _ _ _;refine aAa (wpAny_nextOf_list_end B (J.extBut f.extBut D.i1z) (L.extBut f.extBut D.l1z) N λt e q u=>?_);obtain⟨oe,g,l⟩:=u;have m:Zs t z TI TO .ellipsis I:=q _ _ D.i1z.symm p;have v:e≠z:=λx=>by subst x;rw[m]at g;cases g;simp at l
  exact aCa m (by simp) λaA _ O=>hE aA e (λc o r _ y _ x=>O.extBut _ _ r (q _ _ y<|f.extBut _ _ r x)) ⟨oe,O.extBut _ _ v g,l⟩
 .simp only[aAt,if_false];refine aAa ?_;show a5 _ _ (forIn (#[.ref h,.ref n]:Array ai) _ _) _ _ _;rw[<-aCr];simp only[aDb,aEb];refine aAa (aAa<|aAK ?_);show a5 _ _ (aBO (.ref h)>>=_) _ _ _;exact aAa (wpAny_nextOf_list_end B (J.extBut f.extBut D.i1z) (L.extBut f.extBut D.l1z) N λt e q u=>hE t e (λc o r _ y _ x=>q _ _ y (f.extBut _ _ r x)) u)
end
def RQ (z TI TO c d e f:bb)(Y k:Array ai)(i:Nat)(h:cv):Prop:=
 (∃g l,Zs h z TI TO g l/\yB g)/\gr h TI (.ref c) (.ref d)/\(∃a b,gr h TO a b)/\h.IsListIter c e i/\h.IsListIter d f i/\h.IsList e Y/\h.IsList f k
section
variable{s:a9}
def RQ.type (h:RQ z TI TO b c d e Y f i s.heap):s.TypeIs (.ref z) "zip":=by obtain⟨⟨g,k,a,_⟩,_⟩:=h;exact⟨_,a,rfl⟩
def RQ.keeps (x:RQ z TI TO c d f g Y l i h)(k:∀b o,b∈[z,TI,TO,c,d,f,g]->h.get? b=some o->h'.get? b=some o):RQ z TI TO c d f g Y l i h':=by obtain⟨⟨m,n,p,q⟩,r,⟨a,b,t⟩,u,v,w,y⟩:=x;exact⟨⟨m,n,k z _ (by simp) p,q⟩,k TI _ (by simp) r,⟨a,b,k TO _ (by simp) t⟩,u.at λo e=>k c o (by simp) e,v.at λo e=>k d o (by simp) e,w.at λo e=>k f o (by simp) e,y.at λo e=>k g o (by simp) e⟩
def PM {Q:Option ai->a9->Prop}(D:ZipApart z TI TO h k n p)(hl:Y.size=d.size)(st:RQ z TI TO h k n p Y d i s.heap)(C:i<Y.size)(H:∀h' T x y,Y[i]?=some x->d[i]?=some y->RQ z TI TO h k n p Y d (i+1) h'->s.heap.objs.size<=T->gr h' T x y->(∀c o,c∉[z,TO,h,k]->s.heap.get? c=some o->h'.get? c=some o)->Q (some (.ref T)) {s with heap:=h'}):
  a5 (bc prog w) A (fT (.ref z)) Q E s:=by
 have q:=st.type;obtain⟨⟨f0,f1,I,J⟩,r,⟨a,b,L⟩,N,O,t,u⟩:=st;have v:Y[i]?=some Y[i]:=aAy C;have B:d[i]?=some (d[i]'(by lia)):=aAy (by lia);unfold fT;refine aAa (aDU (aBY (name:=aCD "__next__") q aDX
  (aBh aDX q F.entry_zip_next (PV D I J r L N O t u v B λh' T l m U b' e1 e2 e3 e4 e5 e6 e7 g=>aAb ?_)<|F.args_zip_next_1 _)))
 refine H h' T _ _ v B ⟨⟨l,m,e1,e2⟩,g _ _ D.TIz D.TITO D.TIi1 D.TIi2 r,⟨U,b',e3⟩,e4,e5,t.at λo e=>g _ o D.l1z D.l1TO D.l1i1 D.l1i2 e,u.at λo e=>g _ o D.l2z D.l2TO D.l2i1 D.l2i2 e⟩ e6 e7 λc o f e=>?_;simp only[aAd,aAD,or_false,not_or]at f;exact g c o f.1 f.2.1 f.2.2.1 f.2.2.2 e
def RO {Q:Option ai->a9->Prop}(k:A.handled=none)(D:ZipApart z TI TO f g l m)(st:RQ z TI TO f g l m Y I Y.size s.heap)
  (n:∀h',(∀c o,c∉[z,TO,f,g]->s.heap.get? c=some o->h'.get? c=some o)->Q none {s with heap:=h'}):a5 (bc prog w) A (fT (.ref z)) Q E s:=by
 have h:=st.type;obtain⟨⟨J,L,p,q⟩,r,⟨a,b,t⟩,u,v,x,y⟩:=st;unfold fT;refine aAa (aDU (aBY (name:=aCD "__next__") h aDX
  (aBh aDX h F.entry_zip_next (UK (by simpa using k) D p q r t u v x y (aBC<|aAj _) λh' e B C=>?_)<|F.args_zip_next_1 _)))
 obtain⟨o,H,d⟩:=C;refine aAa (aDi (T:= "StopIteration") (b:=true) ⟨o,H,d⟩ aFZ ?_);refine aAb (n _ λc o d e=>?_);simp only[aAd,aAD,or_false,not_or]at d;exact B c o d.1 d.2.1 d.2.2.1 d.2.2.2 e
def Pairs (h0:cv)(Y a B:Array ai)(i:Nat)(h:cv)(off:List bb):Prop:=B.size=i/\∀(j:Nat) (v:ai),B[j]?=some v->∃T x y,v=.ref T/\Y[j]?=some x/\a[j]?=some y/\gr h T x y/\T∉off/\h0.get? T=none
def NA (hh:A.handled=none)(D:ZipApart z TI TO g l O Q)(hl:Y.size=U.size)(hn:Y.size<=sizeLine)(S:bb)(qf:S∉[z,TI,TO,g,l,O,Q])(res:ai)(h0:cv):
  ∀(k i:Nat) (s:a9) (B:Array ai) (c:Nat),Y.size-i=k->i<=Y.size->(∀b o,b∉[z,TO,g,l,S]->h0.get? b=some o->s.heap.get? b=some o)->RQ z TI TO g l O Q Y U i s.heap->s.heap.get? S=some {cls:=.type "list",dict:=none,data:=.seq B c,slots:=#[]}->Pairs h0 Y U B i s.heap [z,TO,g,l,S]->
  (∀h' L c',(∀b o,b∉[z,TO,g,l,S]->s.heap.get? b=some o->h'.get? b=some o)->h'.get? S=some {cls:=.type "list",dict:=none,data:=.seq L c',slots:=#[]}->Pairs h0 Y U L Y.size h' [z,TO,g,l,S]->R (.ok (.ret res)) {s with heap:=h'})->
  gn (bc prog w) A (.builtin "list.extend.loop" ⟨[.ref S,.ref z,res],[]⟩) R s:=by
 have C:S∉[z,TO,g,l]:=λh=>qf (by simp only[aAd,aAD,or_false]at h⊢;rcases h with h|h|h|h<;>simp[h]);have m:∀b,b∉[z,TO,g,l,S]->b∉[z,TO,g,l]:=λb h q=>h (by simp only[aAd,aAD,or_false]at q⊢;rcases q with q|q|q|q<;>simp[q]);intro k;induction k with
 |zero=>
  intro i s B c hk hi p N E n hR;have og:i=Y.size:=by lia
  subst og;refine aBu F.entry_extend_loop ?_;rw[aAX aDh _];show a5 _ A.in1 (fT (.ref z)>>=_) _ _ s;refine aAa (RO (by simpa using hh) D N λh' kp=>?_);refine aAb (hR h' B c (λb o d e=>kp b o (m b d) e) (kp S _ C E) ⟨n.1,λj v t=>?_⟩);obtain⟨T,x,y,e1,e2,e3,e4,u,e6⟩:=n.2 j v t;exact⟨T,x,y,e1,e2,e3,kp T _ (m T u) e4,u,e6⟩
 |succ k ih=>
  intro i s B c hk hi p N E n hR;have ao:i<Y.size:=by lia
  refine aBu F.entry_extend_loop ?_;rw[aAX aDh _];show a5 _ A.in1 (fT (.ref z)>>=_) _ _ s;refine aAa (PM D hl N ao λh' T x y hx hy la hT hP kp=>?_);have jh:=kp S _ C E;have f:∀b o,s.heap.get? b=some o->T≠b:=λb o e q=>absurd (aAu (aAg e) hT) (by rw[q];exact aBg _);obtain⟨⟨f0,f1,hz,_⟩,_,⟨a,b,uh⟩,⟨o1,g1,_⟩,⟨o2,g2,_⟩,_⟩:=id N;have H:T∉[z,TO,g,l,S]:=by simp only[aAd,aAD,or_false,not_or];exact⟨f _ _ hz,f _ _ uh,f _ _ g1,f _ _ g2,f _ _ E⟩
  show a5 _ A.in1 (i4 S (·.push (.ref T))>>=_) _ _ _;refine aAa ?_;have I:∀b o,b≠S->h'.get? b=some o->(h'.update S (aBx (·.push (.ref T)))).get? b=some o:=λb o d e=>(aAC _ _<|aCg d).trans e;have neS:∀b,b∈[z,TI,TO,g,l,O,Q]->b≠S:=λb d q=>qf (q▸d);refine aCc jh rfl (aAb ⟨aBQ aDh _,ih (i+1) _ (B.push<|.ref T) _ (by lia) ao (λb o d e=>I b o (λq=>d (by simp[q])) (kp b o (m b d)<|p b o d e)) (la.keeps λb o d e=>I b o (neS b d) e) (aAZ _ jh rfl) ⟨by rw[Array.size_push,n.1],λj v t=>?_⟩ λh'' L c' kp' xg r=>?_⟩)
   (by rw[n.1];lia) (by show(B.push<|.ref T).size<=sizeLine+1;rw[Array.size_push,n.1];lia)
  .rw[Array.getElem?_push]at t;split at t
   .rename_i q;cases t;rw[n.1]at q;subst q;refine⟨T,x,y,rfl,hx,hy,I T _ (f _ _ E) hP,H,?_⟩;cases q0:h0.get? T with
    |none=>rfl
    |some o=>exact absurd rfl (f T o<|p T o H q0)
   .obtain⟨J,x',y',e1,e2,e3,e4,u,e6⟩:=n.2 j v t;have n5:J≠S:=λq=>u (by simp[q]);exact⟨J,x',y',e1,e2,e3,I J _ n5 (kp J _ (m J u) e4),u,e6⟩
  .refine hR h'' L c' (λb o d e=>kp' b o d (I b o (λq=>d (by simp[q]))<|kp b o (m b d) e)) xg r
end
section
def dS {Q:E8}(St:cv->Prop)(Y:∀d:a9,St d.heap->d.TypeIs (.ref I) T)(J:∀h h',St h->(∀b o,b≠s.heap.objs.size->h.get? b=some o->h'.get? b=some o)->St h')(v:I≠s.heap.objs.size)
  (n1:(aCq T==aCq "list")=false) (n2:(aCq T==aCq "tuple")=false) (n3:∀{M:Model} {A:cp} {E:E8} {s:a9} {Q:Fin->a9->Prop} {a b:Sem Fin},(room=true->a5 M A a Q E s)->(room=false->a5 M A b Q E s)->a5 M A (if(room||["set", "frozenset", "dict", "dict_keys", "dict_values", "dict_items"].any (aCq T==aCq ·))=true then a else b) Q E s)
  (l:∀(d:a9) (Q:E8) (E:E8),St d.heap->Q (.ref I) d->a5 (bc prog w) A.in1.in1 (pyIter (.ref I)) Q E d)
  (hint:∀(d:a9) (Q:yG) (E:E8),St d.heap->Q room d->a5 (bc prog w) A.in1.in1 (aCI (.ref I)) Q E d) (jn:St s.heap)
  (f:∀(t:cv) (c:Nat) (R:Result->a9->Prop),(∀b o,s.heap.get? b=some o->t.get? b=some o)->St t->t.get? s.heap.objs.size=some {cls:=.type "list",dict:=none,data:=.seq #[] c,slots:=#[]}->(∀s',Q (.ref s.heap.objs.size) s'->R (.ok (.ret .none)) s')->
   gn (bc prog w) A.in1 (.builtin "list.extend.loop" ⟨[.ref s.heap.objs.size,.ref I,.none],[]⟩) R {s with heap:=t}):
  a5 (bc prog w) A (call (.type "list") [.ref I]) Q E s:=by
 refine callType_codes (Q₁:=λm L=>m=.ref s.heap.objs.size/\L={s with heap:=s.heap.push {cls:=.type "list",data:=.seq #[]}}) F.called_list (F.typeCall_list_1 _) F.entry_list_init
  (code_list_new _ ⟨rfl,rfl⟩) λm L n=>?_
 obtain⟨rfl,rfl⟩:=n;have u:(s.heap.push {cls:=.type "list",data:=.seq #[]}).get? s.heap.objs.size=some {cls:=.type "list",data:=.seq #[]}:=aAo _ rfl;have N:∀b o,s.heap.get? b=some o->b≠s.heap.objs.size:=λb o e=>aAl (aAg e);refine⟨⟨_,u,rfl⟩,F.args_list_init_2 _ _,?_⟩;show a5 _ A.in1.in1 (do let x<-aCL (.ref s.heap.objs.size);Builtin.List.listUpdate (.ref s.heap.objs.size) (λ_=>#[]);letGo x.toList.reverse;aCb (.ref s.heap.objs.size) (.ref I) .none) _ _ _;refine aAa ?_;unfold aCL;refine aAa (aBN u rfl<|aAb ?_);show a5 _ A.in1.in1 (i4 s.heap.objs.size (λ_=>#[])>>=λ_=>letGo (#[]:Array ai).toList.reverse>>=λ_=>aCb (.ref s.heap.objs.size) (.ref I) .none) _ _ _;refine aAa (aCc u rfl ?_);have k:=aAZ (aBx<|λ_=>(#[]:Array ai)) u rfl;refine aAa (aEa ?_);generalize y:(s.heap.push {cls:=.type "list",data:=.seq #[]}).update s.heap.objs.size (aBx<|λ_=>(#[]:Array ai))=g at*
 have z:∀b o,s.heap.get? b=some o->g.get? b=some o:=λb o e=>by rw[<-y];exact(aAC _ _<|aCg<|N b o e).trans (aAc _ e)
 have p:St g:=J s.heap g jn λb o _ e=>z b o e;have B:aDc (.ref s.heap.objs.size) (.ref I)=false:=by simp[aDc,aCg v]
 have C:Shared.TypeIs {s with heap:=g} (.ref I) T:=Y {s with heap:=g} p;unfold aCb;refine aAa (aDQ C ?_);simp only[B,n1,n2,Bool.or_false,aAt,if_false];refine aAa (l _ _ _ p ?_);refine aAa (aAK<|hint _ _ _ p ?_);refine n3 (λ_=>?_) (λ_=>?_)
 .show a5 _ A.in1.in1 (rule "list.extend.makes-room">>=λ_=>aFB (.ref s.heap.objs.size)>>=λ_=>again (.builtin "list.extend.loop" ⟨[.ref s.heap.objs.size,.ref I,.none],[]⟩)) _ _ _;refine aAa (aDz ?_);refine aAa ?_;show a5 _ A.in1.in1 (i4 s.heap.objs.size (·.push .none)>>=λ_=>i4 s.heap.objs.size (·.pop)) _ _ _;refine aAa (aCc k rfl ?_);have r:=aAZ (aBx (·.push Value.none)) k rfl;refine aCc (hz:=by seq_fits) r rfl ?_;have H:=aAZ (aBx (·.pop)) r rfl;have O:∀b o,b≠s.heap.objs.size->g.get? b=some o->((g.update s.heap.objs.size (aBx (·.push Value.none))).update s.heap.objs.size (aBx (·.pop))).get? b=some o:=
   λb o U e=>(aAC _ _<|aCg U).trans ((aAC _ _<|aCg U).trans e)
  exact aAb ⟨aBQ aDh _,f _ _ _ (λb o e=>O b o (N b o e) (z b o e)) (J g _ p O) H λs' q=>⟨rfl,q⟩⟩
 .exact aAb ⟨aBQ aDh _,f _ _ _ z p k λs' q=>⟨rfl,q⟩⟩
def KY:typeLookup (.type "zip") "__len__"=pure none:=by rw[aDx,aCp];kernel_rfl
def DT:typeLookup (.type "zip") "__length_hint__"=pure none:=by rw[aDx,aCp];kernel_rfl
def NF {Q:E8}(y:A.handled=none)(D:ZipApart z TI TO f g l m)(C:Y.size=n.size)(H:Y.size<=sizeLine)(st:RQ z TI TO f g l m Y n 0 s.heap)(I:∀h' B c,(∀b o,b∉[z,TO,f,g]->s.heap.get? b=some o->h'.get? b=some o)->h'.get? s.heap.objs.size=some {cls:=.type "list",dict:=none,data:=.seq B c,slots:=#[]}->Pairs s.heap Y n B Y.size h' [z,TO,f,g,s.heap.objs.size]->Q (.ref s.heap.objs.size) {s with heap:=h'}):
  a5 (bc prog w) A (call (.type "list") [.ref z]) Q E s:=by
 have lt:∀b∈[z,TI,TO,f,g,l,m],b≠s.heap.objs.size:=λb d=>by
  obtain⟨⟨J,L,r,_⟩,N,⟨a,b',O⟩,⟨o1,U,_⟩,⟨o2,g2,_⟩,⟨o3,g3,_⟩,⟨o4,g4,_⟩⟩:=st;simp only[aAd,aAD,or_false]at d;rcases d with rfl|rfl|rfl|rfl|rfl|rfl|rfl
  .exact aAl (aAg r)
  .exact aAl (aAg N)
  .exact aAl (aAg O)
  .exact aAl (aAg U)
  .exact aAl (aAg g2)
  .exact aAl (aAg g3)
  .exact aAl (aAg g4)
 refine dS (T:= "zip") (room:=true) (RQ z TI TO f g l m Y n 0) (λp h=>h.type) (λh h' x k=>x.keeps λb o d e=>k b o (lt b d) e) (lt z (by simp)) (by decide) (by decide) (λt h2=>by rw[jk (by decide)];exact t rfl)
  (λp Q E x q=>?_) (λp Q E x q=>?_) st λt c R u oB hS hR=>?_
 .obtain⟨⟨J,L,r,_⟩,_⟩:=id x;refine aDZ x.type F.slot_zip_iter (aBh F.slot_zip_iter x.type F.entry_zip_iter ?_ (F.args_zip_iter_1 _));show a5 _ _ (ret<|.ref z) _ _ p;exact aAb ⟨_,rfl, "zip",_,x.type,aDX.lookup,q⟩
 .unfold aCI;refine aAa (aBs x.type KY ?_);show a5 _ _ (specialOf (aDv z) (aCD "__length_hint__")>>=_) _ _ _;exact aAa (aBs x.type DT<|aAb q)
 .refine NA (by simpa using y) D C H s.heap.objs.size (λh=>lt _ h rfl) .none s.heap Y.size 0 _ #[] c (by lia) (aAY _) (λb o _ e=>u b o e) oB hS ⟨rfl,λj v h=>by simp at h⟩ λh' ip c' kp jh hP=>hR _ (I h' ip c' (λb o d e=>kp b o ?_ (u b o e)) jh hP);have:=aAl (aAg e);simp only[aAd,aAD,or_false,not_or]at d⊢;exact⟨d.1,d.2.1,d.2.2.1,d.2.2.2,this⟩
def JR:typeLookup (.type "list_reverseiterator") "__len__"=pure none:=by rw[aDx,aCp];kernel_rfl
def LP:typeLookup (.type "list_reverseiterator") "__length_hint__"=pure (some (.builtin "list_reverseiterator.__length_hint__")):=by rw[aDx,aCp];kernel_rfl
def LR {Q:E8}(H:A.handled=none)(I:l≠r)(J:Y.size<=sizeLine)(t:s.heap.IsRevIter r l ((Y.size:Int)-1))(u:s.heap.IsList l Y)(L:∀h' tk c,(∀b o,b≠r->s.heap.get? b=some o->h'.get? b=some o)->h'.get? s.heap.objs.size=some {cls:=.type "list",dict:=none,data:=.seq Y.reverse c,slots:=#[]}->Q (.ref s.heap.objs.size) {s with heap:=h',toks:=tk}):
  a5 (bc prog w) A (call (.type "list") [.ref r]) Q E s:=by
 have m:r≠s.heap.objs.size:=by obtain⟨o,g,_⟩:=t;exact aAl (aAg g)
 have v:l≠s.heap.objs.size:=by obtain⟨o,g,_⟩:=u;exact aAl (aAg g)
 refine dS (T:= "list_reverseiterator") (room:=false) (λh=>h.IsRevIter r l ((Y.size:Int)-1)/\h.IsList l Y) (λy h=>h.1.typeIs) (λh h' x k=>⟨x.1.at λo e=>k r o m e,x.2.at λo e=>k l o v e⟩) m (by decide) (by decide)
  (λN O=>by rw[ka (by decide)];exact O rfl) (λy Q E x q=>wpAny_pyIter_revIter x.1 q) (λy Q E x q=>?_) ⟨t,u⟩ λN c R U oB hS hR=>?_
 .have n:=x.1.typeIs;unfold aCI;refine aAa (aBs n JR ?_);show a5 _ _ (specialOf (aDv r) (aCD "__length_hint__")>>=_) _ _ _;refine aAa (aBs n LP ?_)
  (generalize hid:("list_reverseiterator.__length_hint__":String)=a;(fail_if_success (clear hid a));wp_delta;rw[show splitId a=some ("list_reverseiterator", "__length_hint__")from by subst hid;decide+kernel];subst hid)
  refine aAa (aDi (b:=true) n (by rw[aEZ];kernel_rfl) ?_);exact aAb q
 .have W:=(Walks.listRev (prog:=prog) (w:=w) (A:=A.in1.in1) (by simp[H]) r l I Y).toS;refine codeAny_extend_loopS W J s.heap.objs.size (by simp only[aAd,aAD,or_false,not_or];exact⟨aCg m,aCg v⟩) .none Y.size 0 _ #[] c (by lia) (aAY _) ⟨aAY _,by simpa using oB.1,oB.2⟩ hS (ItemsOf.nil _) λd z c' f jh p=>hR _ ?_;have ea:z=Y.reverse:=by
   apply Array.ext';apply aDy;intro i;rw[aAA,aAA];by_cases B:i<Y.size
   .have C:i<z.size:=by rw[p.1];exact B
    have:=p.2 i _ (aAy C);rw[aAy C,Array.getElem?_reverse B,this]
   .rw[aBC (by rw[p.1];lia),aBC (by simp;lia)]
  subst ea;have g0:d.gens=s.gens:=f.gens;have d0:d.drawn=s.drawn:=f.drawn;have o0:d.os=s.os:=f.os;obtain⟨h',g',d',yg,os'⟩:=d;subst g0 d0 o0;refine L h' yg c' (λb o hb e=>?_) jh;exact f.heap b o (by simp only[aAd,aAD,or_false,not_or];exact⟨aAl (aAg e),hb⟩) (U b o e)
end
end SZ
namespace DL
open PySem PySem.Spec L2
open PyProof.Rows hiding St
section
variable [Tabs]
section
def xw:D->R (List D)
 |.lst Y=>.ok Y.reverse
 |_=>.bad
def CV (ha:PB X e f)(hh:X.calm=true)(hg:Gl X "reversed":=by rfl)(hm:X.mg "reversed"=none:=by assumption)(J:Gl X "list":=by rfl)(kr:X.mg "list"=none:=by assumption)(hv:df "reversed"=some (.type "reversed"):=by decide+kernel)(L:df "list"=some (.type "list"):=by decide+kernel)(he:av [e] X.env=(false,d3 e X.env)::av [] X.env:=by rfl)(bg:(dq m (av [] X.env)).any (·.1)=false:=by rfl)(lg:av [.Call (.Name "reversed" N) [e] [] m] X.env=(false,d3 (.Call (.Name "reversed" N) [e] [] m) X.env)::av [] X.env:=by rfl)(xi:(dq k (av [] X.env)).any (·.1)=false:=by rfl)(T:dq k (av [] X.env)=[]:=by rfl):
  PF X (.Call (.Name "list" p) [.Call (.Name "reversed" N) [e] [] m] [] k) (λρ=>(f ρ).bind xw):=by
 refine sG λn s σ H Q I H9 O0 O ρ E q=>?_;dsimp only at q;refine aAL (K8 I J kr L ?_ (by decide) (by decide));refine aBe ?_ lg xi;rw[lg];show a5 _ _ (spliced ((false,d3 (.Call (.Name "reversed" N) [e] [] m) X.env)::dq k (av [] X.env))) _ _ s;refine aET (aAL (K8 I hg hm hv ?_ (by decide) (by decide)));have lb:PA X [e] _:=J0 ha aM he;refine aBe (E6 (lb m n s σ H (λl w=>∃v x,l=[v]/\f ρ=.ok (.lst x)/\Same H w/\A9 X.K w O v (.lst x)) I ⟨H9,O0,O,ρ,E,?_⟩) λC h z9=>?_) he bg
 .cases U:f ρ with
  |ex z=>rw[U]at q;exact q
  |bad=>rw[U]at q;exact q.elim
  |ok d=>
   rw[U,R.aa0]at q;cases d with
   |lst x=>exactλv w h Y=>⟨v,x,rfl,rfl,h,Y⟩
   |_=>exact aAi q
 .obtain⟨l,w,y,Y,v,x,ev,ef,sm,rb⟩:=z9;subst ev;rw[ef,R.aa0]at q;obtain⟨a,ws,rfl,hS,rr⟩:=rb.aa3;obtain⟨u,rfl,ru⟩:=vals1 Y;cases ru;obtain⟨g,rv,⟨oL,nL,gL,cL,dL,sL⟩,zL⟩:=y.list hS;have hl:h.heap.IsList a g.toArray:=⟨oL,gL,cL,nL,sL⟩;refine call_reversed_list hl ?_;rw[T];refine aFg ?_;have ge:a≠h.heap.objs.size:=aAl (aAg gL);have I2:=y.kept (h':=h.heap.push (revObj a<|(g.toArray.size:Int)-1)) (t':=h.toks) λb u e=>aAc _ e;refine SZ.LR (s:={h with heap:=h.heap.push (revObj a<|(g.toArray.size:Int)-1)}) (y.ok.hd hh) ge (by rw[aAm,<-rv.length];exact zL) ⟨_,aAo _ rfl,rfl,rfl⟩ (hl.push _) λh' tk c kp gl=>?_;have kk:∀b u,h.heap.get? b=some u->h'.get? b=some u:=λb u e=>kp b u (aAl<|aAg e) (aAc _ e);have A:h.heap.objs.size<=(h.heap.push<|revObj a<|(g.toArray.size:Int)-1).objs.size:=by rw[aBy];lia
  have B:l6 ws.reverse g.reverse:=by
   have:∀{l:List V} {C:List ai},l6 l C->l6 l.reverse C.reverse:=λ{l C} r=>by
    induction r with
    |nil=>exact .nil
    |cons r t ih=>rw[aAF,aAF];exact ih.append (.cons r .nil)
   exact this rv
  have I3:=y.laid (a:=(h.heap.push<|revObj a<|(g.toArray.size:Int)-1).objs.size) (o:=.lst ws.reverse) (h':=h') (t':=tk) kk A ⟨by rw[aBS];exact zL,g.reverse,c,B,by rw[gl];simp⟩;exact⟨.ref _,_,I3,rfl,q ws.reverse w _ sm (y.hok.fresh A) rr.reverse⟩
def _root_.L2.Inv.ae1 (I:Inv X d σ H s)(k:∀b u,s.heap.get? b=some u->h'.get? b=some u)(a:Same H Hn)(f:∀b u,H b=none->Hn b=some u->s.heap.get? b=none/\ObjOk X.prog X.w Hn h' b u):
  Inv X d σ Hn {s with heap:=h',toks:=t'}:=by
 refine I.un ⟨λb o e _ _ _=>k b o e,λb o e _ _ _=>⟨o.slots,k b o e⟩,λb o e n _=>?_,λb o e _=>⟨o,k b o e⟩,λb Y e=>a _ _ e,λb o u e=>a _ _ e,λb h e=>a _ _ e⟩ λb u e=>?_
 .cases q:Hn b with
  |none=>rfl
  |some u=>rw[(f b u n q).1]at e;cases e
 .cases q:H b with
  |none=>exact(f b u q e).2
  |some g=>have:=a b g q;rw[e]at this;cases this;exact(I.hok b u q).ab7 (λc v _ z=>k c v z) (λc z=>a _ _ z) λc u _ z=>a _ _ z
def lS (Y c:List D):List D:=List.zipWith (λa b=>D.tup [a,b]) Y c
def TU:List D->R (List D)
 |[.lst Y,.lst a]=>if Y.length=a.length then .ok (lS Y a)else .bad
 |_=>.bad
def KN {K:kc}{h:Hp}{O:bb->Prop}{h0 h':cv}{l:bb}(hf:∀b,h0.get? b=none->h b=none):∀{Y f:List D} {m p B:List ai},u9 K h O m Y->u9 K h O p f->Y.length=f.length->
  (∀(j:Nat) (v:ai),B[j]?=some v->∃T x y,v=.ref T/\m[j]?=some x/\p[j]?=some y/\gr h' T x y/\T≠l/\h0.get? T=none)->B.length=Y.length->
  ∃(vs:List V) (Hn:Hp),l6 vs B/\Same h Hn/\(∀b u,h b=none->Hn b=some u->h0.get? b=none/\b≠l/\∃ws its,u=.tup ws/\ws.length<=2/\l6 ws its/\IsTup h' b its.toArray)/\Reps K Hn O vs (lS Y f):=by
 intro Y f m p B;induction B generalizing Y f m p with
 |nil=>
  intro s t z _ A;cases Y with
  |nil=>cases f with
   |nil=>exact⟨[],h,.nil,Same.refl _,λb u n q=>(by rw[n]at q;cases q),.nil⟩
   |cons _ _=>cases z
  |cons _ _=>cases A
 |cons v B ih=>
  intro s t z hP A;cases s with
  |nil=>cases A
  |@cons u d m Y rx s=>
   cases t with
   |nil=>cases z
   |@cons J d' p f ry t=>
    obtain⟨T,x,y,rfl,ex,ey,hp,nl,r⟩:=hP 0 v rfl;cases ex;cases ey;obtain⟨vs,Hn,r1,k,L,rr⟩:=ih s t (by simpa using z) (λj v hj=>by obtain⟨T,x,y,e1,N,e3,e4⟩:=hP (j+1) v (by simpa using hj);exact⟨T,x,y,e1,by simpa using N,by simpa using e3,e4⟩) (by simpa using A)
    obtain⟨C,Q,c⟩:=rx;obtain⟨E,U,e⟩:=ry;have v2:l6 [C,E] [u,J]:=.cons Q (.cons U .nil);cases q:Hn T with
    |none=>
     have H:Same Hn (upd Hn T<|.tup [C,E]):=j6 q _;refine⟨.ref T::vs,upd Hn T (.tup [C,E]),.cons rfl r1,k.trans H,λb w n I=>?_,.cons (.tup (X1.of j3) (.cons ((c.same k).same H) (.cons ((e.same k).same H) .nil))) (rr.same H)⟩;by_cases hb:b=T
     .subst hb;rw[j3]at I;cases I;exact⟨r,nl,_,_,rfl,by simp,v2,⟨_,hp,rfl,0,rfl⟩⟩
     .rw[k8 hb]at I;exact L b w n I
    |some w=>
     obtain⟨_,_,ws,its,rfl,_,vw,⟨o,g,_,n,dd⟩⟩:=L T w (hf T r) q;have hp':h'.get? T=some {cls:=.type "tuple",data:=.seq #[u,J]}:=hp;rw[hp']at g;cases g;have N:its=[u,J]:=by have:=kb (λd=>match d with|Data.seq a _=>a.toList|_=>[]) dd;simpa using this.symm
     subst N;have:ws=[C,E]:=vw.inj v2;subst this;exact⟨.ref T::vs,Hn,.cons rfl r1,k,L,.cons (.tup (X1.of q) (.cons (c.same k) (.cons (e.same k) .nil))) rr⟩
def CP {e1 e2:cy}{p p2 L:Pos}{N U:Ev->R D}(ha1:PB X e1 N)(ha2:PB X e2 U)(hh:X.calm=true)(hg:Gl X "zip":=by rfl)(hm:X.mg "zip"=none:=by assumption)(hg2:Gl X "list":=by rfl)(kr:X.mg "list"=none:=by assumption)
  (hv:df "zip"=some (.type "zip"):=by decide+kernel) (hv2:df "list"=some (.type "list"):=by decide+kernel)
  (he1:av [e2] X.env=(false,d3 e2 X.env)::av [] X.env:=by rfl) (he:av [e1,e2] X.env=(false,d3 e1 X.env)::av [e2] X.env:=by rfl) (bg:(dq L (av [e2] X.env)).any (·.1)=false:=by rfl)
  (lg:av [.Call (.Name "zip" p2) [e1,e2] [] L] X.env=(false,d3 (.Call (.Name "zip" p2) [e1,e2] [] L) X.env)::av [] X.env:=by rfl) (xi:(dq t (av [] X.env)).any (·.1)=false:=by rfl) (hnl:dq t (av [] X.env)=[]:=by rfl):
  PF X (.Call (.Name "list" p) [.Call (.Name "zip" p2) [e1,e2] [] L] [] t) (λρ=>(q8 N (q8 U R5) ρ).bind TU):=by
 refine sG λpins s σ H Q I H9 O0 O ρ E q=>?_;dsimp only at q;refine aAL (K8 I hg2 kr hv2 ?_ (by decide) (by decide));refine aBe ?_ lg xi;rw[lg];show a5 _ _ (spliced ((false,d3 (.Call (.Name "zip" p2) [e1,e2] [] L) X.env)::dq t (av [] X.env))) _ _ s;refine aET (aAL (K8 I hg hm hv ?_ (by decide) (by decide)));have lb:fj X [e1,e2] (q8 N<|q8 U R5):=o9 ha1 (o9 ha2 x5 he1) he;refine aBe (E6 (lb L pins s σ H (λm r=>∃v1 v2 Y f,m=[v1,v2]/\q8 N (q8 U R5) ρ=.ok [.lst Y,.lst f]/\Y.length=f.length/\Same H r/\A9 X.K r O v1 (.lst Y)/\A9 X.K r O v2 (.lst f)) I ⟨H9,O0,O,ρ,E,?_⟩) λus d z9=>?_) he bg
 .cases e1:q8 N (q8 U R5) ρ with
  |ex z=>rw[e1]at q;exact q
  |bad=>rw[e1]at q;exact q.elim
  |ok ds=>
   rw[e1,R.aa0]at q;match ds,q with
   |[.lst Y,.lst f],q=>
    simp only[TU]at q;by_cases hc:Y.length=f.length
    .intro m r d w;cases w with
     |cons ra w=>cases w with
      |cons rb w=>cases w with
       |nil=>exact⟨_,_,Y,f,rfl,rfl,hc,d,ra,rb⟩
    .rw[ka hc]at q;exact aAi q
 .obtain⟨m,r,I1,w,v1,v2,Y,f,ev,ef,A,sm,rb1,rb2⟩:=z9;subst ev;rw[ef,R.aa0]at q;simp only[TU]at q;rw[jk A]at q;obtain⟨a,wx,rfl,hSx,rx⟩:=rb1.aa3;obtain⟨b,wy,rfl,hSy,ry⟩:=rb2.aa3;obtain⟨u1,u2,rfl,ru1,ru2⟩:=vals2 w;cases ru1;cases ru2;obtain⟨C,g,⟨oX,nX,gX,cX,dX,sX⟩,zX⟩:=I1.list hSx;obtain⟨J,rvy,⟨oY,nY,gY,cY,dY,sY⟩,zY⟩:=I1.list hSy;have hlx:d.heap.IsList a C.toArray:=⟨oX,gX,cX,nX,sX⟩;have hly:d.heap.IsList b J.toArray:=⟨oY,gY,cY,nY,sY⟩;refine call_zip_2 hlx hly λh z1 z2 z3 z4 z5 zsz k1=>?_;rw[hnl];refine aFg ?_;have lx:C.length=Y.length:=by rw[<-g.length,rx.length]
  have ly:J.length=f.length:=by rw[<-rvy.length,ry.length]
  have I2:=I1.kept (h':=h) (t':=d.toks) k1;have D:=zipApart_new (n:=d.heap.objs.size) (aAg gX) (aAg gY);refine SZ.NF (s:={d with heap:=h}) (I1.ok.hd hh) D (by rw[aAm,aAm,lx,ly,A]) (by rw[aAm,<-g.length];exact zX) ⟨⟨_,_,z1,.inl rfl⟩,z2,⟨_,_,z3⟩,z4,z5,hlx.at λo e=>k1 _ o e,hly.at λo e=>k1 _ o e⟩ λh' B c kp gl hP=>?_;have k12:∀b u,d.heap.get? b=some u->h'.get? b=some u:=λb u e=>kp b u (by have k:=aAg e;simp only[aAd,aAD,or_false,not_or];exact⟨aAl (aAu k<|aFx _ _),aAl (aAu k<|aFx _ _),aAl k,aAl (aAu k<|aFx _ _)⟩) (k1 b u e)
  have sx:u9 X.K r O C Y:=u9.of g rx;have sy:u9 X.K r O J f:=u9.of rvy ry;obtain⟨m,Hn,rva,smn,nv,rr⟩:=KN (h0:=h) (h':=h') (l:=h.objs.size) (λb k=>by
   cases q:r b with
   |none=>rfl
   |some u=>exact absurd k ((I2.hok b u q).live)) (B:=B.toList) sx sy A (λj v hj=>by
   obtain⟨T,x,y,e1,e2,e3,e4,e5,e6⟩:=hP.2 j v (by rw[<-aAA];exact hj);exact⟨T,x,y,e1,by simpa using e2,by simpa using e3,e4,λz=>e5 (by simp[z]),e6⟩) (by rw[aBd,hP.1,aAm,lx])
  have hls:Hn h.objs.size=none:=by
   cases q:Hn h.objs.size with
   |none=>rfl
   |some u=>have:=(nv _ u (I2.hok.fresh<|aAj _) q).2.1;exact absurd rfl this
  have hlen:m.length<=sizeLine:=by rw[rva.length,aBd,hP.1,aAm,<-g.length];exact zX
  have s3:Same Hn (upd Hn h.objs.size<|.lst m):=j6 hls _;have I3:=I1.ae1 (Hn:=upd Hn h.objs.size (.lst m)) (h':=h') (t':=d.toks) k12 (smn.trans s3) (λb u n qb=>by
   by_cases k:b=h.objs.size
   .subst k;rw[j3]at qb;cases qb;refine⟨aEu (by rw[zsz];lia),hlen,B.toList,c,rva,by rw[gl]⟩
   .rw[k8 k]at qb;obtain⟨h0b,_,ws,its,rfl,l2,vw,tt⟩:=nv b u n qb;refine⟨?_,aAr l2 (by decide),its,vw,tt⟩;cases z:d.heap.get? b with
    |none=>rfl
    |some o=>rw[k1 b o z]at h0b;cases h0b)
  exact⟨.ref _,_,I3,rfl,q m Hn _ (sm.trans smn) hls rr⟩
end
mutual
def mH:D->Nat
 |.tup Y=>K1 Y+1
 |_=>1
def K1:List D->Nat
 |[]=>0
 |x::Y=>mH x+K1 Y
end
theorem eG:∀Y a:List D,K1 (Y++a)=K1 Y+K1 a
 |[],a=>by simp[K1]
 |x::Y,a=>by rw[aBl,K1,K1,eG Y a];lia
section
variable{prog:bt} {w:cq}
def PHe (prog:bt)(w:cq)(h:cv)(v:ai)(d:D):Prop:=∀(A:cp) (E:E8) (s:a9) (Q:Int->a9->Prop),s.heap=h->A.units+8*B5 d<dA->Q (o6 d) {s with toks:=s.toks+mH d}->a5 (bc prog w) A (pyHash v) Q E s
mutual
theorem PC:∀{v:ai} {d:D},HV h v d->PHe prog w h v d
 |_,_,.int i t=>λA E s Q z B q=>(intKind prog w).pyHash (k:=i) (intKind_is _ _ _ _) q
 |_,_,.tup (a:=a) (items:=items) (ds:=ds) p r=>λA E s Q z B q=>by
  have fs:=HH r;subst z;obtain⟨o,C,J,n,L⟩:=p;have g:s.TypeIs (.ref a) "tuple":=⟨o,C,J⟩;have N:A.units<dA:=by lia
  rw[B5]at B;unfold pyHash;first|unfold pyHashByItsType|skip
  first|refine aAa (wpAny_cRoomFor_or (.inr N) ?_)|skip
  refine aAa (aBs g PySem.F.slot_tuple_hash.lookup ?_);show a5 _ _ (if(some (aGk "tuple.__hash__")==some Value.none)=true then _ else _) Q E s;rw[ka (by rw[aFv];exact aAP)];refine aAa (aBs g PySem.F.slot_tuple_hash.lookup ?_);show a5 _ _ (callSpecialIfBoundUnlessNone? (.ref a) "__hash__" _>>=_) Q E s;refine aAa (aDq g PySem.F.slot_tuple_hash<|aBh PySem.F.slot_tuple_hash g PySem.F.entry_tuple_hash ?_ (PySem.F.args_tuple_hash_1 _));show a5 _ _ (aDD (.ref a)>>=_) _ _ s;refine aAa (wpAny_tupleItemsOf C L ?_);refine aAa ?_;rw[<-aCr];refine aCu _
   (λrest (b:Array Int) u=>∃done left,ds=done++left/\Paired (PHe prog w s.heap) rest left/\b.toList=done.map o6/\u={s with toks:=s.toks+K1 done})
   _ ?_ ?_ _ _ ⟨[],ds,rfl,fs,rfl,rfl⟩
  .rintro x rest b u ⟨done,left,e,y,l,rfl⟩;cases y with
   |@cons _ d _ c O H=>
    refine aAa (O _ _ _ _ rfl ?_ ?_)
    .have:B5 d<=z6 ds:=by rw[e];exact oE (j:=done.length) (by simp)
     rw[p8];lia
    have I:s.toks+K1 done+mH d=s.toks+K1 (done++[d]):=by rw[eG];simp[K1];lia
    first
     |exact aAb ⟨done++[d],c,by simp[e],H,by simp[l],by rw[<-I]⟩
     |exact aAa (aAb (aAb ⟨done++[d],c,by simp[e],H,by simp[l],by rw[<-I]⟩))
  .rintro b u ⟨done,left,e,y,l,rfl⟩;cases y;rw[aCn]at e;subst e;show a5 _ _ (retInt<|aAJ b.toList) _ _ _;rw[l];refine wpAny_ret_mkInt ?_;show a5 _ _ (if(decide (-(2:Int)^63<=aAJ (ds.map o6))&&decide (aAJ (ds.map o6)<2^63))=true then _ else _) Q E _;have f:=q;rw[o6,iX,mH]at f;unfold reduceHash at f;by_cases m:(decide (-(2:Int)^63<=aAJ (ds.map o6))&&decide (aAJ (ds.map o6)<2^63))=true
   .rw[jk m];rw[jk m]at f;exact aAb f
   .rw[ka m];rw[ka m]at f;exact aAa (aDz<|aAb f)
theorem HH:∀{v:List ai} {d:List D},HVs h v d->Paired (PHe prog w h) v d
 |_,_,.nil=>.nil
 |_,_,.cons r t=>.cons (PC r) (HH t)
end
end
theorem oF:∀{n:Nat} {d:D},S5 n d=true->rF d=true/\B5 d<=n
 |n,.int i,_=>⟨rfl,by simp[B5]⟩
 |0,.tup Y,h=>by simp[S5]at h
 |n+1,.tup Y,h=>by
  have f:Y.all (S5 n)=true:=by simpa[S5]using h
  have c:∀a:List D,a.all (S5 n)=true->gZ a=true/\z6 a<=n:=λa=>by
   induction a with
   |nil=>intro _;exact⟨rfl,aAY _⟩
   |cons y a g=>intro e;simp only[aGj,aAM]at e;obtain⟨k,o⟩:=oF e.1;obtain⟨l,p⟩:=g e.2;exact⟨by show(rF y&&gZ a)=true;rw[k,l];rfl,by show max (B5 y) (z6 a)<=n;lia⟩
  obtain⟨m,q⟩:=c Y f;exact⟨m,by show z6 Y+1<=n+1;lia⟩
 |n,.non,h=>by cases n<;>simp[S5]at h
 |n,.dct,h=>by cases n<;>simp[S5]at h
 |n,.bl b,h=>by cases n<;>simp[S5]at h
 |n,.str x,h=>by cases n<;>simp[S5]at h
 |n,.lst Y,h=>by cases n<;>simp[S5]at h
mutual
theorem HV.ac0 (k:∀b o,h.get? b=some o->(∃its n,o.data=.seq its n)->h'.get? b=some o):∀{v:ai} {d:D},HV h v d->HV h' v d
 |_,_,.int i t=>.int i t
 |_,_,.tup p r=>.tup (by obtain⟨o,e,c,n,d⟩:=p;exact⟨o,k _ _ e ⟨_,n,d⟩,c,n,d⟩) (HVs.ac0 k r)
theorem HVs.ac0 (k:∀b o,h.get? b=some o->(∃its n,o.data=.seq its n)->h'.get? b=some o):∀{v:List ai} {d:List D},HVs h v d->HVs h' v d
 |_,_,.nil=>.nil
 |_,_,.cons r t=>.cons (HV.ac0 k r) (HVs.ac0 k t)
end
instance decD:DecidableEq D:=λa b=>aDW _
def uV (prog:bt) (w:cq):HeapKind prog w D where
 is:=λh d a=>HV h (.ref a) d/\B5 d<8
 hash:=o6
 draws:=mH
 room:=λA=>A.units+128<dA
 inj:=λx y=>HV.inj x.1 y.1
 keeps:=λ{h v k a d o B C} x l m p=>⟨x.1.ac0<|by rintro b H e ⟨r,n,q⟩;exact(p.2 b (λz=>by subst z;rw[l]at e;cases e;rw[m]at q;cases q)).trans e,x.2⟩
 pyHash:=λ{A E s k a Q} t c q=>PC c.1 A E s Q rfl (by have:=c.2;lia) q
 eqBool:=λ{A E s x y a b Q} t f g q=>by
  have u:=GX (A:=A) f.1 g.1 (by have:=f.2;lia);refine u prog w E Q ?_;have e:u7 x y=decide (x=y):=by
   by_cases h:x=y
   .subst h;rw[M7,decide_eq_true rfl]
   .rw[decide_eq_false h];cases z:u7 x y with
    |false=>rfl
    |true=>exact absurd (gB f.1.ok g.1.ok z) h
  rw[e];exact q
 quiet:=λ{A E s k a Q} c q=>jP 8 c.1 c.2 _ A E s Q rfl q
open Classical in
def Y8 (U:List (D×D)) (k v:D):List (D×D):=if k∈U.map (·.1)then U.map (λp=>if p.1=k then(p.1,v)else p)else U++[(k,v)]
def tW (U:List (D×D))(k v:D)(h:(U.map (·.1)).Nodup):((Y8 U k v).map (·.1)).Nodup:=by
 unfold Y8;split
 .rw[aBn];have:((λx=>x.1)∘λp:D×D=>if p.1=k then(p.1,v)else p)=λp=>p.1:=by funext p;simp only[Function.comp];split<;>rfl
  rw[this];exact h
 .rename_i n;rw[aCd,aCW];refine⟨h,by simp,λa d b c=>?_⟩;simp at c;subst c;exactλe=>n (e▸d)
section
theorem GM (I:Inv X c σ H s):∀{es:List ik} {U:List (D×D)},nU X.K H O es U->∃Y:List (D×bb×ai),es=Y.map (entryOfKey (uV X.prog X.w))/\Y.map (·.1)=U.map (·.1)/\(∀x∈Y,(uV X.prog X.w).is s.heap x.1 x.2.1)/\
  Paired (λ(x:D×bb×ai) (p:D×D)=>x.1=p.1/\Rep X.K H O (.ref x.2.1) p.1/\(∃v,RelV v x.2.2/\Rep X.K H O v p.2)/\S5 7 p.1=true) Y U
 |_,_,.nil=>⟨[],rfl,rfl,λx h=>(by cases h),.nil⟩
 |e::_,p::_,.cons ⟨⟨a,d,f⟩,l,g,k⟩ t=>by
  obtain⟨Y,m,n,o,q⟩:=GM I t;obtain⟨ok,u⟩:=oF k;refine⟨(p.1,a,e.val)::Y,?_,by rw[aAv,aAv,n],λx b=>?_,.cons ⟨rfl,f,l,k⟩ q⟩
  .rw[aAv,<-m];congr 1;obtain⟨r,y,z⟩:=e;simp only at d g;subst d g;rfl
  .rcases aAd.mp b with rfl|b
   .exact⟨S6 I f ok rfl,by show B5 p.1<8;lia⟩
   .exact o x b
theorem HW {P:bt}{w:cq}{K:kc}{H:Hp}{O:bb->Prop}:∀{Y:List (D×bb×ai)} {U:List (D×D)},Paired (λ(x:D×bb×ai) (p:D×D)=>x.1=p.1/\Rep K H O (.ref x.2.1) p.1/\(∃v,RelV v x.2.2/\Rep K H O v p.2)/\S5 7 p.1=true) Y U->nU K H O (Y.map (entryOfKey (uV P w))) U
 |_,_,.nil=>.nil
 |_,_,.cons ⟨e,a,b,k⟩ t=>.cons ⟨⟨_,rfl,a⟩,b,by rw[<-e];rfl,k⟩ (HW t)
def bR {Y:List (D×bb×ai)}{k:D}:(atKey Y k).isSome=true↔k∈Y.map (·.1):=by unfold atKey;rw[Option.isSome_map,List.find?_isSome];simp only[decide_eq_true_eq,aAp]
def FM (I:Inv X b σ H s)(h:H a=some (.ext λh=>h.get? a=some o))(d:QW a o es)(r:nU X.K H O es U)(e:(U.map (·.1)).Nodup):
  ∃Y,s.heap.DictOfH (uV X.prog X.w) a Y/\Y.map (·.1)=U.map (·.1)/\Paired (λ(x:D×bb×ai) (p:D×D)=>x.1=p.1/\Rep X.K H O (.ref x.2.1) p.1/\(∃v,RelV v x.2.2/\Rep X.K H O v p.2)/\S5 7 p.1=true) Y U:=by
 obtain⟨Y,f,c,k,l⟩:=GM I r;obtain⟨_,m,n,q,t,u⟩:=d;have g:s.heap.get? a=some o:=(I.hok a _ h).1;exact⟨Y,⟨o,n,q,g,m,t,by rw[u,f],k,by rw[c];exact e⟩,c,l⟩
def KJ {K:kc}{Y:List (D×bb×ai)}{U:List (D×D)}{k d:D}{b:bb}{u:ai}{v:V}(f:Paired (λ(x:D×bb×ai) (p:D×D)=>x.1=p.1/\Rep K H O (.ref x.2.1) p.1/\(∃v,RelV v x.2.2/\Rep K H O v p.2)/\S5 7 p.1=true) Y U)(a:Y.map (·.1)=U.map (·.1))
  (m:Rep K H O (.ref b) k) (kk:S5 7 k=true) (g:RelV v u) (l:Rep K H O v d):
  Paired (λ(x:D×bb×ai) (p:D×D)=>x.1=p.1/\Rep K H O (.ref x.2.1) p.1/\(∃v,RelV v x.2.2/\Rep K H O v p.2)/\S5 7 p.1=true) (storedH Y k b u) (Y8 U k d):=by
 unfold storedH Y8;by_cases h:k∈U.map (·.1)
 .rw[jk h,jk (bR.mpr (by rw[a];exact h))];clear a h;induction f with
  |nil=>exact .nil
  |@cons x p Y U r t c=>
   rw[aAv,aAv];refine .cons ?_ c;unfold putAt;by_cases e:p.1=k
   .rw[jk (r.1.trans e),jk e];exact⟨r.1,r.2.1,⟨v,g,l⟩,r.2.2.2⟩
   .rw[ka (λz=>e (r.1.symm.trans z)),ka e];exact r
 .rw[ka h,ka (λz=>h (by rw[<-a];exact bR.mp z))];clear a h;induction f with
  |nil=>exact .cons ⟨rfl,m,⟨v,g,l⟩,kk⟩ .nil
  |cons r t c=>exact .cons r c
end
section
variable{K:Type} [DecidableEq K] {knd:HeapKind prog w K}
def sK {Q:yG}(f:knd.room A.in1)(b:knd.is s.heap k a)(g:(d==hV)=false)(c:s.heap.DictOfH knd d Y)
  (h:Q (atKey Y k).isSome {s with toks:=s.toks+knd.draws k}):a5 (bc prog w) A (contains (.ref d) (.ref a)) Q E s:=by
 unfold contains;try with_reducible refine aAK ?_
 refine aAa (aBs c.typeIs aEW.lookup ?_);show a5 _ _ (if(some (aGk "dict.__contains__")==some Value.none)=true then _ else _) _ E s;rw[ka (by rw[aFv];exact aAP)];refine aAa (wpAny_callSpecialUnlessNone?_slot (name:=aCD "__contains__") c.typeIs aEW
  (aBh aEW c.typeIs entry_dict_contains ?_ (args_dict_contains _ _)))
 show a5 _ _ (dictGet d (.ref a)>>=_) _ _ s;refine aAa (wpAny_dictGet_heap f b c ?_);cases e:atKey Y k with
 |some p=>rw[e]at h;show a5 _ _ (ret<|.bool true) _ _ _;exact aAb ⟨_,rfl,aBG h⟩
 |none=>rw[e]at h;show a5 _ _ (Builtin.Dict.pendingKey? d (.ref a)>>=_) _ _ _;exact aAa (wpAny_pendingKey_other g<|aAb ⟨_,rfl,aBG h⟩)
end
def KO:D->Bool
 |.tup _=>true
 |_=>false
open Classical in
def pJ (i:Nat) (ρ:Ev) (k:D):R Bool:=match ρ[i]? with
 |some (.d U)=>if S5 7 k=true/\KO k=true then .ok (!decide (k∈U.map (·.1)))else .bad
 |_=>.bad
section
def pK {K:kc}{H:Hp}{O:bb->Prop}{v:V}{k:D}(r:Rep K H O v k)(h:KO k=true):∃a,v=.ref a:=by
 cases r with
 |tup h r=>exact⟨_,rfl⟩
 |_=>cases h
def KA (i:Nat){x:Str}{p:Pos}{f:Ev->R D}(ha:PD X e f)(hu:X.A.units+130<dA)(hN:X.N[i]?=some x:=by rfl)(hv:BC X.env.scope x:=by first|exact aCw rfl|exact aBE (aCw rfl)|exact aBE (aBE rfl))
  (hd:(x==kd)=false:=by decide) (fb:(x==ku)=false:=by decide) (hm:i5 .NotIn (.Name x p)=false:=by first|rfl|with_unfolding_all rfl):
  AH X (.Compare e [.NotIn] [.Name x p] pos) (λρ=>(f ρ).bind (pJ i ρ)):=by
 refine sG λpins s σ H Q I H9 O0 O ρ E q=>?_;dsimp only at q;refine wpAny_isTrue_Compare1 (MR (ta:=tD X f) (tb:=mz i) ha (N0 hN hv hd fb) (R:=λy x g=>∃a b o m U k,x=.ref a/\y=.ref b/\g a=some (.ext λh=>h.get? a=some o)/\QW a o m/\nU X.K g O m U/\(U.map (·.1)).Nodup/\Rep X.K g O (.ref b) k/\S5 7 k=true/\Q (!(open Classical in decide (k∈U.map (·.1)))) g) I ⟨H9,O0,O,ρ,E,?_⟩ λu w s2 y x g B ry rx h=>?_) hm
 .cases C:f ρ with
  |ex z=>rw[C]at q;exact q
  |bad=>rw[C]at q;exact q.elim
  |ok k=>
   rw[C,R.aa0]at q;intro v H1 sm r;unfold pJ at q;cases J:ρ[i]? with
   |none=>rw[J]at q;exact aAi q
   |some sl=>
    rw[J]at q;cases sl with
    |d U=>
     dsimp only at q;by_cases l:S5 7 k=true/\KO k=true
     .rw[jk l]at q;obtain⟨a,o,m,h1,_,_,L,n,T,h7⟩:=(E.grow sm).slot i _ J;obtain⟨b,rfl⟩:=pK r l.2;exact⟨_,h1,a,b,o,m,U,k,rfl,rfl,L,n,T,h7,r,l.1,q H1 sm⟩
     .rw[ka l]at q;exact aAi q
    |_=>exact aAi q
 .obtain⟨a,b,o,m,U,k,rfl,rfl,L,n,T,h7,rk,l,qq⟩:=h;cases ry;cases rx;obtain⟨Y,hD,tf,hp⟩:=FM B L n T h7;obtain⟨ok,dp⟩:=oF l;show a5 _ _ (contains (.ref a) (.ref b)>>=λc=>pure (aDA (!c))) _ _ s2;refine aAa (sK (knd:=uV X.prog X.w) (by show X.A.in1.units+128<dA;rw[p8];lia) ⟨S6 B rk ok rfl,by lia⟩ n.1 hD (aAb ?_));refine aBG ⟨g,B.tok _,?_⟩;have e3:(atKey Y k).isSome=(open Classical in decide (k∈U.map (·.1))):=by
   by_cases t:k∈U.map (·.1)
   .rw[decide_eq_true t];exact bR.mpr (by rw[tf];exact t)
   .rw[decide_eq_false t];cases z:(atKey Y k).isSome with
    |false=>rfl
    |true=>exact absurd (by rw[<-tf];exact bR.mp z) t
  rw[e3];exact qq
def AY (i:Nat)(y:X.N.Nodup)(A:X.N[i]?=some x:=by rfl)(B:Loc X.env.scope x:=by first|exact aCw rfl|exact aBE rfl)(C:eZ (.Dict [] [] c) (some (.Name x f)) g.line X.env=pure false:=by rfl)(J:X.fn x=true\/X.env.scope.names.lookup x=some .local:=by first|exact .inl rfl|exact .inr rfl|assumption):nM X (.Assign [.Name x f] (.Dict [] [] c) g) (λρ=>.ok (.nx (ρ.set i (.d [])))):=by
 rintro U Y t s σ H D I ⟨O,ρ,E,fk,q⟩;refine aFf (wpAny_Dict_empty ?_) C;have v:(s.heap.push {cls:=.type "dict",data:=.dict #[]}).get? s.heap.objs.size=some {cls:=.type "dict",data:=.dict #[]}:=aAo _ rfl;have l:=I.hok.fresh (aAj s.heap.objs.size);have m:=I.laid (a:=s.heap.objs.size) (o:=.ext λh=>h.get? s.heap.objs.size=some {cls:=.type "dict",data:=.dict #[]}) (h':=s.heap.push {cls:=.type "dict",data:=.dict #[]}) (t':=s.toks) (λ_ _ q=>aAc _ q) (aAj _)
  ⟨v,⟨_,v⟩,λh1 h2 e k=>k _ e⟩
 have L:=MA m (j3 (H:=H) (a:=s.heap.objs.size));have p:hV<s.heap.objs.size:=aGw (by decide) (I.mod.glob.keeps I.bk).lt;refine R4 m y A B (show RelV (.ref s.heap.objs.size) _ from rfl) (λs3 Q=>⟨_,_,Q,?_⟩) J;have w:=E.ad9 (u:=.ext λh=>h.get? s.heap.objs.size=some {cls:=.type "dict",data:=.dict #[]}) (sl:=.d []) i l L trivial λT=>⟨s.heap.objs.size,_,[],rfl,.inr rfl,T,j3,⟨by simp[aCC p],⟨rfl,rfl,rfl⟩,#[],0,rfl,rfl⟩,.nil,aDk⟩;exact q _ _ _ w (sR m _ w.trk) λb o r n=>⟨by rw[k8 (t9 r l)];exact r,λz=>z.elim n (t9 r l)⟩
def a2u (X:Cx):UV:=λx y v H Q=>∃O a b o e U k d,x=.ref a/\y=.ref b/\H a=some (.ext λh=>h.get? a=some o)/\QW a o e/\nU X.K H O e U/\(U.map (·.1)).Nodup/\e.length<=sizeLine/\Rep X.K H O (.ref b) k/\S5 7 k=true/\Rep X.K H O v d/\
 ∀f c,QW a f c->nU X.K H O c (Y8 U k d)->Q (upd H a<|.ext λh=>h.get? a=some f)
def VG (hu:X.A.units+130<dA):bj X (a2u X):=by
 intro E s σ H x y v ov iv u Q I rx ry ru z;obtain⟨O,a,b,o,es,U,k,d,J,ey,m,n,h6,h7,hz,L,N,rv,q⟩:=z;subst J ey;cases rx;cases ry;obtain⟨Y,T,tf,hp⟩:=FM I m n h6 h7;obtain⟨ok,dp⟩:=oF N;have c:Y.length<=sizeLine:=by
  obtain⟨_,J,ea,ep,hd,he⟩:=n;obtain⟨o2,qe,ep2,g2,_,f,lg,_⟩:=T;have g:s.heap.get? a=some o:=(I.hok a _ m).1;rw[g]at g2;cases g2;rw[hd]at f;cases f;have:=kb aGb (he.symm.trans lg);rw[aAf]at this
  lia
 refine wpAny_setItem_heap (knd:=uV X.prog X.w) (by show X.A.in1.units+128<dA;rw[p8];lia) ⟨S6 I L ok rfl,by lia⟩ T (λh' p hs=>?_) c;obtain⟨l,r,t,B,C,qg,xn,is',nd'⟩:=p;have I1:=I.write (x:=a) (e:=a) (o:=.ext λh=>h.get? a=some l) (h':=h') (t':=s.toks+mH k) (by rw[m];trivial) (.inl rfl) (λb u hb e=>(hs.2 b hb).trans e) ⟨l,B⟩ ⟨B,⟨l,B⟩,λh1 h2 e k=>k _ e⟩;exact⟨_,I1,q l _ ⟨n.1,C,r,t,qg,rfl⟩ (by rw[xn];exact HW (KJ hp tf L N ru rv))⟩
def uQ (i:Nat) (ρ:Ev) (k d:D):R Out:=match ρ[i]? with
 |some (.d U)=>if S5 7 k=true/\KO k=true/\U.length<=sizeLine then .ok (.nx (ρ.set i<|.d (Y8 U k d)))else .bad
 |_=>.bad
def iS (i:Nat){x:Str}{k:cy}{f g:Ev->R D}{p ps:Pos}(he:PD X e f)(c:PD X k g)(hu:X.A.units+130<dA)(hN:X.N[i]?=some x:=by rfl)(hv:BC X.env.scope x:=by first|exact aCw rfl|exact aBE (aCw rfl)|exact aBE (aBE rfl))(hd:(x==kd)=false:=by decide)
  (fb:(x==ku)=false:=by decide) (ha:∀v,h9 (.Subscript (.Name x p) k ps) X.env v=(do
   let t<-gh [v] (d3 (.Name x p) X.env)
   let B<-gh [v,t] (d3 k X.env)
   standAt ps
   gh [v,t,B] (setItem t B v)
   release [v,t,B] []):=by intro _;rfl)
  (hs:gs [.Subscript (.Name x p) k ps] e C.line X.env=pure false:=by rfl) (hw:gv [.Subscript (.Name x p) k ps] e X.env=pure none:=by rfl) (u:(et [.Subscript (.Name x p) k ps] X.env).map (·.2)=[h9 (.Subscript (.Name x p) k ps) X.env]:=by rfl):
  nM X (.Assign [.Subscript (.Name x p) k ps] e C) (λρ=>(f ρ).bind λd=>(g ρ).bind λl=>uQ i ρ l d):=λY O0=>
 yP (EG he (OM (N0 hN hv hd fb) c (VG hu) ha) hs hw u) λD σ H O ρ E fk q=>⟨Y,O0,O,ρ,E,by
  cases I:f ρ with
  |ex z=>rw[I]at q;exactλH' s=>q H' (E.same.trans s)
  |bad=>rw[I]at q;exact q
  |ok d=>
   rw[I,R.aa0]at q;intro v H1 s1 r1;have J:=E.grow s1;cases w:g ρ with
   |ex z=>rw[w]at q;exact(q H<|E.same.trans<|Same.refl _).elim
   |bad=>rw[w]at q;exact aAi q
   |ok l=>
    rw[w,R.aa0]at q;unfold uQ at q;cases y:ρ[i]? with
    |none=>rw[y]at q;exact aAi q
    |some sl=>
     rw[y]at q;cases sl with
     |d U=>
      dsimp only at q;by_cases c:S5 7 l=true/\KO l=true/\U.length<=sizeLine
      .rw[jk c]at q;obtain⟨a,o,es,u,h2,h3,L,h5,h6,h7⟩:=J.slot i _ y;refine⟨_,u,Y,O0,O,ρ,J,?_⟩;rw[w];intro kv H2 n r2;have E2:=J.grow n;obtain⟨b,rfl⟩:=pK r2 c.2.1;have Q:nU X.K H2 O es U:=h6.mono λr=>r.same n;refine⟨O,a,b,o,es,U,l,d,rfl,rfl,n _ _ L,h5,Q,h7,by rw[h6.length];exact c.2.2,r2,c.1,r1.same n,λo' T d' r'=>?_⟩;obtain⟨E3,k3⟩:=E2.ae4 (sl':=.d (Y8 U l d)) (u':=.ext λh=>h.get? a=some o') y trivial u (n _ _ L) trivial trivial λhO h0 m=>⟨a,o',T,rfl,h2,h3,j3,d',r'.mono λr=>r.upd (n _ _ L) trivial h2,tW U l d h7⟩;exact q _ _ _ E3 fk (((Kp.of s1).trans (Kp.of n)).trans k3)
      .rw[ka c]at q;exact aAi q
     |_=>exact aAi q⟩
end
end
section
variable [Tabs]
def _root_.L2.Inv.ae6 {a:O5}{σ:St}{H:Hp}{s:a9}{h':cv}{t':Nat}{L:List bb}{T:bb}{vs:List V}(I:Inv X a σ H s)(k:∀b o,b∉L->s.heap.get? b=some o->h'.get? b=some o)
  (h:∀b∈L,nI X a H b) (l:s.heap.objs.size<=T) (hz:vs.length<=sizeLine) {its:List ai} (w:l6 vs its) (x:IsTup h' T its.toArray):Inv X a σ (upd H T (.tup vs)) {s with heap:=h',toks:=t'}:=by
 have p:H T=none:=I.hok.fresh l;have ne:∀b u,H b=some u->b≠T:=λb u e z=>by rw[z,p]at e;cases e
 have f:Same H (upd H T<|.tup vs):=j6 p _;have t:∀b u,H b=some u->b∉L:=λb u e z=>by rw[(h b z).1]at e;cases e
 refine I.step (g':=s.gens) (d':=s.drawn) (ch:=L) (λb g=>?_) (λb o _ _ d e _=>k b o d e) (λb o _ _ d e _=>⟨o.slots,k b o d e⟩) (λb o _ e n=>?_)
  (λb o d e=>⟨o,k b o d e⟩) (λb _ e=>f _ _ e) (λb _ _ e=>f _ _ e) (λb _ e=>f _ _ e) (λm y=>?_) (λb u e=>?_) I.bare
 .obtain⟨_,A,_,B,C,E⟩:=h b g;exact⟨B,A,C,E⟩
 .rw[k8 (aAl<|aAu (aAg e) l)];exact n
 .obtain⟨o,J,N,O,r⟩:=y;exact⟨o,J,N,k _ o (λz=>(h _ z).2.1 rfl) O,r⟩
 .by_cases g:b=T
  .subst g;rw[j3]at e;cases e;exact⟨hz,its,w,x⟩
  .rw[k8 g]at e;refine(I.hok b u e).ab7 (λc v d q=>k c v ?_ q) (λ_ q=>f _ _ q) λ_ _ _ q=>f _ _ q;rcases d with z|z
   .rw[z];exact t b u e
   .exact t c _ z
def _root_.L2.Inv.af1 {a:O5}{σ:St}{H:Hp}{s:a9}{h':cv}{t':Nat}{L:List bb}(I:Inv X a σ H s)(k:∀b o,b∉L->s.heap.get? b=some o->h'.get? b=some o)
  (f:∀b∈L,nI X a H b):Inv X a σ H {s with heap:=h',toks:=t'}:=by
 have g:∀b u,H b=some u->b∉L:=λb u e z=>by rw[(f b z).1]at e;cases e
 refine I.step (g':=s.gens) (d':=s.drawn) (ch:=L) (λb h=>?_) (λb o _ _ d e _=>k b o d e) (λb o _ _ d e _=>⟨o.slots,k b o d e⟩) (λ_ _ _ _ n=>n)
  (λb o d e=>⟨o,k b o d e⟩) (λb _ e=>e) (λb _ _ e=>e) (λb _ e=>e) (λm l=>?_) (λb u e=>?_) I.bare
 .obtain⟨_,p,_,t,w,x⟩:=f b h;exact⟨t,p,w,x⟩
 .obtain⟨o,y,A,B,r⟩:=l;exact⟨o,y,A,k _ o (λz=>(f _ z).2.1 rfl) B,r⟩
 .refine(I.hok b u e).ab7 (λc v d q=>k c v ?_ q) (λ_ q=>q) λ_ _ _ q=>q;rcases d with z|z
  .rw[z];exact g b u e
  .exact g c _ z
def YQ {h:cv}{i a:bb}{k:Nat}(x:h.IsListIter i a k):∃o,h.get? i=some o/\∀v,o.data≠.cell v:=by obtain⟨o,e,c,d⟩:=x;exact⟨o,e,λv z=>by rw[d]at z;cases z⟩
def Ite (K:kc)(a:bb):It:=
 ⟨λi H=>∃Y x,K0 K H a Y/\Y[i]?=some x,
  λi H v b=>∃T,v=.ref T/\H T=none/\∀Y,K0 K H a Y->∃x,Y[i]?=some x/\b=upd H T (.tup [.int i,x]),
  λi H=>∃Y,K0 K H a Y/\Y.length<=i⟩
def tnE (e it a:bb)(i:Nat)(h:cv):Prop:=(∃b,IsEnum h e it (i:Int) b)/\h.IsListIter it a i
def JG {P:bt}{w:cq}{K:kc}{el:List cy}{c}{tp:Pos}{e it a:bb}(D:e≠it):Turn P w K (.Tuple el c tp) (Ite K a) [e,it] e (tnE e it a)where
 mem:=by simp
 obj:=λi h ⟨⟨f,C⟩,J⟩ c d=>by
  simp only[aAd,aAD,or_false]at d;rcases d with rfl|rfl
  .exact⟨_,C,λv z=>nomatch z⟩
  .exact YQ J
 keep:=λi h r ⟨⟨f,C⟩,J⟩ k=>⟨⟨f,k _ (by simp) _ C⟩,J.at λo e=>k _ (by simp) o e⟩
 item:=by
  intro X L N O d i n s σ H E I t st Q;subst L N O;obtain⟨Y,x,y,ex⟩:=Q;obtain⟨T,g,U,zx⟩:=I.list y;obtain⟨u,hu,ru⟩:=g.get ex;obtain⟨⟨f,A⟩,B⟩:=st;refine wpAny_pyNext_enum_item A B U.isList (x:=u) (by simpa using hu) D λr q0 q1 hp hsz kp=>?_;refine⟨.ref s.heap.objs.size,rfl,wpAny_letOwnedTupleGo_enum (s:={s with heap:=r,toks:=s.toks+1}) q0 λh2 z2 sb=>?_⟩;have l:e<s.heap.objs.size:=aAg A;have p:it<s.heap.objs.size:=by obtain⟨o,e,_⟩:=B;exact aAg e
  have up:∀c o,c≠e->r.get? c=some o->h2.get? c=some o:=λc o d e=>sb.extBut c o d e;have hTf:s.heap.objs.size∉[e,it]:=λm=>by
   simp only[aAd,aAD,or_false]at m;rcases m with m|m
   .rw[<-m]at l;exact absurd l (aBg _)
   .rw[<-m]at p;exact absurd p (aBg _)
  have kk:∀c o,c∉[e,it]->s.heap.get? c=some o->h2.get? c=some o:=λc o d e=>by simp only[aAd,aAD,or_false,not_or]at d;exact up c o d.1 (kp c o d.1 d.2 e)
  refine⟨.ref s.heap.objs.size,upd H s.heap.objs.size (.tup [.int i,x]),I.ae6 (t':=s.toks+1) kk t (aAj _) (by show 2<=sizeLine;decide) (its:=[.int i s.toks,u]) (.cons ⟨_,rfl⟩ (.cons ru .nil)) ⟨_,up _ _ (aCC l) hp,rfl,0,rfl⟩,rfl,
   ⟨_,rfl,I.hok.fresh (aAj _),λxs' hx'=>⟨x,by rw[I.ab2 hx' y];exact ex,rfl⟩⟩,⟨⟨u,?_⟩,q1.at λo e=>up _ o (aCg D) e⟩,λb hb=>?_⟩
  .have:((i+1:Nat):Int)=(i:Int)+1:=by lia
   rw[this];exact z2
  .rw[k8 (λq:b=s.heap.objs.size=>hTf (q▸hb))];exact(t b hb).1
 done:=by intro X L N O d i n s σ H E I t st Q;subst L N O;obtain⟨Y,y,hl⟩:=Q;obtain⟨T,g,U,zx⟩:=I.list y;obtain⟨⟨f,A⟩,B⟩:=st;have hlx:=g.length;refine wpAny_pyNext_enum_end (I.ok.hd d) A B U.isList (by simp;lia) λr kp=>⟨rfl,I.af1 (t':=s.toks) (λc o d e=>?_) t⟩;simp only[aAd,aAD,or_false,not_or]at d;exact kp c o d.2 e
 self:=by rintro _ _ _ _ _ ⟨⟨_,st⟩,_⟩ h;exact wpAny_pyIter_enum st h
def GE (Y:List D):List D:=List.zipWith (λ(k:Nat) d=>D.tup [.int (k:Int),d]) (aBw Y.length) Y
def NR:List D->R (List D)
 |[.lst Y]=>.ok (GE Y)
 |_=>.bad
def lT (Y:List D)(i:Nat):(GE Y)[i]?=Y[i]?.map λd=>D.tup [.int (i:Int),d]:=by
 unfold GE;rw[List.getElem?_zipWith];by_cases h:i<Y.length
 .rw[List.getElem?_range h];cases Y[i]?<;>rfl
 .rw[aEm (by simpa using h),aEm (by lia:Y.length<=i)];rfl
def NE {el:List cy}{c}{tp:Pos}{e1:cy}{p:Pos}{g:Ev->R D}(u:PD X e1 g)(hg:Gl X "enumerate":=by rfl)(hm:X.mg "enumerate"=none:=by assumption)(hv:df "enumerate"=some (.type "enumerate"):=by decide+kernel)
  (L:av [e1] X.env=(false,d3 e1 X.env)::av [] X.env:=by rfl) (bg:(dq h (av [] X.env)).any (·.1)=false:=by rfl):
  WN X (.Tuple el c tp) (.Call (.Name "enumerate" p) [e1] [] h) (λρ=>(q8 g R5 ρ).bind NR):=by
 rintro l s σ H Rr I ⟨H9,O0,O,ρ,E,fk,q⟩;dsimp only at q;refine aAL (K8 I hg hm hv ?_ (by decide) (by decide));have lb:KR X [e1] (q8 g R5):=f9 u m9 L;refine aBe (E6 (lb h l s σ H (λv f=>∃v1 Y,v=[v1]/\q8 g R5 ρ=.ok [.lst Y]/\Same H f/\Rep X.K f O v1 (.lst Y)) I ⟨H9,O0,O,ρ,E,?_⟩) λus m w=>?_) L bg
 .cases e1:q8 g R5 ρ with
  |ex z=>rw[e1]at q;exact q
  |bad=>rw[e1]at q;exact q.elim
  |ok ds=>
   rw[e1,R.aa0]at q;match ds,q with
   |[.lst Y],q=>
    intro v f m n;cases n with
    |cons ra n=>cases n with
     |nil=>exact⟨_,Y,rfl,rfl,m,ra⟩
 .obtain⟨v,f,t,n,v1,Y,y,ef,sm,A⟩:=w;subst y;rw[ef,R.aa0]at q;simp only[NR]at q;cases A with
  |@lst a B _ r nx N=>
  obtain⟨u1,rfl,C⟩:=vals1 n;cases C;obtain⟨itx,rvx,px,zX⟩:=t.list r;refine call_enumerate_list px.isList λQ U z2 zsz k1=>?_;have I2:=t.kept (h':=Q) (t':=m.toks) k1;refine wpAny_pyIter_enum (s:={m with heap:=Q}) U ⟨_,_,_,Ite X.K a,f,rfl,I2,JG (Nat.succ_ne_self _),⟨⟨_,U⟩,z2⟩,λc hc=>?_,q _ f sm λH2 O2 k hK hO hO2 i=>?_⟩
  .have xu:m.heap.objs.size<=c:=by simp only[aAd,aAD,or_false]at hc;rcases hc with rfl|rfl<;>lia
   exact t.ae8 xu (t.hok.fresh xu)
  .obtain⟨n2x,b⟩:=k.lst nx r λo q=>hK a o q;have J:=k.ab9 hO hK N;refine⟨λd e=>?_,λe=>⟨B,b,?_⟩⟩
   .rw[lT]at e;cases e1:Y[i]? with
    |none=>rw[e1]at e;cases e
    |some dx=>rw[e1]at e;cases e;obtain⟨vx,g1,g2⟩:=J.get e1;refine⟨⟨B,vx,b,g1⟩,λx H' w=>?_⟩;obtain⟨T,y,hT,hh⟩:=w;obtain⟨x1,q1,rfl⟩:=hh B b;rw[g1]at q1;cases q1;subst y;have s2:Same H2 (upd H2 T<|.tup [.int i,vx]):=j6 hT _;exact⟨s2,.tup (X1.of j3) (.cons .int (.cons (g2.same s2) .nil))⟩
   .rw[N.length];rw[lT]at e;cases e1:Y[i]? with
    |none=>exact aBM.mp e1
    |some dx=>rw[e1]at e;cases e
end
end DL
namespace MM
open PySem
def QR (prog:bt)(w:cq)(A:cp)(op:CmpOp)(c:cv->Prop)(P:Nat->ai->Prop)(d:Nat->Nat->Bool):Prop:=
 ∀i j a b (s:a9) (Q:E8) (E:E8),c s.heap->P i a->P j b->Q (.bool (d i j)) s->a5 (bc prog w) A (richCompare op a b) Q E s
section
def JX (W:WalksS prog w A.in1 I fp q G n P St){L:cv->Prop}(hH:∀i s,St i s->L s.heap)(m:Nat->Nat->Bool)(xm:QR prog w A.in1 .Lt L P m)(S:bb)(N:S∉fp):
  ∀(k j:Nat) (s:a9) (d:ai) (c:Nat),n-(j+1)=k->j+1<=n->St (j+1) s->P (fg m j) d->
  s.heap.get? S=some {cls:=.type "list",dict:=none,data:=.seq #[d,d] c,slots:=#[]}->
  (∀v s',P (fg m (n-1)) v->Moved (S::q) G s s'->R (.ok (.ret v)) s')->gn (bc prog w) A (.builtin "min.loop" ⟨[.ref I,.none,.ref S],[]⟩) R s:=by
 have r:S∉q:=λh=>N (W.sub _ h);have y:∀b∈q,b∈S::q:=λb a=>aAe _ a;have O:(toString "min"++toString ".loop":String)= "min.loop":=by decide
 have Q:∀{b:bb},b∉S::q->S≠b:=λa h=>a (by rw[h];exact aBa);intro k;induction k with
 |zero=>
  intro j s d c hk hj z f t x;have T:j+1=n:=by omega
  refine aBu aFy ?_;rw[aAX aCM _];show a5 _ A.in1 (seqItems? (.ref S)>>=_) _ _ s;refine aAa (aBN t rfl ?_);show a5 _ A.in1 (tryCatch (fT<|.ref I) _>>=_) _ _ s;refine aAa (aFa<|W.done s _ _ (T▸z) λs' p=>?_);have u:=p.heap S _ r t;show a5 _ A.in1 (i4 S (λ_=>#[])>>=_) _ _ _;refine aAa ?_;refine aCc u rfl (aAa<|aEa<|aAb ?_);exact x d _ (by rw[<-T];exact f) ((p.mono y).then_heap (tk:=s'.toks) (aAj _) λb o a e=>(aAC _ _<|Q a).trans e)
 |succ k U=>
  intro j s d c hk hj z f t x;have B:j+1<n:=by omega
  refine aBu aFy ?_;rw[aAX aCM _];show a5 _ A.in1 (seqItems? (.ref S)>>=_) _ _ s;refine aAa (aBN t rfl ?_);show a5 _ A.in1 (tryCatch (fT<|.ref I) _>>=_) _ _ s;refine aAa (aFa<|W.item (j+1) s _ _ B z λv s' Y C p=>?_);have u:=p.heap S _ r t;show a5 _ A.in1 (tryCatch (gh [v,v]<|richCompare .Lt v d>>=_) _>>=_) _ _ _;refine aAa (aFa<|aAK<|aAa<|xm (j+1) (fg m j) v d _ _ _ (hH _ _ C) Y f ?_);refine aAa (aAK<|aBG ?_);refine aAa (aEa<|aAb ?_);cases a:m (j+1) (fg m j)with
  |true=>
   simp only[if_true];refine aAa ?_;refine aCc u rfl (aAa<|aEa ?_);rw[O];refine aAb ⟨aBQ aCM _,U (j+1) _ v _ (by omega) B (W.frame _ s' _ s'.toks C (aAj _) λb E o e=>?_) (by simp only[fg,a,if_true];exact Y) (aAZ _ u rfl)
    λH g l J=>?_⟩
   .exact(aAC _ _ (λh:S=b=>N (by rw[h];exact E))).trans e
   .exact x H g l (aFo W.gtrans ((p.mono y).then_heap (aAj _) λb o a e=>(aAC _ _<|Q a).trans e) J)
  |false=>simp only[aAt,if_false];refine aAa (aEa ?_);rw[O];refine aAb ⟨aBQ aCM _,U (j+1) _ d c (by omega) B C (by simp only[fg,a,aAt,if_false];exact f) u λH g l J=>?_⟩;exact x H g l (aFo W.gtrans (p.mono y) J)
def BY (W:WalksS prog w A.in1 I y a G n P St){q:cv->Prop}(z:∀i s,St i s->q s.heap)(f:Nat->Nat->Bool)(B:QR prog w A.in1 .Lt q P f)(S:bb)(g:S∉y)(r:0<n)(C:St 0 s)(t:s.heap.get? S=some {cls:=.type "list",dict:=none,data:=.seq #[] c,slots:=#[]})(E:∀v s',P (fg f (n-1)) v->Moved (S::a) G s s'->R (.ok (.ret v)) s'):gn (bc prog w) A (.builtin "min.loop" ⟨[.ref I,.none,.ref S],[]⟩) R s:=by
 have k:S∉a:=λh=>g (W.sub _ h);have H:∀b∈a,b∈S::a:=λb d=>aAe _ d;have J:(toString "min"++toString ".loop":String)= "min.loop":=by decide
 have L:∀{b:bb},b∉S::a->S≠b:=λd h=>d (by rw[h];exact aBa);refine aBu aFy ?_;rw[aAX aCM _];show a5 _ A.in1 (seqItems? (.ref S)>>=_) _ _ s;refine aAa (aBN t rfl ?_);show a5 _ A.in1 (tryCatch (fT<|.ref I) _>>=_) _ _ s;refine aAa (aFa<|W.item 0 s _ _ r C λv s' N O u=>?_);have x:=u.heap S _ k t;show a5 _ A.in1 (i4 S (λ_=>#[v,v])>>=_) _ _ _;refine aAa ?_;refine aCc x rfl ?_;rw[J];refine aAb ⟨aBQ aCM _,JX W z f B S g _ 0 _ v _ rfl r (W.frame _ s' _ s'.toks O (aAj _) λb l o e=>?_) N (aAZ _ x rfl) λQ m p T=>?_⟩
 .exact(aAC _ _ (λh:S=b=>g (by rw[h];exact l))).trans e
 .exact E Q m p (aFo W.gtrans ((u.mono H).then_heap (aAj _) λb o d e=>(aAC _ _<|L d).trans e) T)
def call_minH {E:E8}{Q:E8}(h:a5 (bc prog w) A.in1 (pyIter x) (λit a=>∃I c f G n P St g d,it=.ref I/\WalksS prog w A.in1 I c f G n P St/\St 0 a/\(∀b∈c,b<a.heap.objs.size)/\0<n/\(∀i s,St i s->g s.heap)/\QR prog w A.in1 .Lt g P d/\
   ∀v s',P (fg d (n-1)) v->Moved f G a s'->Q v s') E s):
  a5 (bc prog w) A (call (.builtin "min") [x]) Q E s:=by
 have l:(toString "min"++toString ".loop":String)= "min.loop":=by decide
 refine call_function_tree F.kind_min F.plain_min F.entry_min (F.args_min1 _) ?_;show a5 _ A.in1 (aEG "min" ["key", "default"] 0 ⟨[],[]⟩>>=_) _ _ s;refine aAa (aGg (show aEG "min" ["key", "default"] 0 ⟨[],[]⟩=pure [none,none]from rfl) ?_);refine aAa (aAb ?_);refine aAa (aCF h (λit a m=>?_) λ_ _ e=>e);obtain⟨I,c,f,G,n,P,St,g,d,rfl,W,p,q,r,t,u,y⟩:=m;refine aAa (aAS ?_);have z:a.heap.objs.size∉c:=λk=>aBg _ (q _ k);rw[l];refine aAb ⟨aBQ aCM _,BY W t d u a.heap.objs.size z r (W.frame 0 a _ a.toks p (aAj _) λb _ o e=>aAc _ e) (aAo _ rfl) λv s' B k=>?_⟩;exact y v s' B (Moved.drop_new (tk:=a.toks) k<|aAj _)
end
def walks_more {P:Nat->ai->Prop}{St:Nat->cv->Prop}(W:Walks prog w A I m g n P St)(more:O5)(q:∀p∈more,p.1∉g):
  Walks prog w A I (m++more.map (·.1)) g n P (λi h=>St i h/\∀p∈more,h.get? p.1=some p.2)where
 sub:=λb d=>aBH _ (W.sub b d)
 frame:=λi h f st k=>⟨W.frame i h f st.1 λb d o e=>k b (aBH _ d) o e,λp a=>k p.1 (aAH _<|aBf a) _ (st.2 p a)⟩
 item:=λi s Q E r st c=>W.item i s Q E r st.1 λv f t u x l=>c v f t u ⟨x,λp a=>l p.1 p.2 (q p a) (st.2 p a)⟩ l
 done:=λs Q E st c=>W.done s Q E st.1 c
 self:=λi s Q E st c=>W.self i s Q E st.1 c
end MM
namespace DL
open PySem PySem.Spec L2
open PyProof.Rows hiding St
section
variable [Tabs]
section
def JU {x:Str}{a:bb}{b:Option bb}{its:Array ai}{n:Nat}{sl:Array (Option ai)}{ns:List Int}(c:X.mg x=some (.ref a))(d:X.K.lookup a=some ⟨.type "tuple",b,.seq its n,sl⟩)(e:l6 (ns.map V.int) its.toList)(hz:its.size<=sizeLine)(f:Gl X x:=by rfl)(g:(x==kd)=false:=by decide):
 PD X (.Name x h) (XE (.tup (ns.map D.int))):=wM (UH f c (show RelV (.ref a) _ from rfl) g) λH O=>.tup (.inr ⟨_,its,n,d,rfl,rfl,hz,e⟩) (Reps.ints ns)
def RV:D->D->R D
 |.non,.non=>.ok (.bl true)
 |_,.non=>.ok (.bl false)
 |_,_=>.bad
def QT:kP X (ee .Is) RV:=by
 intro H O x y d e Q h c f q;refine⟨_,iq,?_⟩;cases e with
 |non=>
  refine⟨f.ac1,?_⟩;cases d with
  |non=>rw[c.ac1];exact q _ H (Same.refl _) .bl
  |bl b=>rw[c.blI];exact q _ H (Same.refl _) .bl
  |int i=>rw[c.aa6];exact q _ H (Same.refl _) .bl
  |str z=>rw[c.ac4];exact q _ H (Same.refl _) .bl
  |tup g=>obtain⟨a,_,rfl,_⟩:=c.tupI;exact q _ H (Same.refl _) .bl
  |lst g=>obtain⟨a,_,rfl,_⟩:=c.aa3;exact q _ H (Same.refl _) .bl
  |dct=>obtain⟨a,_,rfl,_⟩:=c.af9;exact q _ H (Same.refl _) .bl
 |_=>cases d<;>exact aAi q
def MI (g:PD X e f)(h:eZ e none a.line X.env=pure false:=by rfl):nM X (.Expr e a) (λρ=>(f ρ).bind λ_=>.ok (.nx ρ)):=λk l=>
 yP (oA g h) λD σ H O ρ E m q=>⟨k,l,O,ρ,E,by
  cases b:f ρ with
  |ok d=>rw[b]at q;exactλv c s r=>q _ c O (E.grow s) m (Kp.of s)
  |ex x=>rw[b]at q;exactλc s=>q c (E.same.trans s)
  |bad=>rw[b]at q;exact q⟩
def fA:List D->Option (List Bool)
 |[]=>some []
 |.bl b::a=>(fA a).map (b::·)
 |_::_=>none
theorem pB:∀{ds:List D} {bs:List Bool},fA ds=some bs->ds=bs.map D.bl
 |[],bs,h=>by cases h;rfl
 |.bl b::ds,bs,h=>by
  unfold fA at h;cases e:fA ds with
  |none=>rw[e]at h;cases h
  |some l=>rw[e]at h;have a:b::l=bs:=aAk h;subst a;rw[pB e];rfl
 |.non::_,_,h|.int _::_,_,h|.str _::_,_,h|.tup _::_,_,h|.lst _::_,_,h|.dct::_,_,h=>by cases h
def anyR:List D->R D
 |[.lst a]=>match fA a with
  |some bs=>.ok (.bl (bs.any id))
  |none=>.bad
 |_=>.bad
def CY {K:kc}{H:Hp}{O:bb->Prop}{ws:List V}{bs:List Bool}{its:List ai}(r:Reps K H O ws (bs.map D.bl))(v:l6 ws its):its=bs.map aDA:=by
 induction bs generalizing ws its with
 |nil=>cases r;cases v;rfl
 |cons b bs a=>
  cases r with
  |cons r t=>
   cases v with
   |cons c d=>cases r;have:_=aDA b:=c;rw[this,a t d];rfl
def JC (bs:List Bool):(aBw bs.length).any (λi=>bs.getD i false)=bs.any id:=by
 rw[aDa,aDJ,aDJ];constructor
 .rintro⟨i,a,e⟩;have c:i<bs.length:=by simpa using a
  refine⟨bs[i],aBR c,?_⟩;simpa[aAq,aAh c]using e
 .rintro⟨b,d,e⟩;obtain⟨i,a,rfl⟩:=aBc d;exact⟨i,by simpa using a,by simpa[aAq,aAh a]using e⟩
def ck (y:X.calm=true):dD X (.builtin "any") anyR:=by
 intro H O h A Q fr r q;match A,q with
 |[.lst Y],q=>
  obtain⟨v,rfl,z⟩:=HR r;obtain⟨p,ws,rfl,B,k⟩:=z.aa3;simp only[anyR]at q;cases e:fA Y with
  |none=>rw[e]at q;exact q.elim
  |some bs=>
   rw[e]at q;rw[pB e]at k;refine⟨λh l m=>h=[.ref p]/\l=H/\m=Q,λn s σ l Y us m I C ⟨J,L,N⟩=>?_,rfl,rfl,rfl⟩;subst J L N;obtain⟨u,rfl,T⟩:=vals1 C;cases T;obtain⟨a,f,⟨U,nL,t,cL,dL,sL⟩,zL⟩:=I.list B;have w:=CY k f;have x:s.heap.IsList p a.toArray:=⟨U,t,cL,nL,sL⟩;refine call_any_walk (aDB x ⟨s.heap.objs.size,_,_,a.toArray.size,_,_,λi=>bs.getD i false,rfl,Walks.list (by simp[I.ok.hd y]) s.heap.objs.size p (aAl<|aAg t) a.toArray,⟨⟨_,aAo _ rfl,rfl,rfl⟩,x.push _⟩,λi v s' Q E c d=>?_,λh' tk kp=>?_⟩)
   .have c:a.toArray[i]?=some v:=c;have d:Q (bs.getD i false) s':=d;rw[aCO,w,aAG]at c;cases g:bs[i]? with
    |none=>rw[g]at c;cases c
    |some b=>rw[g]at c;have:aDA b=v:=aAk c;subst this;rw[aAq,g]at d;exact aBG d
   .have I2:=I.kept (h':=h') (t':=tk) λb o e=>kp b o (by simp only[aBm];exact aAl (aAg e)) (aAc _ e);refine⟨.bl (bs.any id),_,I2,?_,q _ _ (Same.refl _) .bl⟩;show aDA _=aDA _;rw[aAm,w,aAf,JC]
end
def ZX (ds:List D)(i j:Nat):Bool:=HT.lexLt (flat<|ds.getD i .non) (flat<|ds.getD j .non)
def ON:List D->R D
 |[.lst a]=>if a≠[]/\a.all U1=true then .ok (a.getD (fg (ZX a) (a.length-1)) .non)else .bad
 |_=>.bad
def xO (h:cv)(its:List ai):List (bb×Obj):=its.filterMap λv=>match v with
 |.ref b=>(h.get? b).map λo=>(b,o)
 |_=>none
def EO (a:aDv b∈its)(e:h.get? b=some o):(b,o)∈xO h its:=
 aBW.mpr ⟨_,a,by show(h.get? b).map _=_;rw[e];rfl⟩
def gQ (a:p∈xO h its):h.get? p.1=some p.2:=by
 obtain⟨v,_,e⟩:=aBW.mp a;cases v with
 |ref b=>
  have e:(h.get? b).map (λo=>(b,o))=some p:=e;cases q:h.get? b with
  |none=>rw[q]at e;cases e
  |some o=>rw[q]at e;cases e;exact q
 |_=>cases e
section
def UF (hc:X.calm=true)(hu:X.A.units+300<dA):dD X (.builtin "min") ON:=by
 intro H O vs ds Q fr r q;match ds,q with
 |[.lst Y],q=>
  obtain⟨v,rfl,z⟩:=HR r;obtain⟨p,ws,rfl,h1,h2⟩:=z.aa3;simp only[ON]at q;by_cases x:Y≠[]/\Y.all U1=true
  .rw[jk x]at q;obtain⟨ag,x⟩:=x;have pt:∀d∈Y,U1 d=true:=aBt.mp x;refine⟨λvs N Q'=>vs=[.ref p]/\N=H/\Q'=Q,λpins s σ N xs' us Q' I rv z9=>?_,rfl,rfl,rfl⟩;obtain⟨e1,e2,e3⟩:=z9;subst e1 e2 e3;obtain⟨u,rfl,ru⟩:=vals1 rv;cases ru;obtain⟨f,y,⟨oL,nL,T,cL,dL,sL⟩,zL⟩:=I.list h1;have hl:s.heap.IsList p f.toArray:=⟨oL,T,cL,nL,sL⟩;have st:u9 X.K N O f Y:=u9.of y h2;have l:f.toArray.size=Y.length:=by rw[aAm,<-y.length,h2.length]
   have ue:0<Y.length:=aDL.mpr ag;have W:=MM.walks_more (Walks.list (prog:=X.prog) (w:=X.w) (A:=X.A.in1) (by simp[I.ok.hd hc]) s.heap.objs.size p (aAl<|aAg T) f.toArray) (xO s.heap f)
    (λq t=>by simp only[aBm];exact aAl (aAg<|gQ t))
   refine MM.call_minH (aDB hl ⟨s.heap.objs.size,_,_,_,f.toArray.size,_,_,λh=>∀q∈xO s.heap f,h.get? q.1=some q.2,ZX Y,rfl,W.toS,⟨⟨⟨_,aAo _ rfl,rfl,rfl⟩,hl.push _⟩,λq t=>aAc _ (gQ t)⟩,λb k=>?_,by rw[l];exact ue,λi s h=>h.2,λi j vi vj m Q2 E2 hh B hj t=>?_,λv m E J=>?_⟩)
   .rw[aBy];rcases aAN.mp k with k|k
    .rcases aAd.mp k with rfl|k
     .exact aDK _
     .rcases aAd.mp k with rfl|k
      .exact aBz (aAg T)
      .cases k
    .obtain⟨q,t,rfl⟩:=aAp.mp k;exact aBz (aAg<|gQ t)
   .have one:∀i v,f.toArray[i]?=some v->∃b a,v=.ref b/\IsTup m.heap b a/\IntsAre a.toList (flat<|Y.getD i .non):=λi v B=>by
     rw[aCO]at B;obtain⟨d,L,w,U,rp⟩:=F9 st B;have qg:Y.getD i .non=d:=by rw[aAq,L];rfl
     rw[qg];have C:=pt d (aAn L);obtain⟨b,a,rfl,⟨o,g,c,n,dd⟩,hia⟩:=bY C (S6 I rp (D6 C) U);exact⟨b,a,rfl,⟨o,hh _ (EO (aAn B) g),c,n,dd⟩,hia⟩
    obtain⟨b,a,rfl,t1,i1⟩:=one i vi B;obtain⟨b',xh,rfl,t2,i2⟩:=one j vj hj;exact HT.lt_tupInts t1 t2 i1 i2 (by rw[p8];lia) t
   .have E:f.toArray[fg (ZX Y) (f.toArray.size-1)]?=some v:=E;rw[aCO,l]at E;obtain⟨d,L,w,U,rp⟩:=F9 st E;have qg:Y.getD (fg (ZX Y)<|Y.length-1) .non=d:=by rw[aAq,L];rfl
    rw[qg]at q;have I2:=I.kept (h':=m.heap) (t':=m.toks) λb o e=>J.heap b o (by simp only[aBm];exact aAl (aAg e)) (aAc _ e);have es:m={s with heap:=m.heap,toks:=m.toks}:=by have g1:=J.gens;have g2:=J.drawn;have g3:=J.os;cases m;simp only at g1 g2 g3;subst g1 g2 g3;rfl
    rw[es];exact⟨w,_,I2,U,q _ _ (Same.refl _) rp⟩
  .rw[ka x]at q;exact q.elim
def UQ (h:LU ds)(n:Nat)(a:n<ds.length):fg (ZX ds) n=0:=by
 induction n with
 |zero=>rfl
 |succ k b=>
  have e:=b (by lia);unfold fg;rw[e];have:ZX ds (k+1) 0=false:=by
   unfold ZX;rw[aAq,aAq,aAh a,aAh (by lia:0<ds.length)];have:=aCk.mp h 0 (k+1) (by lia) a (by lia);cases q:HT.lexLt (flat<|(some ds[k+1]).getD .non) (flat ((some (ds[0]'(by lia))).getD .non))with
   |false=>rfl
   |true=>have z:HT.lexLt (flat (ds[0]'(by lia))) (flat (ds[0]'(by lia)))=true:=TS.lex_trans _ _ _ this q;rw[TS.lex_irrefl]at z;cases z
  rw[this];rfl
end
end
section
variable [Tabs]
end
end DL
namespace DL
open PySem PySem.Spec L2
open PyProof.Rows hiding St sub_tuple_tuple sub_list_list sub_tuple_list sub_list_tuple
section
open PySem.MeetsSeq PySem.MeetsSeq2 PySem.MeetsSeq3 PySem.AutoSeq1
def QG (l:bb)(Y:Array ai)(n:Nat)(b:bb)(a:Array ai)(n2:Nat)(sl:Array (Option ai))(f:¬(!Y.isEmpty&&aCZ (Y.size+a.size))=true)(h:Y.size<=sizeLine)(k:Y.size+a.size<=sizeLine+1):
  Meets (Builtin.«list.extend» ⟨[.ref l,.ref b],[]⟩) (λ_ R s=>s.heap.get? l=some ⟨.type "list",none,.seq Y n,#[]⟩/\s.heap.get? b=some ⟨.type "list",none,.seq a n2,sl⟩/\R (.ok (.ret Value.none)) {s with heap:=s.heap.update l (aBx λx=>x++a),toks:=s.toks}):=
 .of_wp λc w A R s q=>by
  obtain⟨p,g,d,r,os⟩:=s;obtain⟨e,m,o⟩:=q;have t:=idx_int;have u:=sub_tuple_tuple;have v:=sub_list_list;have y:=sub_tuple_list;have B:=sub_list_tuple;have z:(Y++a).size<=sizeLine+1:=by rw[Array.size_append];exact k
  wp_walk using(aCc e rfl (hz:=h) (_hz':=z)),aEA e,aEA m
  exact⟨_,rfl,o⟩
end
section
def nk (K:kc):V->List V->Hp->VK->Prop:=λx c H Q=>∃l b Y a,x=.ref l/\c=[.ref b]/\H l=some (.lst Y)/\K0 K H b a/\Y.length+a.length<=sizeLine/\Q .non (upd H l<|.lst (Y++a))
def gy:MtM X "list.extend" (nk X.K):=by
 intro g s σ H x O v T Q I w y h;obtain⟨l,b,Y,U,rfl,rfl,k,A,hz,q⟩:=h;cases w;obtain⟨u,rfl,B⟩:=y.one;cases B;obtain⟨z,a,n,r,hl,e⟩:=I.af5 k;obtain⟨d,m,⟨⟨C,vo,E,J⟩,L,N,o,p,t⟩,z2⟩:=I.list A;simp only at o p t;subst o p t;have km:=m.length;have f:a.toArray.size+d.toArray.size<=sizeLine:=by rw[aAm,aAm];lia
 have c:¬(!a.toArray.isEmpty&&aCZ (a.toArray.size+d.toArray.size))=true:=by rw[RB f,aFV];exact aAP
 refine call_meets F.slot_list_extend ⟨_,e,rfl⟩ F.entry_list_extend (F.args_list_extend_2 _ _) (QG l a.toArray n b d.toArray L J c (by rw[aAm];lia) (by lia)) ⟨e,N,?_⟩;refine⟨.non,_,I.af3 (its':=a++d) k e (by simp) (r.append m) ?_,rfl,q⟩;rw[aAE]
 lia
end
variable [Tabs]
section
def DO (i:Nat)(B:PD X e f)(I:X.N[i]?=some x:=by rfl)(J:BC X.env.scope x:=by first|exact aCw rfl|exact aBE (aCw rfl)|exact aBE (aBE rfl))(L:(x==kd)=false:=by decide)(Q:(x==ku)=false:=by decide)(T:gW (.Name x p) "extend" X.env (d3 (.Name x p) X.env)=d3 (.Name x p) X.env:=by rfl)(vv:((dq g (av [e] X.env)).all (λx=>!x.1)&&(backToKw g (keywordEach [] X.env)).all (λx=>x.1.isSome)
   &&decide ([e].length+([]:List Keyword).length+(if([]:List Keyword).isEmpty then 0 else 1)<30))=true:=by rfl) (eh:(b.endLine==g.line)=true:=by rfl) (s:av [e] X.env=(false,d3 e X.env)::av [] X.env:=by rfl) (jt:(dq g (av [] X.env)).any (·.1)=false:=by rfl) (wo:eZ (.Call (.Attribute (.Name x p) "extend" b) [e] [] g) none n.line X.env=pure false:=by rfl):
  nM X (.Expr (.Call (.Attribute (.Name x p) "extend" b) [e] [] g) n) (λρ=>(f ρ).bind (ZG i ρ)):=λH9 O0=>
 yP (oA (XB PySem.F.plainAttrs_list PySem.F.slot_list_extend PySem.F.type_list_extend gy (N0 I J L Q) (f9 B m9 s) T vv eh s jt) wo) λD σ H O ρ E fk q=>by
 cases k:f ρ with
 |ok d=>
  rw[k,R.aa0]at q;unfold ZG at q;cases h:ρ[i]? with
  |none=>rw[h]at q;exact aAi q
  |some t=>
   rw[h]at q;cases t with
   |x C=>exact aAi q
   |c m φ=>exact aAi q
   |d U=>exact aAi q
   |no=>exact aAi q
   |v d=>exact aAi q
   |o Y=>
    cases d with
    |lst ys=>
     dsimp only at q;split at q
     .rename_i hz;obtain⟨a,u,w,h2,h3,y,z⟩:=E.own i Y h;refine⟨_,w,.inl ⟨rfl,u,K0.of y⟩,H9,O0,O,ρ,E,?_⟩;show IG X H O ((f ρ).bind λd=>(R.ok []).bind λds=>.ok (d::ds)) _;rw[k];intro us H1 l r;cases r with
      |cons r rn=>
       cases rn;have E1:=E.grow l;cases r with
       |lst hb nb A=>refine⟨a,_,u,_,rfl,rfl,l _ _ y,hb,by rw[z.length,A.length];exact hz,?_⟩;obtain⟨E2,k2⟩:=E1.write h w ((z.same l).append A);exact q σ _ O E2 fk ((Kp.of l).trans k2)
     .exact aAi q
    |_=>exact aAi q
 |ex x=>
  rw[k]at q;cases h:ρ[i]? with
  |none=>exact(q H E.same).elim
  |some t=>exact(q H E.same).elim
 |bad=>rw[k]at q;exact aAi q
end
end DL
namespace TS
open PySem PyProof.Rows HT
section
def HJ (A:cp)(s:a9)(x y:ai)(b:Bool):Prop:=∀(a:bt) (w:cq) (E:E8) (Q:yG),Q b s->a5 (bc a w) A (oneLt' false x y) Q E s
def lt_two {Q:yG}(e:IsTup s.heap l #[p,r])(g:IsTup s.heap b #[a,c])(h:f=false)(k:SeqAt.EqAt A s p a e1)(m:e1=false->HJ A s p a b1)(t:e1=true->SeqAt.EqAt A s r c e2)(u:e1=true->e2=false->HJ A s r c b2)(q:Q (bif e1 then(bif e2 then false else b2)else b1) s):a5 (bc prog w) A (keyLt' (tupK f) (.ref l) (.ref b)) Q E s:=by
 obtain⟨o,v,z,n,x⟩:=e;obtain⟨B,y,C,H,d⟩:=g;subst h;rw[uK];refine aAa (aEh v x<|aAa<|aEh y d ?_);show a5 _ _ (forIn [((p,a),0),((r,c),1)] _ _>>=_) _ _ _;rw[aDb];refine aAa (aAa ?_);refine aAa (k _ _ _ _ ?_);cases e1 with
 |false=>refine aAa (m rfl _ _ _ _ ?_);exact aAb (aAb<|aAb q)
 |true=>
  refine aAb ?_;dsimp only;rw[aDb];refine aAa ?_;refine aAa (t rfl _ _ _ _ ?_);cases e2 with
  |false=>refine aAa (u rfl rfl _ _ _ _ ?_);exact aAb (aAb<|aAb q)
  |true=>refine aAb ?_;dsimp only;rw[aEb];exact aAb (aAb q)
def LQ (h:∀(prog:bt) (w:cq) (E:E8) (Q:E8),Q (.bool b) s->a5 (bc prog w) A (richCompare .Lt x y) Q E s):HJ A s x y b:=λprog w E Q q=>by rw[oneLt'_eq];simp only[aAt,if_false];exact aAa (h prog w _ _<|aBG q)
def oneLt_tup (c:IsTup s.heap l items)(d:IsTup s.heap b e)(f:IntsAre items.toList ns)(g:IntsAre e.toList h)(k:A.units<dA):HJ A s (.ref l) (.ref b) (HT.lexLt ns h):=
 LQ λa w E Q q=>HT.lt_tupInts c d f g k q
end
end TS
namespace DL
open PySem PySem.Spec L2
open PyProof.Rows hiding St
section
def qX (k:D->List Int)(d:D):List D->List D
 |[]=>[d]
 |x::Y=>if HT.lexLt (k d) (k x)=true then d::x::Y else x::qX k d Y
def fG (k:D->List Int)(ds:List D):List D:=ds.foldr (qX k) []
def rM (k:D->List Int)(ds:List D):Prop:=ds.Pairwise λx y=>HT.lexLt (k x) (k y)=true
theorem fZ (k:D->List Int)(d:D):∀Y:List D,(qX k d Y).Perm (d::Y)
 |[]=>.refl _
 |x::Y=>by
  unfold qX;split
  .exact .refl _
  .exact((fZ k d Y).cons x).trans (.swap d x Y)
theorem K5 (k:D->List Int):∀ds:List D,(fG k ds).Perm ds
 |[]=>.refl _
 |d::ds=>(fZ k d (fG k ds)).trans ((K5 k ds).cons d)
theorem yF:∀{Y:List D},rM k Y->(∀x∈Y,k x≠k d)->rM k (qX k d Y)
 |[],_,_=>aDd _ _
 |x::Y,h,n=>by
  have b:=aAs.mp h;unfold qX;split
  .rename_i lt;refine aAs.mpr ⟨λy a=>?_,h⟩;rcases aAd.mp a with rfl|a
   .exact lt
   .exact TS.lex_trans _ _ _ lt (b.1 y a)
  .rename_i c;refine aAs.mpr ⟨λy a=>?_,yF b.2 λz e=>n z (.tail _ e)⟩;rcases aAd.mp ((fZ k d Y).mem_iff.mp a)with rfl|a
   .cases q:HT.lexLt (k x) (k y)with
    |true=>rfl
    |false=>exact absurd (TS.lex_total _ _ q (by simpa using c)) (n x<|.head _)
   .exact b.1 y a
theorem kU:∀{ds:List D},(ds.map k).Nodup->rM k (fG k ds)
 |[],_=>.nil
 |d::ds,h=>by rw[aAv,aAI]at h;refine yF (kU h.2) λx a e=>h.1 ?_;rw[<-e];exact aBf ((K5 k ds).mem_iff.mp a)
theorem kS:∀{Y a:List D},rM k Y->rM k a->Y.Perm a->Y=a
 |[],a,_,_,p=>(List.nil_perm.mp p).symm
 |x::Y,[],_,_,p=>by have:=p.length_eq;simp at this
 |x::Y,y::a,f,g,p=>by
  have d:=aAs.mp f;have e:=aAs.mp g;have b:x=y:=by
   rcases aAd.mp (p.mem_iff.mp<|.head _)with q|q
   .exact q
   .rcases aAd.mp (p.mem_iff.mpr<|.head _)with c|c
    .exact c.symm
    .have:=TS.lex_trans _ _ _ (e.1 x q) (d.1 y c);rw[TS.lex_irrefl]at this;cases this
  subst b;rw[kS d.2 e.2 ((List.perm_cons x).mp p)]
def VA [Tabs]{R:ai->D->Prop}{key:ai->List Int}{k:D->List Int}{a:List ai}{ds:List D}(st:Paired R a ds)(o:a.Pairwise λx y=>HT.lexLt (key y) (key x)=false)(p:(ds.map k).Nodup)(c:∀u d,R u d->d∈ds->key u=k d):rM k ds:=by
 induction st with
 |nil=>exact .nil
 |@cons u d a ds r t q=>
  have f:=aAI.mp p;have g:=aAs.mp o;refine aAs.mpr ⟨λe s=>?_,q g.2 f.2 λu d h v=>c u d h (.tail _ v)⟩;obtain⟨j,b,rfl⟩:=aBc s;have m:j<a.length:=by rw[t.length];exact b
  obtain⟨A,n,w⟩:=F9 t (aAh m);rw[aAh b]at n;cases n;have l:=g.1 a[j] (aBR m);rw[c _ _ w (.tail _ (aBR b)),c u d r (.head _)]at l;cases z:HT.lexLt (k d) (k ds[j])with
  |true=>rfl
  |false=>exact absurd (aAp.mpr ⟨ds[j],aBR b,(TS.lex_total _ _ z l).symm⟩) f.1
def kq:D->Bool
 |.tup [p,.lst _]=>U1 p
 |_=>false
def S9:D->List Int
 |.tup (p::_)=>flat p
 |_=>[]
def cx (h:kq d=true):∃p r,d=.tup [p,.lst r]/\U1 p=true/\S9 d=flat p:=by
 unfold kq at h;split at h
 .exact⟨_,_,rfl,h,rfl⟩
 .cases h
def yq:D->R (List D)
 |.lst a=>if a.all kq=true/\(a.map S9).Nodup/\a.length<=63 then .ok (fG S9 a)else .bad
 |_=>.bad
variable [Tabs]
def FV (h:cv)(u:ai)(l:List Int):Prop:=∃b p r d,u=.ref b/\IsTup h b #[p,r]/\U1 d=true/\HV h p d/\flat d=l
def FV.inj (x:FV h u l)(y:FV h u m):l=m:=by obtain⟨b,p,r,d,rfl,⟨o,g,_,n,q⟩,_,s,rfl⟩:=x;obtain⟨v,w,z,A,e,⟨B,c,_,C,f⟩,_,a,rfl⟩:=y;cases e;rw[g]at c;cases c;rw[q]at f;injection f with t _;have k:=kb aFH t;simp only[aFJ]at k;obtain⟨rfl,_⟩:=k;rw[HV.inj s a]
def JP (h:cv) (u:ai):List Int:=open Classical in if p:∃l,FV h u l then p.choose else[]
def jE (x:FV h u l):JP h u=l:=by unfold JP;rw[dif_pos ⟨l,x⟩];exact FV.inj (Exists.choose_spec (⟨l,x⟩:∃l,FV h u l)) x
section
def OZ (I:Inv X c σ H s)(r:Rep X.K H O v d)(h:kq d=true)(f:RelV v u):FV s.heap u (S9 d):=by
 obtain⟨p,ring,rfl,e,g⟩:=cx h;cases r with
 |tup q a=>
  cases f;obtain⟨k,b,l,_⟩:=I.tuple q;cases a with
  |cons m a=>
   cases a with
   |cons n a=>
    cases a;cases b with
    |cons v1 b=>
     cases b with
     |cons o b=>cases b;exact⟨_,_,_,p,rfl,l,e,S6 I m (D6 e) v1,g.symm⟩
end
section
def DF (ha:PB X e f)(hh:X.calm=true)(hu:X.A.units+300<dA)(hg:Gl X "sorted":=by rfl)(hm:X.mg "sorted"=none:=by assumption)(hv:df "sorted"=some (.builtin "sorted"):=by decide+kernel)(he:av [e] X.env=(false,d3 e X.env)::av [] X.env:=by rfl)(bg:(dq pos (av [] X.env)).any (·.1)=false:=by rfl):
  PF X (.Call (.Name "sorted" p) [e] [] pos) (λρ=>(f ρ).bind yq):=by
 refine sG λpins s σ H Q I H9 O0 O ρ E q=>?_;dsimp only at q;refine aAL (K8 I hg hm hv ?_ (by decide) (by decide));have lb:PA X [e] _:=J0 ha aM he;refine aBo (E6 (lb pos pins s σ H (λvs H1=>∃v t,vs=[v]/\f ρ=.ok (.lst t)/\Same H H1/\A9 X.K H1 O v (.lst t)) I ⟨H9,O0,O,ρ,E,?_⟩) λus J z9=>?_) he bg
 .cases e1:f ρ with
  |ex z=>rw[e1]at q;exact q
  |bad=>rw[e1]at q;exact q.elim
  |ok d=>
   rw[e1,R.aa0]at q;cases d with
   |lst t=>exactλv H1 J r1=>⟨v,t,rfl,rfl,J,r1⟩
   |_=>exact aAi q
 .obtain⟨vs,H1,I1,r1,v,t,ev,ef,sm,rb⟩:=z9;subst ev;rw[ef,R.aa0]at q;obtain⟨a,ws,rfl,hS,rr⟩:=rb.aa3;obtain⟨u,rfl,ru⟩:=vals1 r1;cases ru;obtain⟨m,rv,⟨oL,nL,gL,cL,dL,sL⟩,zL⟩:=I1.list hS;have hl:J.heap.IsList a m.toArray:=⟨oL,gL,cL,nL,sL⟩;simp only[yq]at q;by_cases hc:t.all kq=true/\(t.map S9).Nodup/\t.length<=63
  .rw[jk hc]at q;obtain⟨ju,nd,qt⟩:=hc;have fc:∀d∈t,kq d=true:=aBt.mp ju;have st:u9 X.K H1 O m t:=u9.of rv rr;have hlen:m.length=t.length:=st.length;have B:∀u∈m,∃i d,m[i]?=some u/\t[i]?=some d/\FV J.heap u (S9 d):=λu hu=>by obtain⟨i,hi,rfl⟩:=aBc hu;obtain⟨d,Y,w,oh,rp⟩:=F9 st (aAh hi);exact⟨i,d,aAh hi,Y,OZ I1 rp (fc d<|aAn Y) oh⟩
   have keq:∀u∈m,∀u'∈m,JP J.heap u=JP J.heap u'->u=u':=λu hu u' au e=>by
    obtain⟨i,d,hi,Y,fv⟩:=B u hu;obtain⟨j,d',hj,qg,fv'⟩:=B u' au;rw[jE fv,jE fv']at e;have eij:i=j:=by obtain⟨li,ei⟩:=aAx.mp Y;obtain⟨lj,ej⟩:=aAx.mp qg;refine(List.getElem_inj (xs:=t.map S9) (i:=i) (j:=j) (h₀:=by simpa using li) (h₁:=by simpa using lj) nd).mp ?_;rw[aEq,aEq,ei,ej];exact e
    subst eij;rw[hi]at hj;cases hj;rfl
   refine TS.sorted_keys (vs:=m) (f:=false) (key:=JP J.heap) (C:=λs'=>∃h',s'={J with heap:=h'}/\∀b o,J.heap.get? b=some o->h'.get? b=some o)
    (λ{Q'} hq=>collect_list hl (hq _ ⟨_,rfl,λb o e=>?_⟩) (by rw[hlen];exact aAr qt (by decide)))
    (λs' ⟨h',U,k⟩ s6 k6 x hx y hy prog w A E hA {Q} qq=>?_) (λh2 s' ⟨h',U,k⟩ s6 k6 A {Q} qq=>?_) (by rw[hlen];lia) λs' gc h' l ⟨h1,U,k⟩ pm vf k2 hl ⟨n,gl⟩=>?_
   .exact(aAC _ _<|aCg<|aAl<|aAg e).trans (aAc _ e)
   .subst U;have kk:∀b o,J.heap.get? b=some o->s6.heap.get? b=some o:=λb o e=>k6 b o (k b o e);obtain⟨i,d,hi,Y,fv⟩:=B x hx;obtain⟨j,d',hj,qg,fv'⟩:=B y hy;have kx:=jE fv;have ky:=jE fv';have eqk:=keq x hx y hy;rw[kx,ky]at qq;rw[kx,ky]at eqk;obtain⟨b,p1,r1,d1,rfl,⟨o,g,c,n,dd⟩,N,hv1,e1⟩:=fv;obtain⟨b',p2,r2,d2,rfl,⟨o',g',c',n',zi⟩,hp2,hv2,e2⟩:=fv';have L:HV s6.heap p1 d1:=hv1.keeps λb o e _=>kk b o e;have hv2':HV s6.heap p2 d2:=hv2.keeps λb o e _=>kk b o e;have hA':A.units+8<dA:=by lia
    obtain⟨c1,i1,rfl,t1,ia1⟩:=bY N L;obtain⟨c2,i2,rfl,t2,ia2⟩:=bY hp2 hv2';rw[<-e1,<-e2]at qq eqk;refine TS.lt_two (e1:=u7 d1 d2) (e2:=true) (b1:=HT.lexLt (flat d1) (flat d2)) (b2:=false) ⟨o,kk _ _ g,c,n,dd⟩ ⟨o',kk _ _ g',c',n',zi⟩ rfl (GX L hv2' (by have:=FS N;lia)) (λ_=>TS.oneLt_tup t1 t2 ia1 ia2 (by lia)) (λeq=>?_) (λ_ z=>by cases z) ?_
    .have ed:=gB (D6 N) (D6 hp2) eq;have er:=eqk (by rw[ed]);cases er;rw[g]at g';cases g';rw[dd]at zi;injection zi with e3 _;have e4:=kb aFH e3;simp only[aFJ]at e4;rw[e4.2.1];exact aDV _
    .cases z:u7 d1 d2 with
     |false=>exact qq
     |true=>have ed:=gB (D6 N) (D6 hp2) z;rw[ed,TS.lex_irrefl]at qq;exact qq
   .subst U;have kk:∀b o,J.heap.get? b=some o->s6.heap.get? b=some o:=λb o e=>k6 b o (k b o e);have sg:∀x∈m,∃p,∃b r,x=.ref b/\IsTup s6.heap b r/\r[0]?=some p/\s6.TypeIs p "tuple":=λx hx=>by obtain⟨i,d,hi,Y,fv⟩:=B x hx;obtain⟨b,p1,r1,d1,rfl,⟨o,g,c,n,dd⟩,N,hv1,e1⟩:=fv;have L:HV s6.heap p1 d1:=hv1.keeps λb o e _=>kk b o e;obtain⟨c1,i1,rfl,⟨o1,g1,cc1,_⟩,ia1⟩:=bY N L;exact⟨_,b,_,rfl,⟨o,kk _ _ g,c,n,dd⟩,rfl,⟨o1,g1,cc1⟩⟩
    obtain⟨gf,hgf⟩:∃gf:ai->ai,∀x∈m,∃b r,x=.ref b/\IsTup s6.heap b r/\r[0]?=some (gf x)/\s6.TypeIs (gf x) "tuple":=by refine⟨λx=>open Classical in if z:x∈m then(sg x z).choose else .none,λx hx=>?_⟩;dsimp only;rw[dif_pos hx];exact(sg x hx).choose_spec
    exact TS.kind_tuples (T:= "tuple") gf hgf (λz=>by rw[z]at h2;simp at h2) (by decide) qq
   .subst U;obtain⟨me,p2,lu⟩:=Z2 pm st;have hk:∀u d,(∃v,RelV v u/\Rep X.K H1 O v d)->d∈t->JP J.heap u=S9 d:=by rintro u d ⟨v,rv,rp⟩ Y;exact jE (OZ I1 rp (fc d Y) rv)
    have uf:(me.map S9).Nodup:=(p2.map S9).nodup_iff.mpr nd;have qu:rM S9 me:=VA (R:=λu d=>∃v,RelV v u/\Rep X.K H1 O v d) lu vf uf λu d h Y=>hk u d h (p2.mem_iff.mp Y);have e2:me=fG S9 t:=kS qu (kU nd) (p2.trans (K5 S9 t).symm);subst e2;obtain⟨wv,oh,ko⟩:=u9.ab9 lu;have I2':=I1.kept (h':=h1) (t':=J.toks) k;have I3:=I2'.laid (a:=l) (o:=.lst wv) (h':=h') (t':=J.toks) k2 hl ⟨by rw[ko.length,(K5 S9 t).length_eq];exact aAr qt (by decide),gc,n,oh,gl⟩;exact⟨.ref l,_,I3,rfl,q wv _ l sm (I2'.hok.fresh hl) ko⟩
  .rw[ka hc]at q;exact q.elim
end
end
section
def rL:List Int->Int
 |[]=>0
 |a::l=>l.foldl max a
def rS:List Int->Int
 |[]=>0
 |a::l=>l.foldl min a
theorem U7:∀(l:List Int) (a:Int),(l.foldl max a=a\/l.foldl max a∈l)/\a<=l.foldl max a/\∀b∈l,b<=l.foldl max a
 |[],a=>⟨.inl rfl,aCs _,λb h=>by cases h⟩
 |c::l,a=>by
  obtain⟨d,g,f⟩:=U7 l (max a c);rw[aDt];refine⟨?_,by lia,λb e=>?_⟩
  .rcases d with d|d
   .rw[d];rcases aGu a c with q|q
    .exact .inr (by rw[Int.max_eq_right q];exact .head _)
    .exact .inl (Int.max_eq_left q)
   .exact .inr (.tail _ d)
  .rcases aAd.mp e with rfl|e
   .lia
   .exact f b e
theorem V3:∀(l:List Int) (a:Int),(l.foldl min a=a\/l.foldl min a∈l)/\l.foldl min a<=a/\∀b∈l,l.foldl min a<=b
 |[],a=>⟨.inl rfl,aCs _,λb h=>by cases h⟩
 |c::l,a=>by
  obtain⟨d,g,f⟩:=V3 l (min a c);rw[aDt];refine⟨?_,by lia,λb e=>?_⟩
  .rcases d with d|d
   .rw[d];rcases aGu a c with q|q
    .exact .inl (Int.min_eq_left q)
    .exact .inr (by rw[Int.min_eq_right q];exact .head _)
   .exact .inr (.tail _ d)
  .rcases aAd.mp e with rfl|e
   .lia
   .exact f b e
def yD (h:ns≠[]):rL ns∈ns:=by
 cases ns with
 |nil=>exact absurd rfl h
 |cons a l=>
  rcases(U7 l a).1 with q|q
  .show l.foldl max a∈_;rw[q];exact .head _
  .exact .tail _ q
def xC (h:a∈ns):a<=rL ns:=by
 cases ns with
 |nil=>cases h
 |cons b l=>
  rcases aAd.mp h with rfl|h
  .exact(U7 l a).2.1
  .exact(U7 l b).2.2 a h
def yA (h:ns≠[]):rS ns∈ns:=by
 cases ns with
 |nil=>exact absurd rfl h
 |cons a l=>
  rcases(V3 l a).1 with q|q
  .show l.foldl min a∈_;rw[q];exact .head _
  .exact .tail _ q
def wU (h:a∈ns):rS ns<=a:=by
 cases ns with
 |nil=>cases h
 |cons b l=>
  rcases aAd.mp h with rfl|h
  .exact(V3 l a).2.1
  .exact(V3 l b).2.2 a h
def GO:List D->R D
 |[.lst Y]=>match fB Y with
  |some a=>if a≠[]then .ok (.int (rL a))else .bad
  |none=>.bad
 |_=>.bad
def HP:List D->R D
 |[.lst Y]=>match fB Y with
  |some a=>if a≠[]then .ok (.int (rS a))else .bad
  |none=>.bad
 |_=>.bad
variable [Tabs]
section
def wJ (c:IntsAre its ns)(e:its.toArray=intItems b):∀i,i3 b i=ns.getD i 0:=λi=>by have a:=nums_intItems b;rw[<-e]at a;have d:=c.numsOf;rw[show its.toArray.toList=its from rfl,d]at a;rw[a];unfold i3;rw[aAq,aAG,<-aAA]
def HG (B:X.calm=true):dD X (.builtin "max") GO:=by
 intro H O h C Q fr r q;match C,q with
 |[.lst Y],q=>
  obtain⟨v,rfl,z⟩:=HR r;obtain⟨p,ws,rfl,k,l⟩:=z.aa3;simp only[GO]at q;cases e:fB Y with
  |none=>rw[e]at q;exact q.elim
  |some c=>
   rw[e]at q;dsimp only at q;by_cases d:c≠[]
   .rw[jk d]at q;rw[fP e]at l;rw[gA l]at k;refine⟨λh m n=>h=[.ref p]/\m=H/\n=Q,λo s σ m E us n I J ⟨L,N,T⟩=>?_,rfl,rfl,rfl⟩;subst L N T;obtain⟨u,rfl,U⟩:=vals1 J;cases U;obtain⟨its,r',pl,hz⟩:=I.list k;have f:=DL.P3 r';obtain⟨a,g⟩:=f.allInts.items;have w:=pl.isList;rw[g]at w;have x:a.size=c.length:=by have:=kb Array.size g;rw[aAm,f.length]at this;simpa[intItems]using this.symm
    have ue:0<c.length:=aDL.mpr d;refine max_intList (I.ok.hd B) w (by lia) λv h' tk hv hk=>?_;obtain⟨t,rfl⟩:=intItems_at hv;obtain⟨g1,y⟩:=argBest_gt (i3 a) (a.size-1);have em:i3 a (fg (λi j=>decide (i3 a i>i3 a j))<|a.size-1)=rL c:=by
     generalize fg (λi j=>decide (i3 a i>i3 a j)) (a.size-1)=b at g1 y;have m1:i3 a b∈c:=by rw[wJ f g,aAq,aAh (by lia)];exact aBR _
     have m2:=xC m1;obtain⟨j,hj,ej⟩:=aBc (yD d);have A:=y j (by lia);rw[wJ f g j,aAq,aAh hj]at A;have m4:c[j]<=i3 a b:=A
     lia
    rw[em];exact⟨.int (rL c),_,I.kept hk,⟨t,rfl⟩,q _ _ (Same.refl _) .int⟩
   .rw[ka d]at q;exact q.elim
def FX (B:X.calm=true):dD X (.builtin "min") HP:=by
 intro H O h C Q fr r q;match C,q with
 |[.lst Y],q=>
  obtain⟨v,rfl,z⟩:=HR r;obtain⟨p,ws,rfl,k,l⟩:=z.aa3;simp only[HP]at q;cases e:fB Y with
  |none=>rw[e]at q;exact q.elim
  |some c=>
   rw[e]at q;dsimp only at q;by_cases d:c≠[]
   .rw[jk d]at q;rw[fP e]at l;rw[gA l]at k;refine⟨λh m n=>h=[.ref p]/\m=H/\n=Q,λo s σ m E us n I J ⟨L,N,T⟩=>?_,rfl,rfl,rfl⟩;subst L N T;obtain⟨u,rfl,U⟩:=vals1 J;cases U;obtain⟨its,r',pl,hz⟩:=I.list k;have f:=DL.P3 r';obtain⟨a,g⟩:=f.allInts.items;have w:=pl.isList;rw[g]at w;have x:a.size=c.length:=by have:=kb Array.size g;rw[aAm,f.length]at this;simpa[intItems]using this.symm
    have ue:0<c.length:=aDL.mpr d;refine min_intList (I.ok.hd B) w (by lia) λv h' tk hv hk=>?_;obtain⟨t,rfl⟩:=intItems_at hv;obtain⟨g1,y⟩:=argBest_lt (i3 a) (a.size-1);have em:i3 a (fg (λi j=>decide (i3 a i<i3 a j))<|a.size-1)=rS c:=by
     generalize fg (λi j=>decide (i3 a i<i3 a j)) (a.size-1)=b at g1 y;have m1:i3 a b∈c:=by rw[wJ f g,aAq,aAh (by lia)];exact aBR _
     have m2:=wU m1;obtain⟨j,hj,ej⟩:=aBc (yA d);have A:=y j (by lia);rw[wJ f g j,aAq,aAh hj]at A;have m4:i3 a b<=c[j]:=A
     lia
    rw[em];exact⟨.int (rS c),_,I.kept hk,⟨t,rfl⟩,q _ _ (Same.refl _) .int⟩
   .rw[ka d]at q;exact q.elim
def RW (K:kc)(mg:dG)(x:Str)(ns:List Int):Prop:=∃a c b n d,mg x=some (.ref a)/\K.lookup a=some ⟨.type "tuple",c,.seq b n,d⟩/\l6 (ns.map V.int) b.toList/\b.size<=sizeLine
omit [Tabs]in
def bq {K:kc}{mg:dG}{x:Str}{a:bb}{b:Option bb}{n:Nat}{sl:Array (Option ai)}{i j k:Int}{t u v:Tok}(c:mg x=some (.ref a))(d:K.lookup a=some ⟨.type "tuple",b,.seq #[.int i t,.int j u,.int k v] n,sl⟩):RW K mg x [i,j,k]:=
 ⟨a,b,_,n,sl,c,d,.cons ⟨t,rfl⟩ (.cons ⟨u,rfl⟩ (.cons ⟨v,rfl⟩ .nil)),show 3<=sizeLine by decide⟩
def wF (c:RW X.K X.mg x ns)(b:Gl X x:=by rfl)(d:(x==kd)=false:=by decide):PD X (.Name x e) (XE (.tup (ns.map D.int))):=by obtain⟨a,m,f,n,o,g,h,k,l⟩:=c;exact JU g h k l b d
end
end
section
variable [Tabs]
section
variable{K:kc}
structure FunC (K:PySem.W.Frag)(x qual:Str)(st:Stmt)(f:Addr)(fd:FuncData)(cd:Addr):Prop where
 ex:∃(oc:Value) (od:Option Addr) (kV doc pm:Value) (an:Option Addr) (ct:Value) (osl:Array (Option Value)),
  fd=PySem.W.fnOf x qual (D3 st) (t6 st) (c6 st) .none kV doc pm an (.ref cd) ct/\K.lookup f=some ⟨oc,od,.func fd,osl⟩/\PySem.W.codeIn K (.ref cd) qual=true
 kp:PySem.W.keepIn K (.ref f)=true
omit [Tabs]in
def FunC.fn {x qual:Str}{st:dm}{f:bb}{fd:ek}{cd:bb}(F:FunC K x qual st f fd cd):Fun K x qual st f fd:=
 let⟨c,d,kV,a,e,g,h,b,k,l,m⟩:=F.ex
 ⟨⟨c,d,kV,a,e,g,.ref cd,h,b,k,l,m⟩,F.kp⟩
omit [Tabs]in
def SR {x qual:Str}{st:dm}{f cd:bb}{h:ai}{m d:Option bb}{b:Array (Option ai)}{kV a g T ct:ai}(l:K.lookup f=some ⟨h,m,.func (PySem.W.fnOf x qual (D3 st) (t6 st) (c6 st) .none kV a g d T ct),b⟩)
  (e:T=.ref cd) (c:PySem.W.codeIn K T qual=true) (k:PySem.W.keepIn K (.ref f)=true):FunC K x qual st f (PySem.W.fnOf x qual (D3 st) (t6 st) (c6 st) .none kV a g d T ct) cd:=by
 subst e;exact⟨⟨h,m,kV,a,g,d,ct,b,rfl,l,c⟩,k⟩
def a2o {x qual:Str}{st:dm}{f cd:bb}{fd:ek}{N ps:List Str}{k:Nat}{m:List D->R D}{F:Ev->R Out}(l:FunC K x qual st f fd cd)(S:FnScope N ps (c6 st))
  (n:∀(A:cp) (a:List Env) (s:a9) (H:Hp) (E:XK),Room k (A.deeper (envOfC qual (c6 st) s.heap.objs.size f (.ref cd)))->cE (SH P w K mg base N qual (c6 st) f (.ref cd) A a s H E) (t6 st) F)
  (p:∀ds d,ds.length=ps.length->m ds=.ok d->N6 (F (j2 N ds))=.ok d):FnOk P w K mg base tV (k+1) f fd ps (lq K ps.length m):=by
 obtain⟨oc,od,kV,t,pm,an,ct,u,rfl,v,y⟩:=l.ex;refine XS v y S (by rintro z H Q E ⟨O,ds,d,r,c,_⟩;rw[r.length];exact c) λA a s H z Q E B C=>?_;obtain⟨O,ds,d,r,c,I,J,L,e,q⟩:=C;refine⟨_,uW.nox (n A a s H E B H O),O,_,mK r I J,L,?_⟩;have h:=p ds d c e;cases g:F (j2 N ds)with
 |ok o=>
  rw[g]at h;cases o with
  |rt T=>have b:R.ok T=R.ok d:=h;injection b with b;subst b;exact q
  |nx ρ=>have b:R.ok D.non=R.ok d:=h;injection b with b;subst b;exactλaf U O' Y _ _=>q .non U Y.same .non
  |bk ρ=>cases h
  |ct ρ=>cases h
 |ex x=>rw[g]at h;cases h
 |bad=>rw[g]at h;cases h
def TX {x qual:Str}{st:dm}{f cd:bb}{fd:ek}{N ps:List Str}{k:Nat}{m:List D->R D}{F:Ev->R Out}(b:FunC K x qual st f fd cd)(S:FnScope N ps (c6 st))(c:Binds K fd ps [])(e:mg x=some (.ref f))
  (g:∀(A:cp) (a:List Env) (s:a9) (H:Hp) (E:XK),Room k (A.deeper (envOfC qual (c6 st) s.heap.objs.size f (.ref cd)))->cE (SH P w K mg base N qual (c6 st) f (.ref cd) A a s H E) (t6 st) F)
  (h:∀ds d,ds.length=ps.length->m ds=.ok d->N6 (F (j2 N ds))=.ok d):u6 P w K mg base (k+1) x ps.length m:=
 ⟨f,fd,ps,a2o b S g h,c,b.kp,e⟩
def TQ (P:bt)(w:cq)(K:kc)(mg:dG)(base:cv)(k c:Nat)(x:Str)(M:D->(List D->R D)->(List D->R D)->R D):Prop:=
 ∃g b a,FnOk P w K mg base tV k g b a (spF K (LK P w K mg base c 1) M)/\Binds K b a []/\PySem.W.keepIn K (.ref g)=true/\mg x=some (.ref g)/\a.length=3
def UO {x qual:Str}{st:dm}{f:bb}{fd:ek}{N ps:List Str}{k b:Nat}{M:D->(List D->R D)->(List D->R D)->R D}{F:Ev->R Out}(c:Fun K x qual st f fd)(S:FnScope N ps (c6 st))(e:ps.length=3)(m:Binds K fd ps [])(n:mg x=some (.ref f))
  (o:∀(T:ai) (A:cp) (a:List Env) (s:a9) (H:Hp) (E:XK),Room k (A.deeper (envOfC qual (c6 st) s.heap.objs.size f T))->cE (SH P w K mg base N qual (c6 st) f T A a s H E) (t6 st) F)
  (p:∀g h l d,M g h l=.ok d->N6 (F (lC N (LK P w K mg base b 1) g h l))=.ok d):TQ P w K mg base (k+1) b x M:=
 ⟨f,fd,ps,fnF c S e o p,m,c.kp,n,e⟩
end
section
def yC (i:Nat){Φ:(List D->R D)->Hp->(bb->Prop)->bb->Prop}(a:LK X.prog X.w X.K X.mg X.base k n=Φ)(c:KR X (e::es) f)(d:DV f n)(g:Room k X.A)(h:X.N[i]?=some x:=by rfl)(l:BC X.env.scope x:=by first|exact aCw rfl|exact aBE (aCw rfl)|exact aBE (aBE rfl))(m:(x==kd)=false:=by decide)(o:(x==ku)=false:=by decide)(q:av (e::es) X.env=(false,d3 e X.env)::av es X.env:=by rfl)(r:(dq b (av es X.env)).any (·.1)=false:=by rfl):
  PD X (.Call (.Name x p) (e::es) [] b) (callC Φ i f):=by
 subst a;exact QE i c d g h l m o q r
def EM (s:NstOk X k n1)(t:NstOk X k n2)(u:ClosOk X n1 clos1)(v:ClosOk X n2 clos2)(z:∀x b,(x,b)∈clos1++clos2->X.env.cells.lookup x=some b)(B:jI X.mg X.base)(C:X.env.code=.ref c)(E:PySem.W.codeHdIn X.K c H=true)(l:(H,tb)∈Tabs.tbs)(m:(n1.pos,n1.qual)∈tb)(I:(n2.pos,n2.qual)∈tb)(J:∀p∈tb,p.1.line=n1.pos.line->p.1.col=n1.pos.col->p.2=n1.qual)(n:∀p∈tb,p.1.line=n2.pos.line->p.1.col=n2.pos.col->p.2=n2.qual)(L:n1.i≠n2.i)(O:X.N.Nodup)(Q:TQ X.prog X.w X.K X.mg X.base T (k+1) x M)(U:Room T X.A)(Y:PD X e f)(xt:∀y,X.fn y=true)(hg:Gl X x:=by rfl)(ia:(x==kd)=false:=by decide)(za:av [e,.Name n1.name h,.Name n2.name a] X.env=(false,d3 e X.env)::av [.Name n1.name h,.Name n2.name a] X.env:=by rfl)(zh:av [.Name n1.name h,.Name n2.name a] X.env=(false,d3 (.Name n1.name h) X.env)::av [.Name n2.name a] X.env:=by rfl)(o:av [.Name n2.name a] X.env=(false,d3 (.Name n2.name a) X.env)::av [] X.env:=by rfl)(bg:(dq q (av [.Name n1.name h,.Name n2.name a] X.env)).any (·.1)=false:=by rfl):
  cE X [n1.stmt,n2.stmt,.Return (some (.Call (.Name x p) [e,.Name n1.name h,.Name n2.name a] [] q)) r] (λρ=>((f ((ρ.set n1.i .no).set n2.i .no)).bind λd1=>(dU n1.js ((ρ.set n1.i .no).set n2.i .no)).bind λw1=>(dU n2.js ((ρ.set n1.i .no).set n2.i .no)).bind λw2=>M d1 (n1.mm w1) (n2.mm w2)).bind λd=>.ok (.rt d)):=by
 obtain⟨g,gd,ps,FF,hb,hk,hm,h3⟩:=Q;exact IX s t u v z B C E l m I J n L O FF U hm hk hb h3 Y xt hg ia za zh o bg
end
end
end DL
namespace DL
open PySem L2
def _root_.L2.Room.ae2 (r:Room k A):A.units+130<dA:=by have:=r.un;lia
def _root_.L2.Room.ad2 (r:Room k A)(h:7<=k):A.units+300<dA:=by have:=r.un;lia
def IV {y:Str}{c:bb}{a:List (Str×bb)}(h:a.lookup y=some c:=by rfl):∀(x:Str) (b:bb),(x,b)∈[(y,c)]++[(y,c)]->a.lookup x=some b:=λx b d=>by
 have:(x,b)=(y,c):=by simpa using d
 injection this with e f;subst e f;exact h
def GN {sc:i6}{fn:List Str}{x:Str}(h:sc.names.lookup x=some .free)(a:(sc.names.all λp=>p.2 !=.free||fn.contains p.1)=true:=by decide+kernel):x∈fn:=by have b:=aBt.mp a _ (PySem.mem_of_lookup h);simpa using b
def ID:dm->Pos
 |.FunctionDef _ _ _ _ _ _ _ _ _ p=>p
 |_=>⟨0,0,0,0⟩
end DL
namespace M
open PySem L2 DL
def rH:D->Option G.V
 |.tup [.int a,.int b,.int c]=>some ⟨a,b,c⟩
 |_=>none
@[simp]def oD (v:G.V):rH (vd v)=some v:=rfl
def lN (h:rH d=some v):d=vd v:=by
 unfold rH at h;split at h
 .cases h;rfl
 .cases h
def D1:List D->Option (List G.V)
 |[]=>some []
 |d::a=>match rH d,D1 a with
  |some v,some b=>some (v::b)
  |_,_=>none
@[simp]theorem o7:∀vs:List G.V,D1 (vs.map vd)=some vs
 |[]=>rfl
 |v::vs=>by rw[aAv,D1,oD,o7 vs]
theorem n4:∀{ds:List D} {vs:List G.V},D1 ds=some vs->ds=vs.map vd
 |[],vs,h=>by cases h;rfl
 |d::ds,vs,h=>by
  unfold D1 at h;split at h
  .rename_i v c a b;cases h;rw[lN a,n4 b];rfl
  .cases h
def wD (h:vd u=vd v):u=v:=by
 have:rH (vd u)=rH (vd v):=by rw[h]
 simpa using this
def VN {u v:List G.V}(h:u.map vd=v.map vd):u=v:=by
 have:D1 (u.map vd)=D1 (v.map vd):=by rw[h]
 simpa using this
def R1 (n:Nat)(J:List G.V):Prop:=(∀P∈J,Sz n P)/\J.length<=1000
def BI:Option G.V->D
 |some v=>vd v
 |none=>.non
def A4:List D->R D
 |[.lst Y]=>match D1 Y with
  |some a=>.ok (BI (G.B4 a))
  |none=>.bad
 |_=>.bad
open Classical in
def u4:List D->R D
 |[.lst Y]=>match D1 Y with
  |some J=>if J≠[]/\R1 1000 J then .ok (.int (G.K6 J))else .bad
  |none=>.bad
 |_=>.bad
open Classical in
def F4:List D->R D
 |[.lst Y]=>match D1 Y with
  |some J=>if R1 1000 J/\G.K6 J=3 then .ok .non else .bad
  |none=>.bad
 |_=>.bad
open Classical in
def A1:List D->R D:=v4 λa b c d=>SE λY=>oV (match D1 Y with
 |some J=>if Sz 10000 ⟨a,b,c⟩/\R1 1000 J then .ok (.lst ((G.y7 ⟨a,b,c⟩ d J).map vd))else .bad
 |none=>.bad)
open Classical in
def F1:List D->R D:=SB λg=>SE λY=>oV ((v1 λa b c=>v1 λd e f=>oV (match D1 Y with
 |some J=>if Sz 1000 ⟨a,b,c⟩/\Sz 1000 ⟨d,e,f⟩/\R1 1000 J/\G.dI (G.b7 ⟨a,b,c⟩ ⟨d,e,f⟩ J).1 then .ok (xS (G.b7 ⟨a,b,c⟩ ⟨d,e,f⟩ J).1 (G.b7 ⟨a,b,c⟩ ⟨d,e,f⟩ J).2)else .bad
 |none=>.bad)) g)
abbrev G3 (p:G.V×G.V):D:=.tup [vd p.1,vd p.2]
structure Land (J:List G.V)(m:G.V):Prop where
 good:G.Good J m
 sz:R1 900 J
 few:J.length<=63
 head:J.head?=some m
open Classical in
def G8:List D->R D
 |[.lst Y]=>match D1 Y with
  |some (m::J)=>if Land (m::J) m then .ok (G3 (G.e9 m (m::J)))else .bad
  |_=>.bad
 |_=>.bad
open Classical in
def fV:List D->R D:=v1 λa b c=>v1 λd e f=>v1 λg h i=>v1 λj k l=>oV (
 if Sz 10000 ⟨a,b,c⟩/\Sz 1000 ⟨d,e,f⟩/\Sz 1000 ⟨g,h,i⟩/\Sz 1000 ⟨j,k,l⟩then .ok (.int (G.turn ⟨a,b,c⟩ ⟨d,e,f⟩ ⟨g,h,i⟩ ⟨j,k,l⟩))else .bad)
open Classical in
def U0:List D->R D:=v1 λa b c=>SE λY=>oV (match D1 Y with
 |some J=>if Sz 10000 ⟨a,b,c⟩/\R1 1000 J then .ok (.lst ((G.w6 ⟨a,b,c⟩ J).reverse.map vd))else .bad
 |none=>.bad)
open Classical in
def P1:List D->R D:=v1 λa b c=>SE λY=>oV (match D1 Y with
 |some J=>if Sz 10000 ⟨a,b,c⟩/\R1 1000 J then .ok (.lst ((G.k7 ⟨a,b,c⟩ J).map vd))else .bad
 |none=>.bad)
def A2:List D->R D
 |[.lst Y]=>match D1 Y with
  |some J=>if J.length<=3000 then .ok (.lst ((G.V8 J).map G3))else .bad
  |none=>.bad
 |_=>.bad
abbrev n9 (J:List G.V)(f:G.V×Int):D:=.tup [xS f.1 f.2,.lst ((G.l7 J f).map vd)]
def eJ (J:List G.V)(fs:List (G.V×Int)):Prop:=(∀f,f∈fs↔G.IsFace J f.1 f.2)/\rM S9 (fs.map<|n9 J)
open Classical in
def j9 (J:List G.V):List (G.V×Int):=if h:∃fs,eJ J fs then h.choose else[]
def J3:List D->List D->R D
 |[w],[_]=>.ok w
 |_,_=>.bad
def D5:List D->List D->R D
 |[w],[p]=>A1 [p,w]
 |_,_=>.bad
open Classical in
def I9 (d:D) (a b:List D->R D):R D:=match a [.non]with
 |.ok (.lst Y)=>match D1 Y with
  |some (m::J)=>if Land (m::J) m/\(m::J).length<=14/\d=G3 (G.e9 m (m::J))/\a=J3 [.lst Y]/\b=D5 [.lst Y]then .ok (.lst ((j9 (m::J)).map (n9 (m::J))))else .bad
  |_=>.bad
 |_=>.bad
def d7 (J:List G.V):List G.V:=(T5<|J.map vd).filterMap rH
open Classical in
def Y0:List D->R D
 |[.lst Y]=>match D1 Y with
  |some J=>if R1 900 J/\G.j8 J/\(d7 J).length<=14 then .ok (.lst ((j9 (d7 J)).map (n9 (d7 J))))else .bad
  |none=>.bad
 |_=>.bad
def ZY:D->Option (List G.V)
 |.tup [_,.lst Y]=>D1 Y
 |_=>none
def vF:List D->Option (List (List G.V))
 |[]=>some []
 |d::a=>match ZY d,vF a with
  |some v,some b=>some (v::b)
  |_,_=>none
open Classical in
def G5:List D->R D
 |[.lst Y]=>match vF Y with
  |some a=>if a.flatten.length<=3000/\(d7 a.flatten).length<=63 then .ok (.lst ((d7 a.flatten).map vd))else .bad
  |none=>.bad
 |_=>.bad
def p6 (J:List G.V):List G.V:=d7 ((j9<|d7 J).flatMap (G.l7<|d7 J))
open Classical in
def L6:List D->R D
 |[.lst Y]=>match D1 Y with
  |some J=>if R1 900 J/\G.j8 J/\(d7 J).length<=14 then .ok (.lst ((p6 J).map vd))else .bad
  |none=>.bad
 |_=>.bad
def ne0 (v:G.V):xT (vd v) (.tup [.int 0,.int 0,.int 0])=.ok (.bl (!decide (v=0))):=by rw[mI];congr 3;rw[aDa];simp only[aAM,beq_iff_eq,decide_eq_true_eq,G.qC];exact⟨λh=>h,λh=>h⟩
def eq0 (v:G.V):DI (vd v) (.tup [.int 0,.int 0,.int 0])=.ok (.bl (decide (v=0))):=by rw[aw];congr 2;rw[aDa];simp only[aAM,beq_iff_eq,decide_eq_true_eq,G.qC];exact⟨λh=>h,λh=>h⟩
def M4 (a:G d ρ=.ok ρ1)(b:F ρ1=.ok (.nx ρ2)):G1 G F (d::ds) ρ=G1 G F ds ρ2:=by rw[G1,a];dsimp only;rw[b]
def kJ (a:G d ρ=.ok ρ1)(b:F ρ1=.ok (.rt x)):G1 G F (d::ds) ρ=.ok (.rt x):=by rw[G1,a];dsimp only;rw[b]
theorem L5 {α:Type}(rep:α->D)(p:α->Bool)(g:α->D):∀(l:List α),(∀a∈l,∃ρ1,G (rep a) ρ=.ok ρ1/\ft ρ1=.ok (p a)/\(p a=true->fe ρ1=.ok (g a)))->u8 G ft fe ρ (l.map rep)=.ok ((l.filter p).map g)
 |[],_=>rfl
 |a::l,h=>by
  obtain⟨ρ1,d,e,f⟩:=h a (.head _);have k:=L5 rep p g l λb m=>h b (.tail _ m);rw[aAv,u8,d];dsimp only;rw[e,R.aa0,k];cases c:p a with
  |false=>rw[ka (by decide),List.filter_cons_of_neg (by simp[c])]
  |true=>rw[jk rfl,f c,R.aa0,R.aa0,List.filter_cons_of_pos c];rfl
def G4 {α:Type}(rep:α->D)(g:α->D)(l:List α)(h:∀a∈l,∃ρ1,G (rep a) ρ=.ok ρ1/\fe ρ1=.ok (g a)):u8 G (λ_=>.ok true) fe ρ (l.map rep)=.ok (l.map g):=by
 have:=L5 rep (G:=G) (ft:=λ_=>.ok true) (fe:=fe) (ρ:=ρ) (λ_=>true) g l λa b=>let⟨ρ1,c,d⟩:=h a b;⟨ρ1,c,rfl,λ_=>d⟩
 rw[this,List.filter_eq_self.mpr λ_ _=>rfl]
def small (h:n<=1000):n<=sizeLine:=aAr h (by decide)
def ML (h:n<=3000):n<=sizeLine:=aAr h (by decide)
def R1.sub (h:R1 n J)(b:∀P∈a,P∈J)(c:a.length<=J.length):R1 n a:=⟨λP d=>h.1 P (b P d),aAr c h.2⟩
def R1.mono (h:R1 m J)(a:m<=n:=by decide):R1 n J:=⟨λP b=>(h.1 P b).mono a,h.2⟩
def a2g (t:Int):(sgn t==0)=decide (t=0):=by
 unfold sgn;by_cases h:0<t
 .rw[jk h];simp;lia
 .rw[ka h];by_cases a:t<0
  .rw[jk a];simp;lia
  .rw[ka a];simp;lia
def kB (a:Sz 10000 n)(b:R1 1000 J):A1 [xS n d,.lst (J.map vd)]=.ok (.lst ((G.y7 n d J).map vd)):=by simp only[A1,v4,SB,BH,SE,oV,o7];exact jk ⟨a,b⟩
def PR (a:J≠[])(b:R1 1000 J):u4 [.lst (J.map vd)]=.ok (.int (G.K6 J)):=by simp only[u4,o7];exact jk ⟨a,b⟩
def CW (ws:List G.V):A4 [.lst (ws.map vd)]=.ok (BI (G.B4 ws)):=by simp only[A4,o7]
def DB (bs:List Bool):fA (bs.map D.bl)=some bs:=by
 induction bs with
 |nil=>rfl
 |cons b bs a=>rw[aAv,fA,a];rfl
def gk (bs:List Bool):anyR [.lst (bs.map D.bl)]=.ok (.bl (bs.any id)):=by simp only[anyR,DB]
def UD (Y:List D):LM (.lst Y) none (some (-1))=.ok (.lst Y.dropLast):=by
 show R.ok (D.lst<|cutD Y none<|some (-1))=_;unfold cutD HT.sIx;rw[aEk];simp;congr 1
 lia
def UG (Y:List D):LM (.lst Y) (some 1) none=.ok (.lst Y.tail):=by
 show R.ok (D.lst<|cutD Y (some 1) none)=_;unfold cutD HT.sIx;cases Y with
 |nil=>rfl
 |cons a l=>simp
def fq (Y:List D):LM (.lst Y) none (some 1)=.ok (.lst (Y.take 1)):=by
 show R.ok (D.lst<|cutD Y none<|some 1)=_;unfold cutD HT.sIx;cases Y with
 |nil=>rfl
 |cons a l=>simp
def XF (Y:List D)(a b:D):rG (Y++[a,b]) (-1)=some b:=by
 have c:(Y++[a,b]).length=Y.length+2:=by simp
 unfold rG IN;rw[c,ka (by decide),jk (by lia)];show(Y++[a,b])[((-1:Int)+((Y.length+2:Nat):Int)).toNat]?=_;have:((-1:Int)+((Y.length+2:Nat):Int)).toNat=Y.length+1:=by lia
 rw[this,aAz (by lia),show Y.length+1-Y.length=1 by lia];rfl
def XA (Y:List D)(a b:D):rG (Y++[a,b]) (-2)=some a:=by
 have c:(Y++[a,b]).length=Y.length+2:=by simp
 unfold rG IN;rw[c,ka (by decide),jk (by lia)];show(Y++[a,b])[((-2:Int)+((Y.length+2:Nat):Int)).toNat]?=_;have:((-2:Int)+((Y.length+2:Nat):Int)).toNat=Y.length:=by lia
 rw[this,aAz (by lia),Nat.sub_self];rfl
def zq (a:D)(Y:List D):rG (a::Y) 0=some a:=by rw[aL (by decide)];rfl
def tz (a b:D)(Y:List D):rG (a::b::Y) 1=some b:=by rw[aL (by decide)];rfl
def SJ {P Q R:G.V}(h:G.dI (G.d5 P Q R).1):G.cr (Q-P) (R-P)≠0:=λe=>by
 have:(G.d5 P Q R).1=0:=by show G.dE (G.cr (Q-P)<|R-P) _=0;rw[e];rfl
 rw[this]at h;unfold G.dI at h;exact absurd h (by decide)
theorem yT:∀{c:List G.V},(G.Y9 n P c).length<=c.length
 |[]=>aAj _
 |[a]=>aAj _
 |b::a::r=>by
  unfold G.Y9;split
  .exact aAr (yT (c:=a::r)) (by simp)
  .exact aAj _
theorem qW:∀(a c:List G.V),(a.foldl (λc P=>P::G.Y9 n P c) c).length<=a.length+c.length
 |[],c=>by simp
 |P::a,c=>by refine aAr (qW a _) ?_;have:=yT (n:=n) (P:=P) (c:=c);simp;lia
def uU (n:G.V)(ps:List G.V):(G.w6 n ps).length<=ps.length:=by simpa[G.w6]using qW (n:=n) ps []
theorem vE {α β:Type}(f:α->D):∀(Y a:List α),lS (Y.map f) (a.map f)=(Y.zip a).map λp=>D.tup [f p.1,f p.2]
 |[],_=>by simp[lS]
 |_::_,[]=>by simp[lS]
 |x::Y,y::a=>by have:=vE (β:=β) f Y a;simp only[lS]at this⊢;simp[this]
def XH (a:Sz 10000 n)(b:R1 1000 J):U0 [vd n,.lst (J.map vd)]=.ok (.lst ((G.w6 n J).reverse.map vd)):=by simp only[U0,v1,SB,BH,SE,oV,o7];exact jk ⟨a,b⟩
def HI {n P Q R:G.V}(h:Sz 10000 n)(a:Sz 1000 P)(b:Sz 1000 Q)(c:Sz 1000 R):fV [vd n,vd P,vd Q,vd R]=.ok (.int (G.turn n P Q R)):=jk ⟨h,a,b,c⟩
def X6 (a:Sz 1000 A)(b:Sz 1000 B)(c:R1 1000 J)(d:G.dI (G.b7 A B J).1):F1 [.tup [vd A,vd B],.lst (J.map vd)]=.ok (xS (G.b7 A B J).1 (G.b7 A B J).2):=by simp only[F1,v1,SB,BH,SE,oV,o7];exact jk ⟨a,b,c,d⟩
def VU (a:Sz 10000 n)(b:R1 1000 J):P1 [vd n,.lst (J.map vd)]=.ok (.lst ((G.k7 n J).map vd)):=by simp only[P1,v1,SB,BH,SE,oV,o7];exact jk ⟨a,b⟩
def NV (h:J.length<=3000):A2 [.lst (J.map vd)]=.ok (.lst ((G.V8 J).map G3)):=by simp only[A2,o7];exact jk h
def HN (h:a.length+b.length<=sizeLine):jF (.lst a) (.lst b)=.ok (.lst (a++b)):=jk h
def PZ (a b:G.V):HT.lexLt (flat (vd a)) (flat (vd b))=true↔G.f7 (b-a):=by
 show HT.lexLt [a.x,a.y,a.z] [b.x,b.y,b.z]=true↔_;unfold G.f7;simp only[HT.lexLt,G.WM,G.XV,G.XU];by_cases c:a.x=b.x
 .by_cases d:a.y=b.y
  .by_cases e:a.z=b.z
   .simp[c,d,e]
   .simp[c,d,e];try lia
  .simp[c,d];try lia
 .simp[c];try lia
def CU {J:List G.V}(h:J.Pairwise λa b=>G.f7 (b-a)):LU (J.map vd):=aBF.mpr (h.imp λ{a b} q=>(PZ a b).mpr q)
def ZD {J:List G.V}(h:LU (J.map vd)):J.Pairwise λa b=>G.f7 (b-a):=(aBF.mp h).imp λ{a b} q=>(PZ a b).mp q
def CF (J:List G.V):(J.map vd).all U1=true:=aBt.mpr λd a=>by obtain⟨v,_,rfl⟩:=aAp.mp a;rfl
def YF [Tabs]{m:G.V}{J:List G.V}(h:(m::J).Pairwise λa b=>G.f7 (b-a)):ON [.lst ((m::J).map vd)]=.ok (vd m):=by show(if(m::J).map vd≠[]/\((m::J).map vd).all U1=true then _ else _)=_;rw[jk ⟨by simp,CF _⟩,UQ (CU h) _ (by simp)];rfl
def pA {P Q R:G.V}(p:Sz 1000 P)(q:Sz 1000 Q)(r:Sz 1000 R):Sz 2003 (G.d5 P Q R).1:=by
 have a:=(q.sub p).cr (r.sub p);by_cases c:G.cr (Q-P) (R-P)=0
 .have:(G.d5 P Q R).1=0:=by show G.dE (G.cr (Q-P)<|R-P) _=0;rw[c];rfl
  rw[this];exact⟨by decide,by decide,by decide⟩
 .obtain⟨g,h,k⟩:=G.fM c;have d:=bits_fdiv (b:=(G.q9 (G.cr (Q-P)<|R-P):Int)) a.1;have e:=bits_fdiv (b:=(G.q9 (G.cr (Q-P)<|R-P):Int)) a.2.1;have f:=bits_fdiv (b:=(G.q9 (G.cr (Q-P)<|R-P):Int)) a.2.2;rw[eM g]at d e f;exact⟨d,e,f⟩
def zD {A B:G.V}{J:List G.V}(p:Sz 1000 A)(q:Sz 1000 B)(r:R1 1000 J):Sz 2003 (G.b7 A B J).1:=by
 unfold G.b7;rcases G.kX (a:=B-A) (A:=A) J 0 A with h|h
 .exact pA p q (r.1 _ h)
 .rw[h];exact pA p q p
def tq (m:G.V):vd (m+G.kk)=.tup [.int m.x,.int m.y,.int (m.z+1)]:=by simp[G.kk]
def LO (h:Sz 900 m):Sz 1000 (m+G.kk):=(h.add (v:=G.kk) ⟨by decide,by decide,by decide⟩).mono
def LX (h:R1 k J):R1 k (G.y7 n d J):=h.sub (λP a=>(G.d6.mp a).1) (aFK _ _)
def QY {α:Type}{l:List α}{a b:α}(c:a∈l)(d:b∈l)(h:a≠b):∃x y r,l=x::y::r:=by
 match l,c,d with
 |[x],c,d=>exact absurd ((aBm.mp c).trans (aBm.mp d).symm) h
 |x::y::r,_,_=>exact⟨x,y,r,rfl⟩
open Classical in
def W7 {U:List (D×D)}{k v a:D}:a∈(Y8 U k v).map (·.1)↔a∈U.map (·.1)\/a=k:=by
 unfold Y8;split
 .rename_i h;rw[aBn];have:((λx=>x.1)∘λp:D×D=>if p.1=k then(p.1,v)else p)=λp=>p.1:=by funext p;simp only[Function.comp];split<;>rfl
  rw[this];exact⟨.inl,λq=>q.elim id λe=>by rw[e];exact h⟩
 .rw[aCd,aAN];simp
def MB {U:List (D×D)}{k v:D}:(Y8 U k v).length<=U.length+1:=by
 unfold Y8;split
 .simp
 .simp
def VB {p q:G.V×G.V}(h:G3 p=G3 q):p=q:=by injection h with h;injection h with b a;injection a with a _;exact aFl (wD b) (wD a)
def FA (p:G.V×G.V):S5 7 (G3 p)=true/\KO (G3 p)=true:=⟨rfl,rfl⟩
def ffC:Ev->R Bool:=λρ=>((((rJ 5 ρ).bind λd=>R.ok [d]).bind IM).bind λx=>ZO x (D.int 0)).bind qZ
def ffS:Ev->R Out:=λρ=>
 D9 ((T0 9 ρ).bind λa=>uQ 4 ρ a (D.bl true)) λρ=>((((rJ 9 ρ).bind λx=>T8 x (D.int 1)).bind λd=>(((rJ 9 ρ).bind λx=>T8 x (D.int 0)).bind λd=>R.ok [d]).bind λb=>R.ok (d::b)).bind dF).bind (AD 5 ρ)
theorem FE {a0 a1 a2 a3 a6 a7 a8:Sl}:∀(a:List (G.V×G.V)) (U:List (D×D)) (W:List (G.V×G.V)) (f:Sl),U.length+a.length<=10000->W.length+a.length<=10000->
  ∃c b,G1 (λd ρ=>R.ok (aCA ρ 9 (Sl.v d))) ffS (a.map G3) [a0,a1,a2,a3,.d U,.o (W.map G3),a6,a7,a8,f]=.ok (.nx [a0,a1,a2,a3,.d c,.o ((W++a.map λq=>(q.2,q.1)).map G3),a6,a7,a8,b])/\
   (∀e:G.V×G.V,G3 e∈c.map (·.1)↔G3 e∈U.map (·.1)\/e∈a)/\c.length<=U.length+a.length
 |[],U,W,f,_,_=>⟨U,f,by simp,λe=>by simp,by simp⟩
 |q::a,U,W,f,g,n=>by
  simp only[aAw]at g n;have w:=MB (U:=U) (k:=G3 q) (v:=.bl true);obtain⟨c,b,e,m,l⟩:=FE a (Y8 U (G3 q)<|.bl true) (W++[(q.2,q.1)]) (.v (G3 q)) (by lia) (by simp;lia);refine⟨c,b,?_,λx=>?_,by simp;lia⟩
  .rw[aAv];refine(M4 (ρ2:=[a0,a1,a2,a3,.d (Y8 U (G3 q)<|.bl true),.o ((W++[(q.2,q.1)]).map G3),a6,a7,a8,.v (G3 q)]) rfl ?_).trans ?_
   .have p:U.length<=sizeLine:=aAr (show U.length<=10000 by lia) (by decide);have r:(W.map G3).length<sizeLine:=by rw[aAf];exact aCN (show W.length<=10000 by lia) (by decide)
    have s:uQ 4 [a0,a1,a2,a3,.d U,.o (W.map G3),a6,a7,a8,.v (G3 q)] (G3 q) (.bl true)=.ok (.nx [a0,a1,a2,a3,.d (Y8 U (G3 q)<|.bl true),.o (W.map G3),a6,a7,a8,.v (G3 q)]):=by show(if _ then _ else _)=_;rw[jk ⟨(FA q).1,(FA q).2,p⟩];rfl
    have t:AD 5 [a0,a1,a2,a3,.d (Y8 U (G3 q)<|.bl true),.o (W.map G3),a6,a7,a8,.v (G3 q)] (G3 (q.2,q.1))=.ok (.nx [a0,a1,a2,a3,.d (Y8 U (G3 q)<|.bl true),.o ((W++[(q.2,q.1)]).map G3),a6,a7,a8,.v (G3 q)]):=by show(if _ then _ else _)=_;rw[jk r,aCd];rfl
    show D9 ((R.ok<|G3 q).bind λu=>uQ 4 [a0,a1,a2,a3,.d U,.o (W.map G3),a6,a7,a8,.v (G3 q)] u (D.bl true)) _=_;rw[R.aa0,s];exact t
   .rw[e];simp
  .rw[m x,W7,aAd];constructor
   .rintro((h|h)|h)
    .exact .inl h
    .exact .inr (.inl (VB h))
    .exact .inr (.inr h)
   .rintro(h|h|h)
    .exact .inl (.inl h)
    .exact .inl (.inr (by rw[h]))
    .exact .inr h
section
variable(Φ:(List D->R D)->Hp->(bb->Prop)->bb->Prop)
def ffB:Ev->R Out:=λρ=>
 D9 ((EC 5 ρ).bind λz=>R.ok (Out.nx<|aCA z.snd 6<|Sl.v z.fst)) λρ=>
  ((T0 6 ρ).bind (pJ 4 ρ)).bind λt=>
   if t=true then
    D9
     ((((T0 6 ρ).bind λd=>((callC Φ 1 (q8 (λρ=>(rJ 6 ρ).bind λx=>T8 x (D.int 0)) R5) ρ).bind λd=>R.ok [d]).bind λa=>R.ok (d::a)).bind F1).bind λd=>R.ok (Out.nx<|aCA ρ 7<|Sl.v d))
     λρ=>
     D9
      (((((rJ 7 ρ).bind λx=>LM x none (some 3)).bind λd=>((callC Φ 2 (q8 (T0 7) R5) ρ).bind λd=>R.ok [d]).bind λa=>R.ok (d::a)).bind P1).bind λd=>R.ok (Out.nx<|aCA ρ 8<|Sl.v d))
      λρ=>
      D9 ((((T0 7 ρ).bind λd=>((T0 8 ρ).bind λd=>R.ok [d]).bind λa=>R.ok (d::a)).bind dF).bind (AD 3 ρ))
       λρ=>((((T0 8 ρ).bind λd=>R.ok [d]).bind A2).bind M3).bind λa=>G1 (λd ρ=>R.ok (aCA ρ 9<|Sl.v d)) ffS a ρ
   else R.ok (Out.nx ρ)
def AE (L:D) (e:G.V×G.V) (fs:List D) (U:List (D×D)) (W:List (G.V×G.V)) (a b c d:Sl):Ev:=
 [Sl.v (G3 e),Sl.c (J3 [L]) (Φ<|J3 [L]),Sl.c (D5 [L]) (Φ<|D5 [L]),.o fs,.d U,.o (W.map G3),a,b,c,d]
end
def yQ {Φ:(List D->R D)->Hp->(bb->Prop)->bb->Prop}{i:Nat}{f:Ev->R (List D)}{ρ:Ev}{m:List D->R D}{ds:List D}(h:ρ[i]?=some (.c m (Φ m)))(a:f ρ=.ok ds):callC Φ i f ρ=m ds:=by unfold callC;rw[h];dsimp only;rw[jk rfl,a];rfl
def iD (J:List G.V)(fs:List (G.V×Int)):Nat:=(fs.map λf=>(G.l7 J f).length).sum
def fX (J:List G.V)(fs:List (G.V×Int))(f:G.V×Int):iD J (fs++[f])=iD J fs+(G.l7 J f).length:=by simp[iD]
def NL {J:List G.V}{m:G.V}(h:Land J m):Sz 1000 (G.e9 m J).1/\Sz 1000 (G.e9 m J).2:=by
 have a:Sz 900 m:=h.sz.1 m h.good.mem;obtain⟨k,d,e,f,g⟩:=G.xY h.good.solid h.good.mem h.good.least;unfold G.e9;dsimp only;split
 .exact⟨a.mono,LO a⟩
 .obtain⟨x,y,r,b⟩:=QY d f g;rw[b];have q:∀z∈x::y::r,Sz 1000 z:=λz c=>by rw[<-b]at c;exact(h.sz.1 z (G.d6.mp c).1).mono
  exact⟨q x (.head _),q y (.tail _ (.head _))⟩
def VR {J:List G.V}{m:G.V}(h:Land J m){fs:List (G.V×Int)}{b:G.V×G.V->Prop}{W:List (G.V×G.V)}(L:G.LInv J (G.e9 m J) fs b W){p:G.V×G.V}(c:p∈W):Sz 1000 p.1/\Sz 1000 p.2:=by
 rcases L.wt p c with⟨f,d,g⟩|⟨_,e⟩
 .have S:=(L.face f d).aa2 h.good.ord;have a:=S.aa1.mp g;exact⟨(h.sz.1 _ (G.d6.mp a.q).1).mono,(h.sz.1 _ (G.d6.mp a.p).1).mono⟩
 .rw[e];exact NL h
def NJ {J:List G.V}{m:G.V}(h:Land J m){f:G.V×Int}(a:G.IsFace J f.1 f.2):(G.l7 J f).length<=J.length:=by have S:=a.aa2 h.good.ord;exact G.P4 S.aa5 λx b=>(G.d6.mp<|S.aa4 b).1
def zV {J:List G.V}{f g:G.V×Int}(h:S9 (n9 J f)=S9 (n9 J g)):f=g:=by have h:[f.1.x,f.1.y,f.1.z,f.2]=[g.1.x,g.1.y,g.1.z,g.2]:=h;simp only[aFJ,and_true]at h;exact aFl (G.ext h.1 h.2.1 h.2.2.1) h.2.2.2
def sQ {α β:Type}{f:α->β}(c:∀a b,f a=f b->a=b){l:List α}(h:l.Nodup):(l.map f).Nodup:=aBF.mpr (h.imp λ{a b} n e=>n (c a b e))
def UU {Φ:(List D->R D)->Hp->(bb->Prop)->bb->Prop}{J:List G.V}{m:G.V}(hz:Land J m){fs:List (G.V×Int)}{U:List (D×D)}{W:List (G.V×G.V)}{a b c d:Sl}(L:G.LInv J (G.e9 m J) fs (λe=>G3 e∈U.map (·.1)) W)
  (hk:U.length<=iD J fs) (hW:W.length<=1+iD J fs) {n:Nat} (hn:W.length+(J.length*J.length-iD J fs)<n+1) (ag:W≠[]):
  ∃r s W' a' b' c' d',ffB Φ (AE Φ (.lst (J.map vd)) (G.e9 m J) (fs.map (n9 J)) U W a b c d)=.ok (.nx (AE Φ (.lst (J.map vd)) (G.e9 m J) (r.map (n9 J)) s W' a' b' c' d'))/\
   G.LInv J (G.e9 m J) r (λe=>G3 e∈s.map (·.1)) W'/\s.length<=iD J r/\W'.length<=1+iD J r/\W'.length+(J.length*J.length-iD J r)<n:=by
 obtain⟨rest,p,rfl⟩:∃rest p,W=rest++[p]:=⟨W.dropLast,W.getLast ag,(List.dropLast_concat_getLast ag).symm⟩;have t:=G.bA hz.good.solid hz.good.ord L.nd L.face;have few:=hz.few;have nn:J.length*J.length<=63*63:=aEc few few;have hsum:iD J fs+J.length<=J.length*J.length:=t;have H:(rest++[p]).length=rest.length+1:=by simp
 rw[H]at hW hn;have I:EC 5 (AE Φ (.lst (J.map vd)) (G.e9 m J) (fs.map<|n9 J) U (rest++[p]) a b c d)=.ok (G3 p,AE Φ (.lst (J.map vd)) (G.e9 m J) (fs.map<|n9 J) U rest a b c d):=by show(match((rest++[p]).map G3)[((rest++[p]).map G3).length-1]? with|some d=>_|none=>_:R (D×Ev))=_;rw[aCd];simp;rfl
 have N:pJ 4 (AE Φ (.lst (J.map vd)) (G.e9 m J) (fs.map<|n9 J) U rest (.v (G3 p)) b c d) (G3 p)=.ok (!(open Classical in decide (G3 p∈U.map (·.1)))):=by unfold pJ;rw[show(AE Φ (.lst (J.map vd)) (G.e9 m J) (fs.map<|n9 J) U rest (.v (G3 p)) b c d)[4]?=some (.d U)from rfl];dsimp only;rw[jk (FA p)]
 have C:R1 1000 J:=hz.sz.mono;unfold ffB;rw[I];show∃r s W' a' b' c' d',D9 (R.ok<|Out.nx<|AE Φ (.lst (J.map vd)) (G.e9 m J) (fs.map<|n9 J) U rest (.v (G3 p)) b c d) _=_/\_;rw[A6];rw[show T0 6 (AE Φ (.lst (J.map vd)) (G.e9 m J) (fs.map<|n9 J) U rest (.v (G3 p)) b c d)=.ok (G3 p)from rfl,R.aa0,N,R.aa0];by_cases u:G3 p∈U.map (·.1)
 .refine⟨fs,U,rest,.v (G3 p),b,c,d,?_,G.PN hz.good L rfl u,hk,by lia,by lia⟩;rw[decide_eq_true u];rfl
 .have w:p∈rest++[p]:=by simp
  obtain⟨E,n2,n3⟩:=G.AG hz.good L w u;obtain⟨y,A⟩:=VR hz L w;have ab:=X6 y A C E.prim;have k:=zD y A C;obtain⟨f,ef⟩:∃f,G.b7 p.1 p.2 J=f:=⟨_,rfl⟩;rw[ef]at E n2 n3 ab k;have po:=kB (d:=f.2) k.mono C;have O:=VU (n:=f.1) (J:=G.y7 f.1 f.2 J) k.mono (LX C);have rl:=NJ hz E;have O:P1 [vd f.1,.lst ((G.y7 f.1 f.2 J).map vd)]=.ok (.lst ((G.l7 J f).map vd)):=O;have pr:=NV (J:=G.l7 J f) (by lia);have Q:=λ{wk'} {W'} h1 h2=>G.NU hz.good L (rest:=rest) (p:=p) rfl u (walked':=wk') (waiting':=W') h1 h2;rw[ef]at Q;have T:(fs++[f]).Nodup:=by
   have:=(Q (wk':=λe=>G3 e∈U.map (·.1)\/e∈G.V8 (G.l7 J f)) (W':=rest++(G.V8<|G.l7 J f).map λq=>(q.2,q.1)) (λe=>Iff.rfl) (λq=>by
    rw[aAN,aAp];constructor
    .rintro(h|⟨x,Y,rfl⟩)
     .exact .inl h
     .exact .inr Y
    .rintro(h|h)
     .exact .inl h
     .exact .inr ⟨_,h,rfl⟩))
   exact this.nd
  have l:iD J (fs++[f])+J.length<=J.length*J.length:=G.bA hz.good.solid hz.good.ord T λg hg=>by
   rcases aAN.mp hg with z|z
   .exact L.face g z
   .rw[aBm.mp z];exact E
  rw[fX]at l;have clen:(G.V8<|G.l7 J f).length=(G.l7 J f).length:=by unfold G.V8;simp;lia
  obtain⟨s,a9',run,B,len'⟩:=FE (a0:=Sl.v (G3<|G.e9 m J)) (a1:=Sl.c (J3 [.lst (J.map vd)]) (Φ<|J3 [.lst (J.map vd)])) (a2:=Sl.c (D5 [.lst (J.map vd)]) (Φ<|D5 [.lst (J.map vd)])) (a3:=.o ((fs++[f]).map (n9 J))) (a6:=.v (G3 p)) (a7:=.v (xS f.1 f.2)) (a8:=.v (.lst ((G.l7 J f).map vd))) (G.V8<|G.l7 J f) U rest d (by lia) (by lia);refine⟨fs++[f],s,rest++(G.V8<|G.l7 J f).map (λq=>(q.2,q.1)),.v (G3 p),.v (xS f.1 f.2),.v (.lst ((G.l7 J f).map vd)),a9',?_,Q B (λq=>?_),?_,?_,?_⟩
  .have ap:AD 3 (AE Φ (.lst (J.map vd)) (G.e9 m J) (fs.map<|n9 J) U rest (.v (G3 p)) (.v (xS f.1 f.2)) (.v (.lst ((G.l7 J f).map vd))) d) (n9 J f)=.ok (.nx (AE Φ (.lst (J.map vd)) (G.e9 m J) ((fs++[f]).map (n9 J)) U rest (.v (G3 p)) (.v (xS f.1 f.2)) (.v (.lst ((G.l7 J f).map vd))) d)):=by show(if(fs.map<|n9 J).length<sizeLine then _ else _)=_;have h3:=G.dM hz.good.solid hz.good.ord L.face;have h3:3*fs.length<=iD J fs:=h3;rw[jk (by rw[aAf];exact aCN (show fs.length<=4000 by lia) (by decide)),aCd];rfl
   have ca:callC Φ 1 (q8 (λρ=>(rJ 6 ρ).bind λx=>T8 x (D.int 0)) R5) (AE Φ (.lst (J.map vd)) (G.e9 m J) (fs.map<|n9 J) U rest (.v (G3 p)) b c d)=.ok (.lst (J.map vd)):=by exact(yQ (m:=J3 [.lst (J.map vd)]) (ds:=[vd p.1]) rfl rfl).trans rfl
   have ct:callC Φ 2 (q8 (T0 7) R5) (AE Φ (.lst (J.map vd)) (G.e9 m J) (fs.map<|n9 J) U rest (.v (G3 p)) (.v (xS f.1 f.2)) c d)=.ok (.lst ((G.y7 f.1 f.2 J).map vd)):=by exact(yQ (m:=D5 [.lst (J.map vd)]) (ds:=[xS f.1 f.2]) rfl rfl).trans po
   have sl:LM (xS f.1 f.2) none (some 3)=.ok (vd f.1):=rfl;rw[decide_eq_false u];simp only[Bool.not_false,if_true];rw[ca,R.aa0,R.aa0,R.aa0,R.aa0,ab,R.aa0];show D9 (R.ok<|Out.nx<|AE Φ (.lst (J.map vd)) (G.e9 m J) (fs.map<|n9 J) U rest (.v (G3 p)) (.v (xS f.1 f.2)) c d) _=_;rw[A6];rw[ct];show D9 ((((R.ok<|xS f.1 f.2).bind λx=>LM x none (some 3)).bind λd=>(R.ok [D.lst ((G.y7 f.1 f.2 J).map vd)]).bind λds=>R.ok (d::ds)).bind P1|>.bind λd=>R.ok (Out.nx<|aCA _ 8<|Sl.v d)) _=_;rw[R.aa0,sl,R.aa0,R.aa0,R.aa0,O,R.aa0];show D9 (R.ok<|Out.nx<|AE Φ (.lst (J.map vd)) (G.e9 m J) (fs.map<|n9 J) U rest (.v (G3 p)) (.v (xS f.1 f.2)) (.v (.lst ((G.l7 J f).map vd))) d) _=_;rw[A6];show D9 (AD 3 (AE Φ (.lst (J.map vd)) (G.e9 m J) (fs.map<|n9 J) U rest (.v (G3 p)) (.v (xS f.1 f.2)) (.v (.lst ((G.l7 J f).map vd))) d)<|n9 J f) _=_;rw[ap,A6];show((A2 [.lst ((G.l7 J f).map vd)]).bind M3).bind _=_;rw[pr,R.aa0];exact run
  .rw[aAN,aAp];constructor
   .rintro(h|⟨x,Y,rfl⟩)
    .exact .inl h
    .exact .inr Y
   .rintro(h|h)
    .exact .inl h
    .exact .inr ⟨_,h,rfl⟩
  .rw[fX];lia
  .rw[fX,aAE,aAf];lia
  .rw[fX,aAE,aAf];lia
def SO (J:List G.V)(f:G.V×Int):List (G.V×Int)->List (G.V×Int)
 |[]=>[f]
 |x::Y=>if HT.lexLt (S9 (n9 J f)) (S9 (n9 J x))=true then f::x::Y else x::SO J f Y
def GC (J:List G.V)(fs:List (G.V×Int)):List (G.V×Int):=fs.foldr (SO J) []
theorem zQ (J:List G.V)(f:G.V×Int):∀Y:List (G.V×Int),qX S9 (n9 J f) (Y.map (n9 J))=(SO J f Y).map (n9 J)
 |[]=>rfl
 |x::Y=>by
  unfold SO;rw[aAv,qX];split
  .rfl
  .rw[aAv,zQ J f Y]
theorem fW (J:List G.V):∀fs:List (G.V×Int),fG S9 (fs.map (n9 J))=(GC J fs).map (n9 J)
 |[]=>rfl
 |f::fs=>by show qX S9 (n9 J f) (fG S9 (fs.map (n9 J)))=_;rw[fW J fs,zQ];rfl
def lV (h:n9 J f=n9 J g):f=g:=zV (by rw[h])
theorem gK:∀{a b:List (G.V×Int)},a.map (n9 J)=b.map (n9 J)->a=b
 |[],[],_=>rfl
 |[],_::_,h=>by cases h
 |_::_,[],h=>by cases h
 |x::a,y::b,h=>by rw[aAv,aAv]at h;injection h with c d;rw[lV c,gK d]
def JN:f∈GC J fs↔f∈fs:=by
 have h:=(K5 S9<|fs.map<|n9 J).mem_iff (a:=n9 J f);rw[fW]at h;constructor
 .intro q;obtain⟨g,b,e⟩:=aAp.mp (h.mp<|aBf q);rw[<-lV e];exact b
 .intro q;obtain⟨g,b,e⟩:=aAp.mp (h.mpr<|aBf q);rw[<-lV e];exact b
def uO [Tabs]{J:List G.V}{fs:List (G.V×Int)}(h:fs.Nodup):((fs.map (n9 J)).map S9).Nodup:=by rw[aBn];exact sQ (λa b e=>zV (J:=J) e) h
def W5 (h:rM k l):l.Nodup:=h.imp λ{a b} q e=>by subst e;rw[TS.lex_irrefl]at q;cases q
def L9 {J:List G.V}{fs:List (G.V×Int)}(h:(fs.map (n9 J)).Nodup):fs.Nodup:=(aBF.mp h).imp λ{a b} n e=>n (by rw[e])
def yK {J:List G.V}{fs a:List (G.V×Int)}(b:eJ J fs)(c:eJ J a):fs=a:=by
 have d:=L9 (W5 b.2);have e:=L9 (W5 c.2);have p:fs.Perm a:=(aDC d e).mpr λf=>by rw[b.1,c.1]
 exact gK (kS b.2 c.2 (p.map _))
def pR (h:eJ J fs):j9 J=fs:=by unfold j9;have q:∃fs,eJ J fs:=⟨fs,h⟩;rw[dif_pos q];exact yK q.choose_spec h
def uX [Tabs]{J:List G.V}{fs:List (G.V×Int)}(a:fs.Nodup)(h:∀n d,(n,d)∈fs↔G.IsFace J n d):eJ J (GC J fs):=by refine⟨λf=>by rw[JN];exact h f.1 f.2,?_⟩;rw[<-fW];exact kU (uO a)
def qz [Tabs]{Φ:(List D->R D)->Hp->(bb->Prop)->bb->Prop}{J:List G.V}{m:G.V}(hz:Land J m)(l:J.length<=14):
  N6 (D9 (T2 ffC (ffB Φ) 5000 (AE Φ (.lst (J.map vd)) (G.e9 m J) [] [] [G.e9 m J] .no .no .no .no)) λρ=>(((rJ 3 ρ).bind yq).bind λds=>R.ok (D.lst ds)).bind λd=>R.ok (Out.rt d))=.ok (.lst ((j9 J).map (n9 J))):=by
 refine II (Iv:=λn ρ=>∃fs U W a b c d,ρ=AE Φ (.lst (J.map vd)) (G.e9 m J) (fs.map<|n9 J) U W a b c d/\G.LInv J (G.e9 m J) fs (λe=>G3 e∈U.map (·.1)) W/\U.length<=iD J fs/\W.length<=1+iD J fs/\W.length+(J.length*J.length-iD J fs)<n) ?_ ?_ ?_ (by rintro ρ ⟨_,_,_,_,_,_,_,_,_,_,_,h⟩;lia)
 .rintro n ρ ⟨fs,U,W,a,b,c,d,rfl,L,t,u,v⟩;by_cases g:W=[]
  .subst g;exact .inl rfl
  .refine .inr ⟨?_,?_⟩
   .have w:(0:Int)<((W.map G3).length:Int):=by have:=aDL.mpr g;rw[aAf];lia
    show(R.ok<|D.bl<|decide ((0:Int)<((W.map G3).length:Int))).bind qZ=_;rw[decide_eq_true w];rfl
   .obtain⟨x,y,z,A,B,C,E,e,H,I,o,q⟩:=UU (Φ:=Φ) (a:=a) (b:=b) (c:=c) (d:=d) hz L t u v g;exact⟨_,e,x,y,z,A,B,C,E,rfl,H,I,o,q⟩
 .refine⟨[],[],[G.e9 m J],.no,.no,.no,.no,rfl,?_,aAj _,aAj _,?_⟩
  .have:=G.EW hz.good;refine⟨this.face,this.nd,λe=>?_,this.cl,this.wt,this.ne⟩;rw[<-this.wk e];simp
  .have N:J.length*J.length<=14*14:=aEc l l;show 1+(J.length*J.length-0)<5000
   lia
 .rintro n ρ ⟨fs,U,W,a,b,c,d,rfl,L,t,u,v⟩ k;have r:W=[]:=by
   cases W with
   |nil=>rfl
   |cons p W=>have k:(R.ok<|D.bl<|decide ((0:Int)<(((p::W).map G3).length:Int))).bind qZ=.ok false:=k;rw[decide_eq_true (by simp;try lia)]at k;cases k
  subst r;obtain⟨g,O⟩:=G.QX hz.good L;have Q:=uX L.nd O;rw[pR Q];have few:=G.bA hz.good.solid hz.good.ord L.nd L.face;have s:=G.dM hz.good.solid hz.good.ord L.face;have N:J.length*J.length<=14*J.length:=Nat.mul_le_mul_right _ l;have T:(fs.map<|n9 J).length<=63:=by rw[aAf];lia
  have Y:yq (.lst (fs.map<|n9 J))=.ok ((GC J fs).map (n9 J)):=by show(if _ then _ else _)=_;rw[jk ⟨aBt.mpr λd hd=>by obtain⟨f,_,rfl⟩:=aAp.mp hd;rfl,uO L.nd,T⟩,fW]
  show N6 ((((R.ok<|D.lst<|fs.map<|n9 J).bind yq).bind λds=>R.ok (D.lst ds)).bind λd=>R.ok (Out.rt d))=_;rw[R.aa0,Y];rfl
theorem GR:∀{ds:List D},(∀d∈ds,∃v,d=vd v)->(ds.filterMap rH).map vd=ds
 |[],_=>rfl
 |d::ds,h=>by obtain⟨v,rfl⟩:=h d (.head _);rw[List.filterMap_cons_some (oD v),aAv,GR λd a=>h d (.tail _ a)]
section
variable [Tabs]
def RE (J:List G.V):∀d∈J.map vd,U1 d=true:=λd a=>by obtain⟨v,_,rfl⟩:=aAp.mp a;rfl
def cM (J:List G.V):T5 (J.map vd)=(d7 J).map vd:=by unfold d7;refine(GR λd a=>?_).symm;obtain⟨v,_,rfl⟩:=aAp.mp ((G9 (RE J) d).mp a);exact⟨v,rfl⟩
def A8 (J:List G.V):(d7 J).Pairwise λa b=>G.f7 (b-a):=ZD (by rw[<-cM];exact V5 _)
def xG {v:G.V}{J:List G.V}:vd v∈J.map vd↔v∈J:=by rw[aAp];exact⟨by rintro⟨u,a,e⟩;rw[<-wD e];exact a,λh=>⟨v,h,rfl⟩⟩
def t5 {J:List G.V}{v:G.V}:v∈d7 J↔v∈J:=by rw[<-xG,<-cM,G9 (RE J),xG]
def kD (J:List G.V):(d7 J).Nodup:=(A8 J).imp λ{a b} h e=>by subst e;exact G.J2 h
def Z4 {a b:List G.V}(f:a.Pairwise λa b=>G.f7 (b-a))(g:b.Pairwise λa b=>G.f7 (b-a))(h:∀v,v∈a↔v∈b):a=b:=by refine VN (fE (CU f) (CU g) λd=>?_);rw[aAp,aAp];exact⟨λ⟨v,c,e⟩=>⟨v,(h v).mp c,e⟩,λ⟨v,c,e⟩=>⟨v,(h v).mpr c,e⟩⟩
def zR (h:(d7 J).length<=63):zj (.lst (J.map vd))=.ok ((d7 J).map vd):=by show(if _ then _ else _)=_;rw[jk ⟨CF J,by rw[cM,aAf];exact h⟩,cM]
def fY (h:G.j8 a)(c:∀v,v∈a->v∈b):G.j8 b:=by obtain⟨A,d,B,f,C,g,D,k,e⟩:=h;exact⟨A,c A d,B,c B f,C,c C g,D,c D k,e⟩
def PP (h:G.j8 J):G.K6 J=3:=by
 by_cases e:G.K6 J=3
 .exact e
 .exact absurd h (G.PK e)
def EQ (J:List G.V):(d7 J).length<=J.length:=G.P4 (kD J) λv a=>t5.mp a
def U8 (d:R1 900 J)(f:G.j8 J)(c:(d7 J).length<=63):∃m r,d7 J=m::r/\Land (m::r) m:=by
 have a:G.j8 (d7 J):=fY f λv g=>t5.mpr g;cases e:d7 J with
 |nil=>rw[e]at a;obtain⟨A,k,_⟩:=a;cases k
 |cons m r=>
  refine⟨m,r,rfl,?_⟩;have b:=A8 J;rw[e]at a c b;refine⟨⟨a,b,.head _,λX l=>?_⟩,⟨λP n=>d.1 P (t5.mp (by rw[e];exact n)),by lia⟩,c,rfl⟩;rcases aAd.mp l with h|h
  .exact .inl h
  .exact .inr ((aAs.mp b).1 X h)
def WD (a:R1 1000 J)(b:G.j8 J):F4 [.lst (J.map vd)]=.ok .non:=by simp only[F4,o7];exact jk ⟨a,PP b⟩
def rq (h:Land (m::J) m):G8 [.lst ((m::J).map vd)]=.ok (G3 (G.e9 m (m::J))):=by simp only[G8,o7];exact jk h
def fy (h:Land (m::J) m)(a:(m::J).length<=14):I9 (G3 (G.e9 m (m::J))) (J3 [.lst ((m::J).map vd)]) (D5 [.lst ((m::J).map vd)])=.ok (.lst ((j9 (m::J)).map (n9 (m::J)))):=by simp only[I9,show J3 [.lst ((m::J).map vd)] [.non]=.ok (.lst ((m::J).map vd))from rfl,o7];exact jk ⟨h,a,rfl,rfl,rfl⟩
def MS (a:R1 900 J)(b:G.j8 J)(c:(d7 J).length<=14):Y0 [.lst (J.map vd)]=.ok (.lst ((j9 (d7 J)).map (n9 (d7 J)))):=by simp only[Y0,o7];exact jk ⟨a,b,c⟩
def HU (a:R1 900 J)(b:G.j8 J)(c:(d7 J).length<=14):L6 [.lst (J.map vd)]=.ok (.lst ((p6 J).map vd)):=by simp only[L6,o7];exact jk ⟨a,b,c⟩
omit [Tabs]in
theorem qj {α:Type}:∀l:List α,∃b:List α,b.Nodup/\∀x,x∈b↔x∈l
 |[]=>⟨[],aDk,λ_=>Iff.rfl⟩
 |a::l=>by
  obtain⟨b,c,h⟩:=qj l;by_cases d:a∈l
  .exact⟨b,c,λx=>by rw[h,aAd];exact⟨.inr,λq=>q.elim (λe=>by rw[e];exact d) id⟩⟩
  .exact⟨a::b,aAI.mpr ⟨λz=>d ((h a).mp z),c⟩,λx=>by rw[aAd,aAd,h]⟩
def F8 (h:Land J m)(p:J.length<=14):eJ J (j9 J):=by
 classical
 obtain⟨fs,b,c⟩:=qj ((G.cands J).filter λf=>decide (G.IsFace J f.1 f.2));have g:∀n d,(n,d)∈fs↔G.IsFace J n d:=λn d=>by
  rw[c,aBX];constructor
  .intro q;exact of_decide_eq_true q.2
  .intro q;refine⟨?_,decide_eq_true q⟩;obtain⟨A,k,B,l,C,o,_,e⟩:=G.mG q;unfold G.cands;rw[<-e];exact aBr.mpr ⟨A,k,aBr.mpr ⟨B,l,aAp.mpr ⟨C,o,rfl⟩⟩⟩
 have a:=uX b g;rw[pR a];exact a
theorem mR:∀(Y:List D) (b:List (List G.V)) (B:List G.V) (x y:Sl),vF Y=some b->B.length+b.flatten.length<=3000->
  ∃f g,G1 (jN 2 (cA (λd ρ=>R.ok (aCA ρ 2 (Sl.v d))) (cA (λd ρ=>R.ok (aCA ρ 3 (Sl.v d))) qF))) (λρ=>(T0 3 ρ).bind (ZG 1 ρ)) Y [a,.o (B.map vd),x,y]=.ok (.nx [a,.o ((B++b.flatten).map vd),f,g])
 |[],b,B,x,y,h,_=>by cases h;exact⟨x,y,by simp⟩
 |d::Y,b,B,x,y,h,l=>by
  unfold vF at h;split at h
  .rename_i v m c n;cases h;obtain⟨p,k,rfl,q⟩:∃p k,d=.tup [p,.lst k]/\D1 k=some v:=by
    unfold ZY at c;split at c
    .exact⟨_,_,rfl,c⟩
    .cases c
   have r:=n4 q;subst r;rw[List.flatten_cons,aAE]at l;obtain⟨f,g,e⟩:=mR Y m (B++v) (.v p) (.v (.lst (v.map vd))) n (by rw[aAE];lia);refine⟨f,g,?_⟩;have s:(B.map vd).length+(v.map vd).length<=sizeLine:=by rw[aAf,aAf];exact ML (by lia)
   refine(M4 (ρ1:=[a,.o (B.map vd),.v p,.v (.lst (v.map vd))]) (ρ2:=[a,.o ((B++v).map vd),.v p,.v (.lst (v.map vd))]) rfl ?_).trans ?_
   .show(if(B.map vd).length+(v.map vd).length<=sizeLine then _ else _)=_;rw[jk s,aCd];rfl
   .rw[e,List.flatten_cons,aFj]
  .cases h
theorem mZ (J:List G.V):∀fs:List (G.V×Int),vF (fs.map (n9 J))=some (fs.map (G.l7 J))
 |[]=>rfl
 |f::fs=>by rw[aAv,vF,mZ J fs];rw[show ZY (n9 J f)=some (G.l7 J f)from o7 _];rfl
def DM {J:List G.V}{fs:List (G.V×Int)}(a:(fs.flatMap (G.l7 J)).length<=3000)(b:(d7 (fs.flatMap (G.l7 J))).length<=63):G5 [.lst (fs.map (n9 J))]=.ok (.lst ((d7 (fs.flatMap (G.l7 J))).map vd)):=by have e:(fs.map<|G.l7 J).flatten=fs.flatMap (G.l7 J):=rfl;simp only[G5,mZ,e];exact jk ⟨a,b⟩
def oQ (c:J.Pairwise λa b=>G.f7 (b-a))(d:G.IsFace J f.1 f.2)(h:X∈G.l7 J f):X∈J:=(G.d6.mp<|(d.aa2 c).aa4 h).1
def pC (d:R1 900 J)(g:G.j8 J)(a:(d7 J).length<=14)(h:X∈p6 J):X∈J:=by obtain⟨m,r,e,L⟩:=U8 d g (by lia);unfold p6 at h;rw[t5,aBr]at h;obtain⟨f,b,c⟩:=h;rw[e]at b c a;have k:=F8 L a;have:=oQ L.good.ord ((k.1 f).mp b) c;rw[<-e,t5]at this;exact this
def vH (L:Land J m)(a:J.length<=14):((j9 J).flatMap (G.l7 J)).length<=200/\(d7 ((j9 J).flatMap (G.l7 J))).length<=14:=by
 have b:=F8 L a;have e:=L9 (W5 b.2);have few:=G.bA L.good.solid L.good.ord e λf c=>(b.1 f).mp c;have h:J.length*J.length<=14*14:=aEc a a;constructor
 .rw[List.length_flatMap]
  lia
 .refine aAr (G.P4 (kD _) λv d=>?_) a;rw[t5,aBr]at d;obtain⟨f,c,g⟩:=d;exact oQ L.good.ord ((b.1 f).mp c) g
end
def W8 (h:0<b):V4 (.int a) (.int b)=.ok (.int (a.fmod b)):=qI (by omega)
def kQ (h:0<b)(c:b<1000000000000000):N5 (.int a) (.int b)=.ok (.int (a.fdiv b)):=V7 ⟨by omega,v9 (K9 (n:=60) (by omega) (by omega))⟩
def iT {a b:Int}(h:0<b):0<=a.fmod b/\a.fmod b<b:=by have f:=PyProof.Rows.fdiv_fmod_facts a b;have g:=f.2.2.1 h;omega
def A5 (a:r=.ok (.nx ρ))(b:N6 (F ρ)=x):N6 (D9 r F)=x:=by rw[a];exact b
def ny {n:Nat}(h:n<=1000000):dW [.int (n:Int)]=.ok ((aBw n).map λ(k:Nat)=>D.int (k:Int)):=by
 show(if rE 0 (n:Int) 1 then R.ok (xH 0 1<|iG 0 n 1)else R.bad)=_;rw[jk ⟨by decide,by decide,by decide,by decide,by omega,by omega⟩];have e:iG 0 (n:Int) 1=n:=by
  unfold iG;split
  .simp
  .omega
 rw[e];unfold xH;congr 1;refine aEx λk _=>?_;simp
section
variable [Tabs]
def kK {J:List G.V}(g:R1 900 J)(h:G.j8 J)(c:(d7 J).length<=14):∀X,X∈p6 J↔∃f:G.V×Int,G.IsFace (d7 J) f.1 f.2/\X∈G.l7 (d7 J) f:=λX=>by obtain⟨m,r,e,L⟩:=U8 g h (by lia);unfold p6;rw[t5,aBr];rw[e]at c⊢;have d:=F8 L c;exact⟨by rintro⟨f,a,b⟩;exact⟨f,(d.1 f).mp a,b⟩,by rintro⟨f,a,b⟩;exact⟨f,(d.1 f).mpr a,b⟩⟩
def zZ {l:List G.V}(h:l.Pairwise λa b=>G.f7 (b-a)):d7 l=l:=Z4 (A8 _) h λv=>t5
def IJ {J:List G.V}(l:R1 900 J)(o:G.j8 J)(p:(d7 J).length<=14):G.j8 (p6 J)/\R1 900 (p6 J)/\d7 (p6 J)=p6 J/\(p6 J).length<=14/\p6 (p6 J)=p6 J/\∀n d,G.IsFace (p6 J) n d↔G.IsFace (d7 J) n d:=by
 have s:=kK l o p;have c:(p6 J).Pairwise λa b=>G.f7 (b-a):=A8 _;have q:G.j8 (d7 J):=fY o λv g=>t5.mpr g;have t:=A8 J;obtain⟨m,r,e,L⟩:=U8 l o (by lia);have u:eJ (d7 J) (j9<|d7 J):=by have h:=p;rw[e]at h⊢;exact F8 L h
 have B:(p6 J).length<=14:=by have h:=p;unfold p6;rw[e]at h⊢;exact(vH L h).2
 have C:j9 (d7 J)≠[]:=λz=>by
  obtain⟨A,O,_⟩:=q;have:∃f:G.V×Int,G.IsFace (d7 J) f.1 f.2:=by have k:=L;rw[<-e]at k;have:=G.iK k.good.solid k.good.ord k.good.mem k.good.least;exact⟨_,this⟩
  obtain⟨f,w⟩:=this;have:=(u.1 f).mpr w;rw[z]at this;cases this
 obtain⟨H,x⟩:=aEX _ C;have E:=G.IE q t c s ((u.1 H).mp x);have sz:R1 900 (p6 J):=⟨λP I=>l.1 P (pC l o p I),by lia⟩;have y:=zZ c;refine⟨E,sz,y,B,?_,λn d=>G.WE q t c s _ C u.1⟩;refine Z4 (A8 _) c λv=>?_;have N:=kK sz E (by rw[y];exact B) v;show v∈p6 (p6 J)↔_;rw[N,y];constructor
 .rintro⟨f,w,g⟩;exact oQ c w g
 .exactλg=>G.MJ q t c s g
end
end M
namespace DL
open PySem PySem.Spec L2
def WG {K:Params->kc}{P c:bb}{tb:List (Pos×Str)}{a:List bb}(b:P∈a)(d:∀w:cq,PySem.W.codeHdIn (K w.params) c P=true):∀p∈[(P,tb)],p.1∈a/\∃c,∀w:cq,PySem.W.codeHdIn (K w.params) c p.1=true:=λp e=>by rw[aBm.mp e];exact⟨b,c,d⟩
def Got (K:kc)(x:Str)(st:dm):Prop:=∃f a,PySem.W.nsIn K be x=some (some<|.ref f)/\Fun K x x st f a
def SL (K:kc)(x:Str)(st:dm)(b:bb):Prop:=∃f c a,PySem.W.nsIn K be x=some (some<|.ref f)/\PySem.W.codeHdIn K a b=true/\FunC K x x st f c a
def cK (K:kc)(mg:dG)(x:Str)(st:dm):Prop:=∃f a,mg x=some (.ref f)/\Fun K x x st f a
def sk (K:kc)(mg:dG)(x:Str)(st:dm)(b:bb):Prop:=∃f c a,mg x=some (.ref f)/\PySem.W.codeHdIn K a b=true/\FunC K x x st f c a
section
variable{kV doc pm T ct:ai}
def bz (a:PySem.W.nsIn K be x=some (some (.ref f)))(l:K.lookup f=some ⟨d,e,.func (PySem.W.fnOf x x (D3 st) (t6 st) (c6 st) .none kV doc pm g T ct),b⟩)
 (c:PySem.W.codeIn K T x=true) (k:PySem.W.keepIn K (.ref f)=true):Got K x st:=⟨f,_,a,OC l c k⟩
def UN (a:PySem.W.nsIn K be x=some (some (.ref f)))(l:K.lookup f=some ⟨g,h,.func (PySem.W.fnOf x x (D3 st) (t6 st) (c6 st) .none kV doc pm m T ct),b⟩)
 (c:PySem.W.codeIn K T x=true) (k:PySem.W.keepIn K (.ref f)=true) (e:T=.ref cd) (n:PySem.W.codeHdIn K cd d=true):SL K x st d:=⟨f,_,cd,a,n,SR l e c k⟩
def Got.def (g:Got K x st)(X:K.In h)(G:h.Ns be mg):cK K mg x st:=let⟨f,c,a,b⟩:=g;⟨f,c,PySem.W.mg_of X G a,b⟩
def SL.def (g:SL K x st c)(X:K.In h)(G:h.Ns be mg):sk K mg x st c:=let⟨f,d,e,a,b⟩:=g;⟨f,d,e,PySem.W.mg_of X G a,b⟩
def D8 (a:sc.kind=.function:=by rfl)(b:sc.isCoroutine=false:=by rfl)(c:sc.isGenerator=false:=by rfl)(d:N.Nodup:=by decide+kernel)(e:N.take ps.length=ps:=by rfl)(f:∀x∈ps,sc.names.lookup x=some .local\/sc.names.lookup x=some .cell:=by decide+kernel)(g:∀y∈sc.names,y.2≠.free:=by decide+kernel):FnScope N ps sc:=⟨a,b,c,d,e,f,g⟩
variable [Tabs]
def l8 (g:cK K mg x st)(S:FnScope N ps (c6 st))(h:∀{f:bb} {T:ai} {A:cp} {a:List Env} {s:a9} {H:Hp} {E:XK},Room k (A.deeper (aCJ x (c6 st) s.heap.objs.size f T))->(A.deeper (aCJ x (c6 st) s.heap.objs.size f T)).units+64<dA->(A.deeper (aCJ x (c6 st) s.heap.objs.size f T)).units+130<dA->N.Nodup->
  cE (SH P w K mg base N x (c6 st) f T A a s H E) (t6 st) F) (l:∀ds d,ds.length=ps.length->m ds=.ok d->N6 (F (j2 N ds))=.ok d) (n:∀(kV doc pm:ai) (o:Option bb) (T ct:ai) (b:List ai),b.length=ps.length->bindArgs (PySem.W.fnOf x x (D3 st) (t6 st) (c6 st) .none kV doc pm o T ct) ⟨b,[]⟩=pure (ps.zip b):=by
  intro _ _ _ _ _ _ b p;rcases b with _|⟨_,_|⟨_,_|⟨_,_|⟨_,_|⟨_,_|⟨_,_|⟨_,_⟩⟩⟩⟩⟩⟩⟩<;>first|rfl|exact absurd p (by simp)):u6 P w K mg base (k+1) x ps.length m:=by
 obtain⟨f,r,q,e⟩:=g;exact YW e S (e.binds n) q (λT A a s H E c=>h c c.units c.ae2 S.nd) l
end
def cz (x:D)(a:List D):Bool:=a.any λy=>u7 y x
def inR (n:Bool):D->D->R D
 |.tup Y,.lst a=>if z6 a<=40/\z6 Y<=30 then .ok (.bl (cz (.tup Y) a !=n))else .bad
 |.lst Y,.lst a=>if z6 a<=40/\z6 Y<=30 then .ok (.bl (cz (.lst Y) a !=n))else .bad
 |_,_=>.bad
section
variable [Tabs]
open Classical in
def SG (K:kc) (H:Hp) (O:bb->Prop) (a:D) (u:ai):Bool:=decide (∃y d,RelV y u/\Rep K H O y d/\u7 d a=true)
open Classical in
def OW (I:Inv X b σ H s)(r:Rep X.K H O y d)(c:RelV y u):SG X.K H O f u=u7 d f:=by
 unfold SG;by_cases h:u7 d f=true
 .rw[h];exact decide_eq_true ⟨y,d,c,r,h⟩
 .rw[Bool.eq_false_iff.mpr h];refine decide_eq_false λ⟨l,m,a,g,k⟩=>h ?_;have e:=RelV.inj c a;subst e;rw[Rep.inj I r g];exact k
theorem BS (I:Inv X g σ H s)(k:Rep X.K H q x c)(l:RelV x v):∀{vs:List V} {a:List D} {e:List ai},Reps X.K H O vs a->l6 vs e->A.units+z6 a<dA->A.units+B5 c<dA->
  (∀u∈e,SeqAt.EqAt A s u v (SG X.K H O c u))/\e.any (SG X.K H O c)=cz c a
 |_,_,_,.nil,.nil,_,_=>⟨λu m=>(by cases m),rfl⟩
 |_,d::a,_,.cons h t,.cons r n,m,b=>by
  have w:B5 d<=z6 (d::a):=oE (j:=0) rfl;have y:z6 a<=z6 (d::a):=by rw[z6];exact Nat.le_max_right _ _
  obtain⟨o,p⟩:=BS (A:=A) I k l t n (by lia) b;refine⟨λu f=>?_,?_⟩
  .rcases aAd.mp f with rfl|f
   .rw[OW I h r];exact OA I h k r l (by lia) b
   .exact o u f
  .rw[List.any_cons,p,OW I h r];rfl
end
section
variable [Tabs]
def NC (hu:X.A.units+64<dA):kP X (ee .NotIn) (inR true):=by
 intro H O x y dx dy Q fr U r2 q;unfold inR at q;split at q
 .rename_i Y k;split at q
  .rename_i hd;obtain⟨l,gc,rfl,n,o⟩:=U.tupI;obtain⟨a,vs,rfl,h,r⟩:=r2.aa3;refine⟨λd e b f=>d=.ref l/\e=.ref a/\b=H/\f (.bl (!cz (.tup Y) k)) H,?_,rfl,rfl,rfl,?_⟩
   .intro g s σ b d e v u f I t B ⟨C,E,J,L⟩;subst C E J;cases B;obtain⟨c,N,p,hz⟩:=I.list h;have m:=BS I (A:=X.A.in1) (O:=O) (Rep.tup n o) t r N (by rw[p8];lia) (by rw[p8,B5];lia);refine SeqAt.notIn_listAt (SG X.K b O<|.tup Y) p.isList (λw T=>m.1 w (by simpa using T)) ⟨.bl _,b,I,rfl,?_⟩;rw[show c.toArray.any (SG X.K b O<|.tup Y)=c.any (SG X.K b O<|.tup Y)by simp,m.2];exact L
   .have:=q (.bl _) H (Same.refl _) .bl;simpa using this
  .exact q.elim
 .rename_i Y k;split at q
  .rename_i hd;obtain⟨l,gc,rfl,n,o⟩:=U.aa3;obtain⟨a,vs,rfl,h,r⟩:=r2.aa3;refine⟨λd e b f=>d=.ref l/\e=.ref a/\b=H/\f (.bl (!cz (.lst Y) k)) H,?_,rfl,rfl,rfl,?_⟩
   .intro g s σ b d e v u f I t B ⟨C,E,J,L⟩;subst C E J;cases B;obtain⟨c,N,p,hz⟩:=I.list h;have m:=BS I (A:=X.A.in1) (O:=O) (Rep.lst (O:=λ_=>False) n (λz=>z)<|o.sub λ_ z=>z.elim) t r N (by rw[p8];lia) (by rw[p8,B5];lia);refine SeqAt.notIn_listAt (SG X.K b O<|.lst Y) p.isList (λw T=>m.1 w (by simpa using T)) ⟨.bl _,b,I,rfl,?_⟩;rw[show c.toArray.any (SG X.K b O<|.lst Y)=c.any (SG X.K b O<|.lst Y)by simp,m.2];exact L
   .have:=q (.bl _) H (Same.refl _) .bl;simpa using this
  .exact q.elim
 .exact q.elim
end
end DL
namespace DL
open PySem PySem.Spec L2
open PyProof.Rows hiding St st
variable [Tabs]
section
def RSF (X:Cx)(d:Hp)(e:bb->Prop)(r:R (List D))(D:Ends):Prop:=match r with
 |.ok f=>∀c b a,Same d b->b a=none->Reps X.K b e c f->D.rt (.ref a) (upd b a<|.lst c)
 |_=>False
def tSF (X:Cx)(a:Hp)(b:bb->Prop)(F:Ev->R (List D)):TS:=λD σ H=>∃O ρ,EnvOk X.K a b H O σ ρ/\bL X.K O/\RSF X a b (F ρ) D
def SM (X:Cx)(st:List dm)(F:Ev->R (List D)):Prop:=∀a b,uW X st (tSF X a b F)
def WK (r:R Out)(F:Ev->R (List D)):R (List D):=match r with
 |.ok (.nx ρ)=>F ρ
 |_=>.bad
@[simp]def qx (ρ:Ev)(F:Ev->R (List D)):WK (.ok (.nx ρ)) F=F ρ:=rfl
def AV (c:PF X e f):SM X [.Return (some e) d] f:=λg h=>wN (kE<|xB c)<|by rintro D σ H ⟨O,ρ,E,o,q⟩;exact⟨g,h,O,ρ,E,by
 cases b:f ρ with
 |ok p=>rw[b]at q;exactλk l a m n r=>q k l a (E.same.trans m) n (r.sub E.sub)
 |ex x=>rw[b]at q;exact q.elim
 |bad=>rw[b]at q;exact q⟩
def uN {st:dm}{rest:List dm}(d:nM X st F)(e:SM X rest G):SM X (st::rest) (λρ=>WK (F ρ) G):=λb c=>wN (yI (d b c)<|e b c)<|by rintro D σ H ⟨O,ρ,E,f,q⟩;exact⟨O,ρ,E,f,by
 dsimp only at q;cases a:F ρ with
 |ok o=>
  rw[a]at q;cases o with
  |nx g=>exactλn p h l m k=>⟨h,g,l,m,q⟩
  |_=>exact aAi q
 |ex x=>rw[a]at q;exact aAi q
 |bad=>rw[a]at q;exact aAi q⟩
def spW (K:kc)(n:Nat)(m:List D->R D):Sp:=λf H Q _=>∃O c d,Reps K H O f c/\c.length=n/\(∀a,O a->∃o,H a=some o/\Mt o)/\Tb H/\bL K O/\m c=.ok (.lst d)/\∀e b a,Same H b->b a=none->Reps K b O e d->Q (.ref a) (upd b a<|.lst e)
def ZM (r:R (List D)):R D:=r.bind λa=>.ok (.lst a)
@[simp]def a0l (ds:List D):ZM (.ok ds)=.ok (.lst ds):=rfl
def HM (h:ZM r=.ok d):∃a,r=.ok a/\d=.lst a:=by
 cases r with
 |ok a=>cases h;exact⟨a,rfl,rfl⟩
 |ex x=>cases h
 |bad=>cases h
def unl (r:R D):R (List D):=match r with
 |.ok (.lst a)=>.ok a
 |.ex x=>.ex x
 |_=>.bad
@[simp]def a1r (ds:List D):unl (.ok (.lst ds))=.ok ds:=rfl
def sN (P:bt)(w:cq)(K:kc)(mg:dG)(base:cv)(k:Nat)(x:Str)(n:Nat)(m:List D->R D):Prop:=
 (∃g a b,FnOk P w K mg base tV k g a b (spW K n m)/\Binds K a b []/\PySem.W.keepIn K (.ref g)=true/\mg x=some (.ref g))/\∀c d,c.length=n->m c=.ok d->∃e,d=.lst e
def sN.cal {K:kc}(c:sN P w K mg base k x n m):u6 P w K mg base k x n m:=by obtain⟨⟨g,t,u,F,b,v,e⟩,y⟩:=c;refine⟨g,t,u,F.imp λL H Q E z=>?_,b,v,e⟩;obtain⟨O,h,d,r,l,p,A,B,e,q⟩:=z;obtain⟨C,rfl⟩:=y h d l e;refine⟨O,h,C,r,l,p,A,B,e,λN T a s f I=>q _ _ (s.trans<|j6 f _) (.lst (K0.of j3) (λz=>?_) (I.same<|j6 f _))⟩;obtain⟨o,J,_⟩:=p a z;rw[s _ _ J]at f;cases f
def zF {K:kc}{st:dm}(g:cK K mg x st)(S:FnScope N ps (c6 st))(u:∀{f:bb} {T:ai} {A:cp} {a:List Env} {s:a9} {H:Hp} {E:XK},Room k (A.deeper (aCJ x (c6 st) s.heap.objs.size f T))->(A.deeper (aCJ x (c6 st) s.heap.objs.size f T)).units+64<dA->(A.deeper (aCJ x (c6 st) s.heap.objs.size f T)).units+130<dA->N.Nodup->
   SM (SH P w K mg base N x (c6 st) f T A a s H E) (t6 st) F) (p:∀ds d,ds.length=ps.length->m ds=.ok d->ZM (F (j2 N ds))=.ok d) (v:∀(kV l y:ai) (B:Option bb) (T ct:ai) (c:List ai),c.length=ps.length->bindArgs (PySem.W.fnOf x x (D3 st) (t6 st) (c6 st) .none kV l y B T ct) ⟨c,[]⟩=pure (ps.zip c):=by
   intro _ _ _ _ _ _ c b;rcases c with _|⟨_,_|⟨_,_|⟨_,_|⟨_,_|⟨_,_|⟨_,_|⟨_,_⟩⟩⟩⟩⟩⟩⟩<;>first|rfl|exact absurd b (by simp)):sN P w K mg base (k+1) x ps.length m:=by
 obtain⟨f,C,I,n⟩:=g;refine⟨⟨f,C,ps,n.ok S (λJ H Q E z=>?_) (λT A a s H J Q E o z=>?_),n.binds v,n.kp,I⟩,λds d b e=>?_⟩
 .obtain⟨O,ds,d,r,b,_⟩:=z;rw[r.length];exact b
 .obtain⟨O,ds,d,r,b,L,U,Y,e,q⟩:=z;refine⟨_,u (T:=T) o o.units o.ae2 S.nd H O,O,_,mK r L U,Y,?_⟩;obtain⟨t,e1,h⟩:=HM (p ds _ b e);injection h with h;subst h;rw[e1];exact q
 .obtain⟨t,_,h⟩:=HM (p ds d b e);exact⟨t,h⟩
def QD (c:sN X.prog X.w X.K X.mg X.base k x n m)(B:Room k X.A)(r:KR X (e::es) f)(u:DV f n)(C:Gl X x:=by rfl)(J:(x==kd)=false:=by decide)(L:av (e::es) X.env=(false,d3 e X.env)::av es X.env:=by rfl)(N:(dq t (av es X.env)).any (·.1)=false:=by rfl):
  PF X (.Call (.Name x p) (e::es) [] t) (λρ=>(f ρ).bind λds=>unl (m ds)):=by
 obtain⟨⟨g,gd,ps,F,b,T,em⟩,U⟩:=c;refine sG λh s σ H Q I Y O0 O ρ E q=>?_;refine GI F B C em T b .nil WJ r J L N h s σ H Q I ⟨Y,O0,O,ρ,E,?_⟩;dsimp only at q;cases l:f ρ with
 |ex z=>rw[l]at q;exact q
 |bad=>rw[l]at q;exact q
 |ok ds=>
  rw[l,R.aa0]at q;intro vs H1 v r1;rw[aCn];have y:=E.grow v;cases o:m ds with
  |ex z=>rw[o]at q;exact(q H<|Same.refl _).elim
  |bad=>rw[o]at q;exact aAi q
  |ok d=>rw[o]at q;obtain⟨rs,rfl⟩:=U ds d (u ρ ds l) o;exact⟨O,ds,rs,r1,u ρ ds l,y.trk,y.tab,sR I O E.trk,o,λws H2 a s2 r r2=>q ws H2 a (v.trans s2) r r2⟩
def HZ (i:Nat)(h:AH X e f):AH X e (λρ=>f (BE i ρ)):=ptI h λσ H Q a b O ρ E q=>by
 dsimp only at q;unfold BE at q;cases e:ρ[i]? with
 |none=>rw[e]at q;exact⟨a,b,O,ρ,E,q⟩
 |some c=>
  rw[e]at q;cases c with
  |o Y=>obtain⟨d,g,_⟩:=E.disown e;exact⟨a,b,d,_,g,q⟩
  |_=>exact⟨a,b,O,ρ,E,q⟩
end
def DA (k:D->List Int)(ds:List D):Prop:=ds.Pairwise λx y=>HT.lexLt (k y) (k x)=false
theorem sV:∀{Y:List D},DA k Y->DA k (qX k d Y)
 |[],_=>aDd _ _
 |x::Y,h=>by
  have b:=aAs.mp h;unfold qX;split
  .rename_i lt;refine aAs.mpr ⟨λy a=>?_,h⟩;cases q:HT.lexLt (k y) (k d)with
   |false=>rfl
   |true=>
    have t:=TS.lex_trans _ _ _ q lt;rcases aAd.mp a with rfl|a
    .rw[TS.lex_irrefl]at t;cases t
    .rw[b.1 y a]at t;cases t
  .rename_i c;refine aAs.mpr ⟨λy a=>?_,sV b.2⟩;rcases aAd.mp ((fZ k d Y).mem_iff.mp a)with rfl|a
   .simpa using c
   .exact b.1 y a
theorem qT:∀ds:List D,DA k (fG k ds)
 |[]=>.nil
 |d::ds=>sV (qT ds)
theorem sZ:∀{Y a:List D},(∀d∈Y,U1 d=true)->DA flat Y->DA flat a->Y.Perm a->Y=a
 |[],a,_,_,_,p=>(List.nil_perm.mp p).symm
 |x::Y,[],_,_,_,p=>by have:=p.length_eq;simp at this
 |x::Y,y::a,h,g,k,p=>by
  have e:=aAs.mp g;have f:=aAs.mp k;have c:x=y:=by
   rcases aAd.mp (p.mem_iff.mp<|.head _)with q|q
   .exact q
   .rcases aAd.mp (p.mem_iff.mpr<|.head _)with b|b
    .exact b.symm
    .exact qH (h x<|.head _) (h y<|.tail _ b) (TS.lex_total _ _ (f.1 x q)<|e.1 y b)
  subst c;rw[sZ (λd l=>h d (.tail _ l)) e.2 f.2 ((List.perm_cons x).mp p)]
def UZ {R:ai->D->Prop}{key:ai->List Int}{k:D->List Int}{c:List ai}{ds:List D}(st:Paired R c ds)(o:c.Pairwise λx y=>HT.lexLt (key y) (key x)=false)(f:∀u d,R u d->d∈ds->key u=k d):DA k ds:=by
 induction st with
 |nil=>exact .nil
 |@cons u d c ds r t g=>
  have m:=aAs.mp o;refine aAs.mpr ⟨λe b=>?_,g m.2 λu d h p=>f u d h (.tail _ p)⟩;have:∃a∈c,R a e:=by
   clear g o m f r;induction t with
   |nil=>cases b
   |cons r t g=>
    rcases aAd.mp b with rfl|b
    .exact⟨_,.head _,r⟩
    .obtain⟨a,n,q⟩:=g b;exact⟨a,.tail _ n,q⟩
  obtain⟨a,n,q⟩:=this;have l:=m.1 a n;rw[f a e q (.tail _ b),f u d r (.head _)]at l;exact l
def swR:D->R (List D)
 |.lst a=>if a.all U1=true/\a.length<=63 then .ok (fG flat a)else .bad
 |_=>.bad
def ED {p J:Pos}{f:Ev->R D}(ha:PB X e f)(hh:X.calm=true)(hu:X.A.units+300<dA)(hg:Gl X "sorted":=by rfl)(hm:X.mg "sorted"=none:=by assumption)(hv:df "sorted"=some (.builtin "sorted"):=by decide+kernel)(he:av [e] X.env=(false,d3 e X.env)::av [] X.env:=by rfl)(bg:(dq J (av [] X.env)).any (·.1)=false:=by rfl):
  PF X (.Call (.Name "sorted" p) [e] [] J) (λρ=>(f ρ).bind swR):=by
 refine sG λL s σ H Q I H9 O0 O ρ E q=>?_;dsimp only at q;refine aAL (K8 I hg hm hv ?_ (by decide) (by decide));have lb:PA X [e] _:=J0 ha aM he;refine aBo (E6 (lb J L s σ H (λvs N=>∃v c,vs=[v]/\f ρ=.ok (.lst c)/\Same H N/\A9 X.K N O v (.lst c)) I ⟨H9,O0,O,ρ,E,?_⟩) λus r z9=>?_) he bg
 .cases e1:f ρ with
  |ex z=>rw[e1]at q;exact q
  |bad=>rw[e1]at q;exact q.elim
  |ok d=>
   rw[e1,R.aa0]at q;cases d with
   |lst c=>exactλv N r r1=>⟨v,c,rfl,rfl,r,r1⟩
   |_=>exact aAi q
 .obtain⟨vs,N,I1,r1,v,c,ev,ef,sm,rb⟩:=z9;subst ev;rw[ef,R.aa0]at q;obtain⟨a,ws,rfl,hS,rr⟩:=rb.aa3;obtain⟨u,rfl,ru⟩:=vals1 r1;cases ru;obtain⟨g,T,⟨oL,nL,gL,cL,dL,sL⟩,zL⟩:=I1.list hS;have hl:r.heap.IsList a g.toArray:=⟨oL,gL,cL,nL,sL⟩;simp only[swR]at q;by_cases hc:c.all U1=true/\c.length<=63
  .rw[jk hc]at q;obtain⟨ju,qt⟩:=hc;have pt:∀d∈c,U1 d=true:=aBt.mp ju;have st:u9 X.K N O g c:=u9.of T rr;have t:g.length=c.length:=st.length;have h:∀u∈g,∃d,d∈c/\U1 d=true/\HV r.heap u d:=λu hu=>by obtain⟨d,B,v,T,rp⟩:=st.get hu;exact⟨d,B,pt d B,S6 I1 rp (D6<|pt d B) T⟩
   refine TS.sorted_keys (vs:=g) (f:=true) (key:=BZ r.heap) (C:=λs'=>∃h',s'={r with heap:=h'}/\∀b o,r.heap.get? b=some o->h'.get? b=some o)
    (λ{Q'} hq=>collect_list hl (hq _ ⟨_,rfl,λb o e=>?_⟩) (by rw[t];exact aAr qt (by decide)))
    (λs' ⟨h',m,k⟩ s6 k6 x hx y hy prog w A E hA {Q} qq=>?_) (λh2 s' ⟨h',m,k⟩ s6 k6 A {Q} qq=>?_) (by rw[t];lia) λs' gc h' l ⟨h1,m,k⟩ pm vf k2 hl ⟨n,gl⟩=>?_
   .exact(aAC _ _<|aCg<|aAl<|aAg e).trans (aAc _ e)
   .subst m;obtain⟨d,_,pd,oi⟩:=h x hx;obtain⟨d',_,U,qa⟩:=h y hy;rw[U5 pd oi,U5 U qa]at qq;exact EJ pd U (oi.keeps λb o e _=>k6 b o (k b o e)) (qa.keeps λb o e _=>k6 b o (k b o e)) qq
   .subst m;refine pH (λx hx=>?_) h2 qq;obtain⟨d,_,pd,oi⟩:=h x hx;exact⟨d,pd,oi.keeps λb o e _=>k6 b o (k b o e)⟩
   .subst m;obtain⟨me,p2,yp⟩:=Z2 pm st;have zU:∀d∈me,U1 d=true:=λd B=>pt d (p2.mem_iff.mp B);have qu:DA flat me:=UZ yp vf<|by rintro u d ⟨v,T,rp⟩ B;exact U5 (zU d B) (S6 I1 rp (D6<|zU d B) T)
    have e2:me=fG flat c:=sZ zU qu (qT c) (p2.trans (K5 flat c).symm);subst e2;obtain⟨wv,oh,ko⟩:=u9.ab9 yp;have Y:=I1.kept (h':=h1) (t':=r.toks) k;have I3:=Y.laid (a:=l) (o:=.lst wv) (h':=h') (t':=r.toks) k2 hl ⟨by rw[ko.length,p2.length_eq];exact aAr qt (by decide),gc,n,oh,gl⟩;exact⟨.ref l,_,I3,rfl,q wv _ l sm (Y.hok.fresh hl) ko⟩
  .rw[ka hc]at q;exact q.elim
end DL
namespace DL
open PySem PySem.Spec PySem.Calls PySem.W Builtin Builtin.ObjectAttr Builtin.Getset_descriptor
open PyProof.Rows hiding St
section
variable{prog:bt} {w:cq} {A:cp} {E:E8} {K:Frag} {h:cv} {g:Array GenState} {d:Drawn} {t:Nat} {os:OsState} {a C:bb} {o:Obj}
end
end DL
namespace DL
open PySem PySem.Spec L2
open PyProof.Rows hiding St
variable [Tabs]
section
variable{X:Cx} {pos:Pos}
end
section
variable{X:Cx} {pins:O5} {σ:St} {H H':Hp} {s s':a9}
end
section
variable{K:kc} {H9 H:Hp} {O0 O:bb->Prop} {σ:St} {ρ:Ev}
end
section
variable{X:Cx} {pos ue np:Pos}
end
section
variable{X:Cx} {pos:Pos}
end
section
variable{X:Cx} {pos:Pos}
end
section
end
section
end
section
abbrev BF (X:Cx)(e:cy)(es:List cy):Prop:=av (e::es) X.env=(false,d3 e X.env)::av es X.env
def A3 {i:Int}{j}:PB X (.Constant (.int i) j a) (XE (.int i)):=d4.pb
def xR {e1:cy}{b:Ev->R D}(c:u6 X.prog X.w X.K X.mg X.base k x 1 m)(e:Room f X.A)(a1:PD X e1 b)(g:k<=f:=by decide)(d:BF X e1 []:=by rfl)(h:Gl X x:=by rfl)(l:(x==kd)=false:=by decide)(n:(dq a (av [] X.env)).any (·.1)=false:=by rfl):
 PD X (.Call (.Name x p) [e1] [] a) (λρ=>((q8 b R5) ρ).bind m):=wC c (e.mono g) (f9 a1 m9 d) (w8 R6) h l d n
def V6 {e1 e2:cy}{b d:Ev->R D}(c:u6 X.prog X.w X.K X.mg X.base k x 2 m)(f:Room g X.A)(a1:PD X e1 b)(a2:PD X e2 d)(h:k<=g:=by decide)(e:BF X e1 [e2]:=by rfl)(l:BF X e2 []:=by rfl)(n:Gl X x:=by rfl)(o:(x==kd)=false:=by decide)(q:(dq a (av [e2] X.env)).any (·.1)=false:=by rfl):
 PD X (.Call (.Name x p) [e1,e2] [] a) (λρ=>((q8 b (q8 d R5)) ρ).bind m):=wC c (f.mono h) (f9 a1 (f9 a2 m9 l) e) (w8<|w8 R6) n o e q
def pc3 {e1 e2 a:cy}{d e f:Ev->R D}(c:u6 X.prog X.w X.K X.mg X.base k x 3 m)(h:Room l X.A)(a1:PD X e1 d)(a2:PD X e2 e)(a3:PD X a f)(n:k<=l:=by decide)(g:BF X e1 [e2,a]:=by rfl)(o:BF X e2 [a]:=by rfl)(q:BF X a []:=by rfl)(r:Gl X x:=by rfl)(s:(x==kd)=false:=by decide)(t:(dq b (av [e2,a] X.env)).any (·.1)=false:=by rfl):
 PD X (.Call (.Name x p) [e1,e2,a] [] b) (λρ=>((q8 d (q8 e (q8 f R5))) ρ).bind m):=wC c (h.mono n) (f9 a1 (f9 a2 (f9 a3 m9 q) o) g) (w8<|w8<|w8 R6) r s g t
def pc4 {e1 e2 b a:cy}{e f g h:Ev->R D}(c:u6 X.prog X.w X.K X.mg X.base k x 4 m)(n:Room o X.A)(a1:PD X e1 e)(a2:PD X e2 f)(a3:PD X b g)(q:PD X a h)(r:k<=o:=by decide)(l:BF X e1 [e2,b,a]:=by rfl)(s:BF X e2 [b,a]:=by rfl)(t:BF X b [a]:=by rfl)(u:BF X a []:=by rfl)(v:Gl X x:=by rfl)(y:(x==kd)=false:=by decide)(z:(dq d (av [e2,b,a] X.env)).any (·.1)=false:=by rfl):
 PD X (.Call (.Name x p) [e1,e2,b,a] [] d) (λρ=>((q8 e (q8 f (q8 g (q8 h R5)))) ρ).bind m):=wC c (n.mono r) (f9 a1 (f9 a2 (f9 a3 (f9 q m9 u) t) s) l) (w8<|w8<|w8<|w8 R6) v y l z
def zU {e1 e2:cy}{a b:Ev->R D}{j}(a1:PD X e1 a)(a2:PD X e2 b)(c:BF X e1 [e2]:=by rfl)(d:BF X e2 []:=by rfl):PD X (.Tuple [e1,e2] j e) (λρ=>((q8 a (q8 b R5)) ρ).bind dF):=vY (f9 a1 (f9 a2 m9 d) c)
def FO {e1 e2 a:cy}{b c d:Ev->R D}{j}(a1:PD X e1 b)(a2:PD X e2 c)(a3:PD X a d)(e:BF X e1 [e2,a]:=by rfl)(f:BF X e2 [a]:=by rfl)(g:BF X a []:=by rfl):PD X (.Tuple [e1,e2,a] j h) (λρ=>((q8 b (q8 c (q8 d R5))) ρ).bind dF):=vY (f9 a1 (f9 a2 (f9 a3 m9 g) f) e)
def GH {id:String}{g:List D->R D}{e:cy}{f:Ev->R D}(d:dD X (.builtin id) g)(a:PB X e f)(h:Gl X x:=by rfl)(k:X.mg x=none:=by assumption)(l:df x=some (.builtin id):=by decide+kernel)(m:x≠ "__name__":=by decide)(n:(x==kd)=false:=by decide)(c:BF X e []:=by rfl)(o:(dq b (av [] X.env)).any (·.1)=false:=by rfl):
 PD X (.Call (.Name x p) [e] [] b) (λρ=>(q8 f R5 ρ).bind g):=bC d (o9 a x5 c) h k l m n c o
def JK {g:List Str}{a:i6}{m:Pos}{c:cy}{fe:Ev->R D}(h:∀b e k l C,PD (KF X b k l ([x]++g) a (dN X a C) C e) c fe)(n:([x]++g).Nodup:=by decide+kernel)(o:Loc (relabel a X.env) x:=by first|exact aCw rfl|exact aBE rfl)(p:(a.names.lookup x==some .cell)=true\/(relabel a X.env).names.lookup x=some .local:=by first|exact .inl rfl|exact .inr rfl):
  ∀(b:O5) (e:List bb) (f:Cx),(∃q r C,f=KF X b q r ([x]++g) a (dN X a C) C e)->RF f (.Name x m) (λd ρ=>.ok (ρ.set 0 (.v d)))/\WY f [] (λ_=>.ok true)/\PD f c fe:=by
 rintro b e s ⟨k,l,C,rfl⟩;exact⟨m8 0 n rfl o p,SV,h b e k l C⟩
def TR {l:List Str}{a:i6}{n:Pos}{f c:cy}{fe:Ev->R D}{ft:Ev->R Bool}(h:∀b e g k C,AH (KF X b g k ([x]++l) a (dN X a C) C e) c ft/\PD (KF X b g k ([x]++l) a (dN X a C) C e) f fe)(o:([x]++l).Nodup:=by decide+kernel)(p:Loc (relabel a X.env) x:=by first|exact aCw rfl|exact aBE rfl)(q:(a.names.lookup x==some .cell)=true\/(relabel a X.env).names.lookup x=some .local:=by first|exact .inl rfl|exact .inr rfl):
  ∀(b:O5) (e:List bb) (m:Cx),(∃r s C,m=KF X b r s ([x]++l) a (dN X a C) C e)->RF m (.Name x n) (λd ρ=>.ok (ρ.set 0 (.v d)))/\WY m [c] ft/\PD m f fe:=by
 rintro b e t ⟨g,k,C,rfl⟩;exact⟨m8 0 o rfl p q,UR (h b e g k C).1,(h b e g k C).2⟩
end
end DL
namespace DL
open PySem L2
variable [Tabs]
end DL
namespace M
open PySem L2 DL
variable [Tabs]
def bT (h:B5 d<=40):xT d d=.ok (.bl false):=by unfold xT;rw[jk ⟨h,h⟩,M7];rfl
def HE (J:List G.V):B5 (.lst (J.map vd))<=40:=by
 rw[B5];have:∀J:List G.V,z6 (J.map vd)<=1:=λJ=>by
  induction J with
  |nil=>simp[z6]
  |cons P J a=>rw[aAv,z6];exact Nat.max_le.mpr ⟨by simp[B5,z6],a⟩
 have:=this J
 lia
def zT (k:Int):Int:=6*k*k+5*k+8
def Z3:List D->R D
 |[.lst Y,.int k]=>if 0<=k/\k<=1000 then .ok (tL zT Y k)else .bad
 |_=>.bad
def cJ (Y:List D)(k:Int):Int:=match tL zT Y k with
 |.int i=>i
 |_=>0
def FJ (d:M8 1048576 Y)(k:Int)(h0:0<=k)(b:k<=100):Z3 [.lst Y,.int k]=.ok (.int (cJ Y k))/\bits (cJ Y k)<=2000000:=by
 obtain⟨c,e,a⟩:=KE d zT k;have f:cJ Y k=c:=by unfold cJ;rw[e]
 rw[f];refine⟨(jk ⟨h0,by lia⟩).trans (kb R.ok e),?_⟩;rcases a with a|rfl
 .exact v9 a
 .unfold zT;have g:0<=k*k:=aBK h0 h0;have h:k*k<=100*100:=Int.mul_le_mul b b h0 (by decide);rw[aFk];exact j7 (K9 (n:=30) (by lia) (by lia)) (by decide)
def wl (v:G.V):D:=.lst [.int v.x,.int v.y,.int v.z]
def dw (c w:Int):G.V:=⟨c.fmod w-w.fdiv 2,(c.fdiv w).fmod w-w.fdiv 2,(c.fdiv<|w*w).fmod w-w.fdiv 2⟩
def tmA (c:Int)(at_ j:Nat):Int:=(c.fdiv<|5+7*(at_:Int)+(j:Int)).fmod 5-2
def ZB (P:G.V)(t:Int)(w:G.V):G.V:=⟨P.x+t*w.x,P.y+t*w.y,P.z+t*w.z⟩
def ptA (c:Int)(b:G.V)(ws:List G.V)(at_:Nat):G.V:=match ws with
 |[]=>b
 |[u]=>ZB b (tmA c at_ 0) u
 |u::v::_=>ZB (ZB b (tmA c at_ 0) u) (tmA c at_ 1) v
def my (c:Int)(b:G.V)(ws:List G.V)(n:Nat):List G.V:=(aBw n).map (ptA c b ws)
structure Drawn (J:List G.V):Prop where
 ne:J≠[]
 len:J.length<=40
 sz:∀P∈J,Sz 100 P
 flat:¬G.j8 J
open Classical in
def O9:List D->R D
 |[.lst Y]=>match D1 Y with
  |some J=>if J=[]\/(R1 1000 J/\¬G.j8 J)then .ok (.bl false)else if R1 900 J/\G.j8 J/\(d7 J).length<=14/\J.length<=60 then .ok (.bl (decide (p6 J=J)))else .bad
  |none=>.bad
 |_=>.bad
def YJ (J:List G.V):G.K6 J<=3:=by
 unfold G.K6;split
 .decide
 .dsimp only;split
  .decide
  .split
   .decide
   .split<;>decide
def YT (h:¬G.j8 J):G.K6 J<3:=by
 have a:=YJ J;have b:G.K6 J≠3:=λe=>h (G.uI e)
 lia
def WV (a:R1 1000 J)(h:J≠[]):u4 [.lst (J.map vd)]=.ok (.int (G.K6 J)):=by simp only[u4,o7];exact jk ⟨h,a⟩
theorem FZ:∀a b:List G.V,S7 (a.map vd) (b.map vd)=decide (a=b)
 |[],[]=>rfl
 |[],_::_=>rfl
 |_::_,[]=>rfl
 |P::a,Q::b=>by rw[aAv,aAv,S7,FZ a b];obtain⟨x,y,z⟩:=P;obtain⟨c,d,e⟩:=Q;simp[u7,S7,Bool.and_assoc];rfl
def BU (a b:List G.V):DI (.lst (a.map vd)) (.lst (b.map vd))=.ok (.bl (decide (a=b))):=by unfold DI;rw[jk ⟨HE a,HE b⟩,u7,FZ]
def XD (t:Int):Int:=(t*40009+6007).fmod 2147483647
def oB (s k:Int):Int:=(s*s+5003*k+11).fmod 2147483647
def tx (s:Int):Int:=s.fmod 2000000011-1000000000
def XM (t:Int):G.V:=⟨tx (oB (XD t) 0),tx (oB (oB (XD t) 0) 1),tx (oB (oB (oB (XD t) 0) 1) 2)⟩
def cZ (way:Int):Int:=if way=0 then 3 else if way=1 then 5 else if way=2 then 9 else 2000000001
def XI (t way:Int):G.V:=if way=4 then XM t else dw t (cZ way)
def cw (t way:Int):Sz 40 (XI t way):=by
 unfold XI;split
 .have a:∀s,bits (tx s)<=40:=λs=>bits_sub (bits_fmod (by decide) (show bits 2000000011<=39 by decide)) (show bits 1000000000<=39 by decide);exact⟨a _,a _,a _⟩
 .have w:cZ way≠0/\bits (cZ way)<=39:=by
   unfold cZ
   repeat' split
   all_goals decide
  have d:∀c:Int,bits (c.fmod (cZ way)-(cZ way).fdiv 2)<=40:=λc=>bits_sub (bits_fmod w.1 w.2) (bits_fdiv w.2);exact⟨d _,d _,d _⟩
open Classical in
def bM:List D->R D
 |[.int t,.int a]=>if bits t<=3000000/\0<=a/\a<=4 then .ok (vd (XI t a))else .bad
 |_=>.bad
def JQ {t way:Int}(h:bits t<=3000000)(h0:0<=way)(a:way<=4):bM [.int t,.int way]=.ok (vd (XI t way)):=jk ⟨h,h0,a⟩
def MU (l:List Int):List D:=l.map D.int
def gI:List D->Option (List Int)
 |[]=>some []
 |.int i::r=>match gI r with
  |some l=>some (i::l)
  |none=>none
 |_=>none
@[simp]theorem vD:∀l:List Int,gI (MU l)=some l
 |[]=>rfl
 |i::l=>by have:=vD l;unfold MU at this;simp[MU,gI,this]
theorem pE:∀{ds:List D} {l:List Int},gI ds=some l->ds=MU l
 |[],l,h=>by simp[gI]at h;subst h;rfl
 |.int i::r,l,h=>by
  simp only[gI]at h;split at h
  .rename_i a e;injection h with h;subst h;rw[pE e];rfl
  .cases h
 |.tup _::_,_,h=>by simp[gI]at h
 |.lst _::_,_,h=>by simp[gI]at h
 |.bl _::_,_,h=>by simp[gI]at h
def yL (l:List Int):G.Sl:=⟨l.getD 0 0,l.getD 1 0,l.getD 2 0,⟨l.getD 3 0,l.getD 4 0,l.getD 5 0⟩,decide (l.getD 6 0=1)⟩
def cF (l:List Int):Prop:=l.length=7/\∀i∈l,bits i<=100
open Classical in
def K4:List D->R D
 |[p,.lst Y]=>match rH p,gI Y with
  |some P,some l=>if cF l/\Sz 500 P then .ok (vd ((yL l).put P))else .bad
  |_,_=>.bad
 |_=>.bad
def yY {l:List Int}{P:G.V}(h:cF l)(a:Sz 500 P):K4 [vd P,.lst (MU l)]=.ok (vd ((yL l).put P)):=by simp only[K4,oD,vD];exact jk ⟨h,a⟩
def AR (c:Int):Int:=(c.fdiv 1029*271828182845904523536).fmod 200000000000000000001-100000000000000000000
def s7 (c k:Int):Int:=(c.fdiv k).fmod 7-3
def YA (c:Int):List Int:=(if c.fmod 3=2 then[s7 c 3*7654321,s7 c 21*7654321,s7 c 147*7654321]else[s7 c 3,s7 c 21,s7 c 147])++[AR c,0-(AR c).fdiv 7,(c.fdiv 1029).fmod 50,(c.fdiv 9).fmod 2]
def MZ (c:Int):cF (YA c):=by
 have s:∀k,bits (s7 c k)<=4:=λk=>bits_sub (bits_fmod (by decide) (show bits 7<=3 by decide)) (show bits 3<=3 by decide);have m:∀k,bits (s7 c k*7654321)<=100:=λk=>j7 (bits_mul (s k) (show bits 7654321<=30 by decide)) (by decide);have a:∀k,bits (s7 c k)<=100:=λk=>j7 (s k) (by decide);have f:bits (AR c)<=99:=bits_sub (n:=98) (bits_fmod (by decide) (by decide)) (by decide);have r:∀x∈[AR c,0-(AR c).fdiv 7,(c.fdiv 1029).fmod 50,(c.fdiv 9).fmod 2],bits x<=100:=by simp only[aCe];exact⟨j7 f (by decide),bits_sub (show bits 0<=99 by decide) (bits_fdiv f),bits_fmod (by decide) (by decide),bits_fmod (by decide) (by decide),λ_ h=>by cases h⟩
 unfold YA;split
 .exact⟨rfl,aCe.mpr ⟨m _,aCe.mpr ⟨m _,aCe.mpr ⟨m _,r⟩⟩⟩⟩
 .exact⟨rfl,aCe.mpr ⟨a _,aCe.mpr ⟨a _,aCe.mpr ⟨a _,r⟩⟩⟩⟩
open Classical in
def W0:List D->R D
 |[.int c]=>if bits c<=3000000 then .ok (.lst (MU (YA c)))else .bad
 |_=>.bad
def BV {c:Int}(h:bits c<=3000000):W0 [.int c]=.ok (.lst (MU (YA c))):=jk h
def HK {J:List G.V}{n:G.V}{d:Int}(h:R1 900 J)(a:G.IsFace (d7 J) n d):Sz 2003 n:=by obtain⟨A,b,B,c,C,f,_,e⟩:=G.mG a;have z:∀X∈d7 J,Sz 1000 X:=λX g=>(h.1 X (t5.mp g)).mono;have:=pA (z A b) (z B c) (z C f);rw[e]at this;exact this
def lQ {J:List G.V}(d:R1 900 J)(g:G.j8 J)(b:(d7 J).length<=14):(∀f,f∈j9 (d7 J)↔G.IsFace (d7 J) f.1 f.2)/\j9 (d7 J)≠[]/\(j9 (d7 J)).length<=2744:=by obtain⟨m,r,e,L⟩:=U8 d g (by lia);have c:=b;rw[e]at c;have a:=F8 L c;rw[<-e]at a L;have h:=L9 (W5 a.2);have few:=G.LD h λf k=>(a.1 f).mp k;have l:(d7 J).length*((d7 J).length*(d7 J).length)<=14*(14*14):=aEc b (aEc b b);refine⟨a.1,λz=>?_,aAr few l⟩;have q:=G.iK L.good.solid L.good.ord L.good.mem L.good.least;have:=(a.1 (_,_)).mpr q;rw[z]at this;cases this
def intD:D->Int
 |.int i=>i
 |_=>0
def vG:Nat->List D->List D
 |_,[]=>[]
 |k,d::a=>.tup [.int (k:Int),d]::vG (k+1) a
theorem uB:∀(Y:List D) (k i:Nat),(vG k Y)[i]?=Y[i]?.map λd=>D.tup [.int ((k+i:Nat):Int),d]
 |[],_,_=>rfl
 |d::a,k,0=>rfl
 |d::a,k,i+1=>by rw[vG,aDg,aDg,uB a (k+1) i,Nat.add_right_comm];rfl
def TF (Y:List D):GE Y=vG 0 Y:=aDy λi=>by rw[lT,uB,aEf]
def zE (m:Nat):Nat->List D->List Int->List Int
 |_,[],a=>a
 |k,d::b,a=>zE m (k+1) b (a.set (k%m) (a.getD (k%m) 0+intD d))
def yH (m:Nat):List Int:=(aBw m).map λ(k:Nat)=>5*(k:Int)*k+3*k
def x4 (Y:List D)(most:Int):Nat:=(4+(cJ Y 0).fmod (most-3)).toNat
def AM (Y:List D)(most:Int):List Int:=zE (x4 Y most) 0 ((Y.take 63).drop 2) (yH<|x4 Y most)
def iJ (Y:List D)(most:Int):List G.V:=(AM Y most).map λt=>XI t ((cJ Y 1).fmod 5)
theorem HX (m:Nat)(c:0<m):∀(ds:List D) (k:Nat) (ts:List Int),M8 1048576 ds->ts.length=m->(∀t∈ts,bits t<=1100000+k)->(zE m k ds ts).length=m/\∀t∈zE m k ds ts,bits t<=1100000+k+ds.length
 |[],k,ts,_,h,b=>⟨h,b⟩
 |d::ds,k,ts,e,h,b=>by
  have:=HX m c ds (k+1) (ts.set (k%m)<|ts.getD (k%m) 0+intD d) (λx g=>e x (.tail _ g)) (by simpa using h) (λt a=>by
   rcases List.mem_or_eq_of_mem_set a with a|rfl
   .exact j7 (b t a) (by lia)
   .have f:k%m<ts.length:=by rw[h];exact aDO _ c
    have l:bits (ts.getD (k%m) 0)<=1100000+k:=by rw[aAq,aAh f];exact b _ (aBR f)
    obtain⟨i,rfl,n⟩:=e d (.head _);exact bits_add l (j7 n (by lia)))
  refine⟨this.1,λt a=>j7 (this.2 t a) ?_⟩;simp only[aAw];lia
def iI (Y:List D){most:Int}(h0:4<=most):4<=x4 Y most/\(x4 Y most:Int)<=most/\(x4 Y most:Int)=4+(cJ Y 0).fmod (most-3):=by have:=iT (a:=cJ Y 0) (b:=most-3) (by lia);unfold x4;lia
def GF (m:Nat)(h:m<=20):(yH m).length=m/\∀t∈yH m,bits t<=1100000:=by
 unfold yH;refine⟨by simp,λt a=>?_⟩;obtain⟨k,b,rfl⟩:=aAp.mp a;have c:k<m:=by simpa using b
 have d:(k:Int)*k<=20*20:=Int.mul_le_mul (by lia) (by lia) (by lia) (by decide);have e:0<=(k:Int)*k:=aBK (by lia) (by lia);rw[aFk];exact j7 (K9 (n:=30) (by lia) (by lia)) (by decide)
def RI {Y:List D}{most:Int}(b:M8 1048576 Y)(h0:4<=most)(e:most<=20):(AM Y most).length=x4 Y most/\∀t∈AM Y most,bits t<=1100061:=by
 have f:=iI Y h0;have a:=GF (x4 Y most) (by lia);have:=HX (x4 Y most) (by lia) ((Y.take 63).drop 2) 0 (yH<|x4 Y most) (λx c=>b x (aEt<|aCU c)) a.1 a.2;refine⟨this.1,λt d=>j7 (this.2 t d) ?_⟩;have:((Y.take 63).drop 2).length<=61:=by simp;lia
 lia
open Classical in
def fS:List D->R D
 |[.lst Y,.int a]=>if M8 1048576 Y/\Y.length<=63/\4<=a/\a<=20 then .ok (.lst ((iJ Y a).map vd))else .bad
 |_=>.bad
def EZ {Y:List D}{most:Int}(a:M8 1048576 Y)(b:Y.length<=63)(h0:4<=most)(c:most<=20):fS [.lst Y,.int most]=.ok (.lst ((iJ Y most).map vd)):=jk ⟨a,b,h0,c⟩
def RU {Y:List D}{most:Int}(b:M8 1048576 Y)(h0:4<=most)(c:most<=20):(∀p∈iJ Y most,Sz 40 p)/\4<=(iJ Y most).length/\((iJ Y most).length:Int)<=most:=by have t:=RI b h0 c;have m:=iI Y h0;unfold iJ;refine⟨λp d=>?_,by rw[aAf,t.1];lia,by rw[aAf,t.1];lia⟩;obtain⟨a,_,rfl⟩:=aAp.mp d;exact cw ..
def ay (Y:List D):LM (.lst Y) (some 2) (some 63)=.ok (.lst ((Y.take 63).drop 2)):=by
 show R.ok (D.lst<|cutD Y (some 2)<|some 63)=_;rw[List.drop_take];show R.ok (D.lst<|List.take (min 63 Y.length-min 2 Y.length)<|List.drop (min 2 Y.length) Y)=_;by_cases h:Y.length<=2
 .rw[aFC (by lia),aFC (by lia)];simp
 .rw[aFG (by lia:2<=Y.length)];by_cases a:Y.length<=63
  .rw[aCK (by simp;lia),aCK (by simp;lia)]
  .rw[aFG (by lia)]
open Classical in
def gD (J:List G.V):List G.V:=if G.j8 J then J else match J with
 |[]=>[]
 |P::r=>(P::r)++[⟨P.x+1,P.y,P.z⟩,⟨P.x,P.y+1,P.z⟩,⟨P.x,P.y,P.z+1⟩]
open Classical in
def dQ:List D->R D
 |[.lst a]=>match D1 a with
  |some J=>if J≠[]/\(∀p∈J,Sz 300 p)/\J.length<=1000 then .ok (.lst ((gD J).map vd))else .bad
  |_=>.bad
 |_=>.bad
def jD {α β:Type}{G:D->Ev->R Ev}{fe:Ev->R D}{ρ:Ev}(rep:α->D)(b:β->D)(g:α->β)(l:List α)(h:∀a∈l,∃ρ1,G (rep a) ρ=.ok ρ1/\fe ρ1=.ok (b (g a))):u8 G (λ_=>.ok true) fe ρ (l.map rep)=.ok ((l.map g).map b):=by rw[aBn];exact G4 rep _ l h
theorem qA {α:Type}{G:D->Ev->R Ev}{F:Ev->R Out}{x:D}{Iv:Ev->Prop}(rep:α->D)(p:α->Prop)(g:Ev->Prop)(r:∀ρ,g ρ->Iv ρ):∀(l:List α) (ρ:Ev),g ρ->(∀a∈l,∀ρ,g ρ->(p a/\O8 G F (rep a) ρ=.ok (.rt x))\/(¬p a/\∃ρ2,O8 G F (rep a) ρ=.ok (.nx ρ2)/\g ρ2))->((∃a∈l,p a)/\G1 G F (l.map rep) ρ=.ok (.rt x))\/(¬(∃a∈l,p a)/\∃ρ2,G1 G F (l.map rep) ρ=.ok (.nx ρ2)/\Iv ρ2)
 |[],ρ,h,_=>.inr ⟨by rintro⟨a,q,_⟩;exact(by cases q),ρ,rfl,r ρ h⟩
 |a::l,ρ,h,s=>by
  have t:∀{o},O8 G F (rep a) ρ=.ok o->∃c,G (rep a) ρ=.ok c/\F c=.ok o:=λ{o} e=>by
   unfold O8 at e;cases d:G (rep a) ρ with
   |ok c=>rw[d]at e;exact⟨c,rfl,e⟩
   |ex z=>rw[d]at e;cases e
   |bad=>rw[d]at e;cases e
  rcases s a (.head _) ρ h with⟨k,e⟩|⟨k,ρ2,e,v⟩
  .obtain⟨c,d,m⟩:=t e;exact .inl ⟨⟨a,.head _,k⟩,kJ d m⟩
  .obtain⟨c,d,m⟩:=t e;rw[aAv,M4 d m];rcases qA rep p g r l ρ2 v (λb f=>s b (.tail _ f))with⟨⟨b,f,q⟩,n⟩|⟨q,n⟩
   .exact .inl ⟨⟨b,.tail _ f,q⟩,n⟩
   .exact .inr ⟨by
     rintro⟨b,f,u⟩;cases f with
     |head=>exact k u
     |tail _ f=>exact q ⟨b,f,u⟩,n⟩
def UL {α:Type}{G:D->Ev->R Ev}{F f:Ev->R Out}{x d:D}{l:List α}{ρ:Ev}(rep:α->D)(p:α->Prop)(b:Ev->Prop)(h:b ρ)(k:∀a∈l,∀ρ,b ρ->(p a/\O8 G F (rep a) ρ=.ok (.rt x))\/(¬p a/\∃ρ2,O8 G F (rep a) ρ=.ok (.nx ρ2)/\b ρ2))(c:(∃a∈l,p a)->x=d)(no:¬(∃a∈l,p a)->∀g,b g->N6 (f g)=.ok d):N6 (D9 (G1 G F (l.map rep) ρ) f)=.ok d:=by
 rcases qA (Iv:=b) rep p b (λ_ h=>h) l ρ h k with⟨q,e⟩|⟨q,ρ2,e,m⟩
 .rw[e,<-c q];rfl
 .rw[e];exact no q ρ2 m
def jW (J:List G.V):z6 (J.map vd)<=5:=by
 induction J with
 |nil=>simp[z6]
 |cons v l a=>rw[aAv,z6];simp[B5,z6]at a⊢;lia
def TY (J:List G.V):xT (.lst (J.map vd)) (.lst [])=.ok (.bl (!J.isEmpty)):=by have:=jW J;unfold xT;rw[jk ⟨by rw[B5];lia,by simp[B5,z6]⟩];cases J<;>simp[u7,S7]
def aj (W:List G.V)(u v:G.V):Prop:=G.cr u v≠0/\∃w∈W,G.c8 (G.cr u v) w≠0
def ZZ (W:List G.V)(u:G.V):Prop:=∃v∈W,aj W u v
def WI {P:G.V}{ps:List G.V}(h:∃u∈(P::ps).map (· -P),ZZ ((P::ps).map (· -P)) u):gD (P::ps)=P::ps:=by unfold gD;rw[jk];obtain⟨u,d,v,e,c,w,f,q⟩:=h;obtain⟨u,g,rfl⟩:=aAp.mp d;obtain⟨v,a,rfl⟩:=aAp.mp e;obtain⟨w,b,rfl⟩:=aAp.mp f;exact(G.pN<|.head _).mpr ⟨u,g,v,a,c,w,b,q⟩
def ZK {P:G.V}{ps:List G.V}(h:¬∃u∈(P::ps).map (· -P),ZZ ((P::ps).map (· -P)) u):gD (P::ps)=(P::ps)++[⟨P.x+1,P.y,P.z⟩,⟨P.x,P.y+1,P.z⟩,⟨P.x,P.y,P.z+1⟩]:=by unfold gD;rw[ka];intro s;obtain⟨u,b,v,d,c,w,e,q⟩:=(G.pN<|aBa (a:=P)).mp s;exact h ⟨_,aBf b,_,aBf d,c,_,aBf e,q⟩
def IR {J:List G.V}(h:J≠[]):G.j8 (gD J):=by
 match J,h with
 |P::r,_=>
  unfold gD;split
  .assumption
  .exact G.yN P (.head _)
def LC {J:List G.V}(h:J≠[])(a:∀p∈J,Sz 300 p)(b:J.length<=1000):dQ [.lst (J.map vd)]=.ok (.lst ((gD J).map vd)):=by simp only[dQ,o7];exact jk ⟨h,a,b⟩
def MN {J:List G.V}(c:∀p∈J,Sz 40 p):(∀p∈gD J,Sz 41 p)/\(gD J).length<=J.length+3:=by
 unfold gD;split
 .exact⟨λp a=>(c p a).mono,by lia⟩
 .match J,c with
  |[],c=>exact⟨λp a=>(nomatch a),aAY _⟩
  |P::r,c=>
   refine⟨λp a=>?_,by simp⟩;have b:=c P (.head _);have m:∀{i:Int},bits i<=40->bits i<=41:=λh=>j7 h (by lia);have d:∀{i:Int},bits i<=40->bits (i+1)<=41:=λh=>bits_add h (show bits 1<=40 by decide);rcases aAN.mp a with a|a
   .exact(c p a).mono
   .simp only[aAd,aAD,or_false]at a;rcases a with rfl|rfl|rfl
    .exact⟨d b.1,m b.2.1,m b.2.2⟩
    .exact⟨m b.1,d b.2.1,m b.2.2⟩
    .exact⟨m b.1,m b.2.1,d b.2.2⟩
end M
namespace SD
open PySem
def IsD (h:cv)(d:bb)(es:Array ik)(ep:Nat):Prop:=∃o,h.get? d=some o/\o.ExactDict/\o.data=.dict es ep
def IsD.at (x:IsD h d es ep)(e:∀o,h.get? d=some o->h'.get? d=some o):IsD h' d es ep:=let⟨o,a,r⟩:=x;⟨o,e o a,r⟩
def IsD.type {s:a9}(x:IsD s.heap d es ep):s.TypeIs (.ref d) "dict":=let⟨o,a,r,_⟩:=x;⟨o,a,r.1⟩
section
variable{prog:bt} {w:cq} {A:cp} {E:E8} {s:a9} {d it:bb} {es:Array ik} {ep i:Nat}
def UB {Q:E8}(f:(d==hV)=false)(c:IsD s.heap d es ep)
  (g:Q (.ref s.heap.objs.size) {s with heap:=s.heap.push {cls:=.type "dict_keyiterator",data:=.fields #[.ref d,.int 0 0,.int es.size 0,.int ep 0]}}):a5 (bc prog w) A (pyIter (.ref d)) Q E s:=by
 have b:=c.type;obtain⟨o,e,h,a⟩:=c;refine aDZ b F.slot_dict_iter (aBh F.slot_dict_iter b F.entry_dict_iter (aAa ?_)<|F.args_dict_iter_1 _);unfold Builtin.Dict.dictSlotNone;refine aAa (wpAny_notOrdered_dict b<|aAb (?_:a5 _ _ (aFL d>>=_) _ _ s));unfold aFL;rw[ka (by rw[f];decide)];refine aAa (aAb<|aAa<|wpAny_dictEntries e a<|aAa<|wpAny_dictEpoch e a<|aAa<|aAS<|aAb ⟨_,rfl, "dict_keyiterator",_,⟨_,aAo _ rfl,rfl⟩,aDp.lookup,?_⟩);simpa[d9]using g
def GG {Q:Option ai->a9->Prop}(q:A.handled=none)(g:s.heap.IsKeyIter it d i es.size ep)(r:IsD s.heap d es ep)
  (t:∀(e:i<es.size) h',h'.IsKeyIter it d (i+1) es.size ep->Heap.SameBut it s.heap h'->Q (some es[i].key) {s with heap:=h'}) (hE:es.size<=i->∀h',Heap.ExtBut it s.heap h'->Q none {s with heap:=h'}):a5 (bc prog w) A (fT (.ref it)) Q E s:=by
 have f:=g.typeIs;obtain⟨o,p,u,h⟩:=g;obtain⟨v,k,x,l⟩:=r;have n:Builtin.Dict_items.ownsTuple "dict_keyiterator"=false:=by decide
 unfold fT;refine aAa (aDU<|aBY (name:=aCD "__next__") f aDp<|aBh aDp f F.entry_dict_keyiterator_next (aAa<|aAb<|aAa<|aAa ?_)<|F.args_dict_keyiterator_next_1 _);refine aAa (aDj f<|aAb<|aAa<|aFX p h ?_);simp only[n,aAt,if_false];show a5 _ _ (if(aDv d==Value.none)=true then _ else _) _ _ s;rw[ka (by intro z;cases z)];refine aAa (aAb<|aAa<|wpAny_dictEntries k l ?_);rw[ka (by simp)];refine aAa (aAb<|aAa<|wpAny_dictEpoch k l ?_);rw[ka (by simp)];refine aAb ?_;by_cases e:i<es.size
 .simp only[show¬((i:Int)<0)by lia,if_false,aBA,aAy e];refine aAa ?_;refine aAa (aDj f<|aAb<|aAa<|wpAny_isOneOf_keyiter f ?_);show a5 _ _ (setField (.ref it) 1 (d9<|(i:Int)+1)>>=_) _ _ s;refine aAa (aFY p h (by simp) ?_);have c:(s.heap.update it (Obj.mapFields (·.setIfInBounds 1 (d9<|(i:Int)+1)))).IsKeyIter it d (i+1) es.size ep:=⟨_,aAZ _ p (Obj.isFreed_of_fields<|Obj.data_mapFields h _),(Obj.cls_mapFields ..).trans u,by rw[Obj.data_mapFields h];simp[d9]⟩;refine aAa (aAK (aAa (wpAny_isOneOf_keyiter (s:={s with heap:=s.heap.update it (Obj.mapFields (·.setIfInBounds 1 (d9<|(i:Int)+1)))}) c.typeIs (?_:a5 _ _ (pure es[i].key) _ _ _))));exact aAb (aAb ⟨_,rfl,aAb (t e _ c<|aEF ..)⟩)
 .have e:es.size<=i:=by lia
  simp only[show¬((i:Int)<0)by lia,if_false,aBA,aBC e];refine aAa ?_;refine aAa (aDj f<|aAb (?_:a5 _ _ (setField (.ref it) 0 .none>>=_) _ _ s));refine aAa (aFY p h (by simp) (?_:a5 _ _ (newExc (.type "StopIteration") []>>=_) _ _ _));refine aAa ?_;simp only[newExc,newTuple];refine aAa (aAS (aAa (m:=firstArgMember _ _) (aGg (a:=Value.none) (by first|rfl|(simp only[firstArgMember];rfl)) (aAS ?_ (by size_fits)))) (by size_fits));simp only[raiseNew];refine aAa (wpAny_handled ?_);rw[show A.in1.handled=none from q];refine aAa (aAb<|wpAny_throw ?_);refine aAa (aDi (T:= "StopIteration") (b:=true) ⟨_,aAo _ rfl,rfl⟩ aFZ<|aAb<|hE e _<|((aEF ..).extBut.push _).push _)
end
def LN {prog:bt}{w:cq}{A:cp}(k:A.handled=none)(I d:bb)(p:d≠I)(es:Array ik)(ep:Nat):
  Walks prog w A I [I,d] [I] es.size (λi v=>∃e,es[i]?=some e/\v=e.key) (λi h=>h.IsKeyIter I d i es.size ep/\IsD h d es ep)where
 sub:=λb a=>by simp at a;simp[a]
 frame:=λ_ _ _ st l=>⟨Heap.IsKeyIter.at st.1 λo e=>l I (by simp) o e,st.2.at λo e=>l d (by simp) o e⟩
 item:=λi s Q E m st c=>GG k st.1 st.2 (hE:=λz=>by lia) λm f g n=>c _ f s.toks ⟨es[i],aAy m,rfl⟩ ⟨g,st.2.at λo e=>(n.2 d p).trans e⟩ λb o a e=>(n.2 b (λz=>a (by simp[z]))).trans e
 done:=λs Q E st c=>GG k st.1 st.2 (λz=>by lia) λ_ f q=>c f s.toks λb o a e=>q b o (λz=>a (by simp[z])) e
 self:=λ_ _ _ _ st c=>wpAny_pyIter_keyiter st.1 c
section
variable{prog:bt} {w:cq} {A:cp} {E:E8} {s:a9} {d:bb} {es:Array ik} {ep:Nat}
def dj (a:(d==hV)=false):PySem.W.KdlSrc prog w "dict" d d es.size (λi v=>∃e,es[i]?=some e/\v=e.key) (λh=>IsD h d es ep)where
 type:=λs h=>h.type
 there:=by rintro h ⟨o,g,_⟩;exact⟨aAg g,aAg g⟩
 keep:=λh c x k=>x.at λo e=>k d (.inl rfl) o e
 notList:=by decide
 notTuple:=by decide
 hint:=λA E s Q ok q=>PySem.W.kdl_hint_dict ok.type q
 iter:=λA s b ok=>⟨_,λi h=>h.IsKeyIter s.heap.objs.size d i es.size ep/\IsD h d es ep,λE Q q=>UB a ok q,LN b _ d (by obtain⟨o,g,_⟩:=ok;exact aAl (aAg g)) es ep,⟨_,aAo _ rfl,rfl,rfl⟩,ok.at λo e=>aAc _ e⟩
def collect_dk {Q:List ai->a9->Prop}(q:A.handled=none)(r:(d==hV)=false)(k:IsD s.heap d es ep)(t:es.size<=sizeLine)
  (u:∀h' tk,(∀b o,s.heap.get? b=some o->h'.get? b=some o)->Q (es.toList.map (·.key)) {s with heap:=h',toks:=tk}):a5 (bc prog w) A (collect (.ref d)) Q E s:=by
 have m:d<s.heap.objs.size:=by obtain⟨o,g,_⟩:=k;exact aAg g
 unfold collect;refine aAa (aFW<|aBu PySem.F.entry_proto_collect ?_);rw[aAX PySem.F.plain_proto_collect _];show a5 _ A.in1 (newList []>>=λl=>again (.builtin "list.__iadd__" ⟨[l,.ref d],[]⟩)) _ _ s;have a:∀b o,s.heap.get? b=some o->(s.heap.push {cls:=.type "list",data:=.seq ([]:List ai).toArray}).get? b=some o:=λb o e=>aAc _ e;have f:∀R:Result->a9->Prop,(∀h' tk n x,(∀b o,b≠s.heap.objs.size->(s.heap.push {cls:=.type "list",data:=.seq ([]:List ai).toArray}).get? b=some o->h'.get? b=some o)->h'.get? s.heap.objs.size=some {cls:=.type "list",dict:=none,data:=.seq n x,slots:=#[]}->ItemsOf (λi v=>∃e,es[i]?=some e/\v=e.key) n es.size->R (.ok (.ret (.ref s.heap.objs.size))) {s with heap:=h',toks:=tk})->
   gn (bc prog w) A (.builtin "list.__iadd__" ⟨[.ref s.heap.objs.size,.ref d],[]⟩) R {s with heap:=s.heap.push {cls:=.type "list",data:=.seq ([]:List ai).toArray}}:=λR y=>aBu PySem.F.entry_list_iadd (by
  rw[aAX PySem.F.plain_list_iadd _];exact PySem.W.kdl_extend (s:={s with heap:=s.heap.push {cls:=.type "list",data:=.seq ([]:List ai).toArray}}) (dj (es:=es) (ep:=ep) r) q (k.at λo e=>a d o e) s.heap.objs.size (aCC m) (aCC m) (.ref s.heap.objs.size) 0 (aAo _ rfl) y t)
 refine aAa (aAS<|aAb ⟨aBQ PySem.F.plain_list_iadd _,f _ λh' tk B c z C h=>?_⟩);show a5 _ A (load s.heap.objs.size>>=_) _ _ _;refine aAa (wpAny_load (s:={s with heap:=h',toks:=tk}) C<|aAb ?_);have H:B.toList=es.toList.map (·.key):=by
  apply aDy;intro i;rw[aAG,aAA,aAA];by_cases I:i<es.size
  .have p:i<B.size:=by rw[h.1];exact I
   obtain⟨e,J,L⟩:=h.2 i _ (aAy p);rw[J,aAy p,L];rfl
  .rw[aBC (by rw[h.1];lia),aBC (by lia)];rfl
 show Q B.toList _;rw[H];exact u h' tk λb o e=>z b o (aAl<|aAg e) (a b o e)
end
end SD
namespace DL
open PySem L2
section
variable [Tabs]
open Classical in
def sdR (i:Nat) (ρ:Ev):R (List D):=match ρ[i]? with
 |some (.d U)=>if(U.map (·.1)).all U1=true/\U.length<=63 then .ok (T5 (U.map (·.1)))else .bad
 |_=>.bad
theorem pT {K:kc}{H:Hp}{O:bb->Prop}:∀{es:List ik} {U:List (D×D)},nU K H O es U->u9 K H O (es.map (·.key)) (U.map (·.1))
 |[],[],_=>.nil
 |e::es,p::U,.cons h t=>by obtain⟨⟨a,b,r⟩,_⟩:=h;exact .cons ⟨.ref a,by show RelV (.ref a) e.key;rw[b];rfl,r⟩ (pT t)
def BN (i:Nat){x:Str}{p r t:Pos}(hh:X.calm=true)(hu:X.A.units+300<dA)(hN:X.N[i]?=some x:=by rfl)(hv:BC X.env.scope x:=by first|exact aCw rfl|exact aBE (aCw rfl)|exact aBE (aBE rfl))(h:(x==kd)=false:=by decide)(fb:(x==ku)=false:=by decide)
  (hg:Gl X "sorted":=by rfl) (hm:X.mg "sorted"=none:=by assumption) (hvb:df "sorted"=some (.builtin "sorted"):=by decide+kernel) (he:av [.Name x r] X.env=(false,d3 (.Name x r) X.env)::av [] X.env:=by rfl) (bg:(dq t (av [] X.env)).any (·.1)=false:=by rfl):
  PF X (.Call (.Name "sorted" p) [.Name x r] [] t) (sdR i):=by
 refine sG λJ s σ H Q I H9 O0 O ρ E q=>?_;unfold sdR at q;cases e2:ρ[i]? with
 |none=>rw[e2]at q;exact aAi q
 |some sl=>
  rw[e2]at q;cases sl with
  |d U=>
   dsimp only at q;by_cases hc:(U.map (·.1)).all U1=true/\U.length<=63
   .rw[jk hc]at q;obtain⟨a,o,es,h1,_,_,h4,h5,h6,nd⟩:=E.slot i _ e2;refine aAL (K8 I hg hm hvb ?_ (by decide) (by decide));have lb:PA X [.Name x r] _:=J0 (N0 hN hv h fb) aM he;refine aBo (E6 (lb t J s σ H (λvs H1=>vs=[.ref a]/\H1=H) I ⟨_,h1,rfl,rfl⟩) λus z z9=>?_) he bg;obtain⟨vs,H1,L,r1,ev,eH⟩:=z9;subst ev eH;obtain⟨u,rfl,ru⟩:=vals1 r1;cases ru;obtain⟨ju,qt⟩:=hc;obtain⟨T,Y,B,ep,hdat,ees⟩:=h5;have hD:SD.IsD z.heap a B ep:=⟨o,(L.hok a _ h4).1,Y,hdat⟩;have pt:∀d∈U.map (·.1),U1 d=true:=aBt.mp ju;have st:u9 X.K H1 O (B.toList.map (·.key)) (U.map (·.1)):=by rw[ees];exact pT h6
    have hlen:(B.toList.map (·.key)).length=U.length:=by rw[st.length,aAf]
    have hsz:B.size=U.length:=by rw[<-hlen];simp
    have c:∀u∈B.toList.map (·.key),∃d,d∈U.map (·.1)/\U1 d=true/\HV z.heap u d:=λu hu=>by obtain⟨d,h,v,rv,rp⟩:=st.get hu;exact⟨d,h,pt d h,S6 L rp (D6<|pt d h) rv⟩
    refine TS.sorted_keys (vs:=B.toList.map (·.key)) (f:=true) (key:=BZ z.heap) (C:=λs'=>∃h' m,s'={z with heap:=h',toks:=m}/\∀b o,z.heap.get? b=some o->h'.get? b=some o)
     (λ{Q'} hq=>SD.collect_dk (by simp[L.ok.hd hh]) T hD (by rw[hsz];exact aAr qt (by decide)) λh' m k=>hq _ ⟨h',m,rfl,k⟩)
     (λs' ⟨h',m,g,k⟩ s6 k6 x Y y hy prog w A E hA {Q} qq=>?_) (λh2 s' ⟨h',m,g,k⟩ s6 k6 A {Q} qq=>?_) (by rw[hlen];lia) λs' gc h' l ⟨h1,m,g,k⟩ pm vf k2 hl ⟨n,gl⟩=>?_
    .subst g;obtain⟨d,_,pd,oi⟩:=c x Y;obtain⟨d',_,pd',qa⟩:=c y hy;rw[U5 pd oi,U5 pd' qa]at qq;exact EJ pd pd' (oi.keeps λb o e _=>k6 b o (k b o e)) (qa.keeps λb o e _=>k6 b o (k b o e)) qq
    .subst g;refine pH (λx Y=>?_) h2 qq;obtain⟨d,_,pd,oi⟩:=c x Y;exact⟨d,pd,oi.keeps λb o e _=>k6 b o (k b o e)⟩
    .subst g;obtain⟨me,yp,r,qu⟩:=kL (key:=BZ z.heap) st pm vf (by rintro u d ⟨v,rv,rp⟩ h;exact U5 (pt d h) (S6 L rp (D6<|pt d h) rv)) pt nd;have e3:me=T5 (U.map (·.1)):=fE qu (V5 _) λd=>by rw[r.mem_iff,G9 pt]
     subst e3;obtain⟨wv,oh,ko⟩:=yp.ab9;have I2':=L.kept (h':=h1) (t':=m) k;have I3:=I2'.laid (a:=l) (o:=.lst wv) (h':=h') (t':=m) k2 hl ⟨by rw[ko.length,r.length_eq,aAf];exact aAr qt (by decide),gc,n,oh,gl⟩;exact⟨.ref l,_,I3,rfl,q wv _ l (Same.refl _) (I2'.hok.fresh hl) ko⟩
   .rw[ka hc]at q;exact aAi q
  |_=>exact aAi q
end
end DL
namespace M
open PySem L2 DL
variable [Tabs]
def nC (Y:List D) (most:Int):List G.V:=if((cJ Y 1).fdiv 5).fmod 3=0 then gD (iJ Y most)else(gD<|iJ Y most).map (yL<|YA<|(cJ Y 1).fdiv 5).put
open Classical in
def oH:List D->R D
 |[.lst Y,.int a]=>if M8 1048576 Y/\Y.length<=63/\4<=a/\a<=20 then .ok (.lst ((nC Y a).map vd))else .bad
 |_=>.bad
def NB {Y:List D}{most:Int}(a:M8 1048576 Y)(b:Y.length<=63)(h0:4<=most)(c:most<=20):oH [.lst Y,.int most]=.ok (.lst ((nC Y most).map vd)):=jk ⟨a,b,h0,c⟩
def gj {l:List Int}{P:G.V}(h:cF l)(a:Sz 50 P):Sz 300 ((yL l).put P):=by
 have g:∀k,bits (l.getD k 0)<=100:=λk=>by
  rw[aAq];cases e:l[k]? with
  |none=>exact(show bits 0<=100 by decide)
  |some i=>exact h.2 i (aAn e)
 have d:bits (P.x+l.getD 0 0*P.y)<=151:=bits_add (j7 a.1 (by decide)) (bits_mul (g 0) a.2.1);have m:bits (P.y+l.getD 1 0*P.z)<=151:=bits_add (j7 a.2.1 (by decide)) (bits_mul (g 1) a.2.2);have f:bits (P.z+l.getD 2 0*(P.x+l.getD 0 0*P.y))<=252:=bits_add (j7 a.2.2 (by decide)) (bits_mul (g 2) d);have ad:∀{x:Int} (k:Nat),bits x<=252->bits (x+l.getD k 0)<=300:=λk h=>j7 (bits_add h (j7 (g k) (by decide))) (by decide);have b:=j7 d (show 151<=252 by decide);have c:=j7 m (show 151<=252 by decide);unfold yL G.Sl.put;dsimp only;split
 .exact⟨ad 3 c,ad 4 b,ad 5 f⟩
 .exact⟨ad 3 b,ad 4 c,ad 5 f⟩
def IU (s:G.Sl){J:List G.V}(h:G.j8 J):G.j8 (J.map s.put):=G.NH s.unit (λX a=>by rw[<-s.ae3];exact aBf a) h
def WB {Y:List D}{most:Int}(d:M8 1048576 Y)(h0:4<=most)(e:most<=20):G.j8 (nC Y most)/\(∀p∈nC Y most,Sz 300 p)/\((nC Y most).length:Int)<=most+3:=by
 obtain⟨f,b,h⟩:=RU d h0 e;have ne:iJ Y most≠[]:=λz=>by rw[z]at b;simp at b
 have s:=IR ne;obtain⟨c,k⟩:=MN f;unfold nC;split
 .exact⟨s,λp a=>(c p a).mono,by lia⟩
 .refine⟨IU _ s,λp a=>?_,by rw[aAf];lia⟩;obtain⟨q,g,rfl⟩:=aAp.mp a;exact gj (MZ _) (c q g).mono
def SU (c P:G.V):G.V×Int:=(G.dE c (G.q9 c),G.c8 (G.dE c<|G.q9 c) P)
def jS (A B C:G.V):SU (G.cr (B-A) (C-A)) A=G.d5 A B C:=rfl
def W6 (f:G.V×Int):D:=xS f.1 f.2
open Classical in
def jZ:List D->R D:=v1 λa b c=>v1 λd e f=>oV (if(⟨a,b,c⟩:G.V)≠0/\Sz 2003 ⟨a,b,c⟩/\Sz 1000 ⟨d,e,f⟩then .ok (W6<|SU ⟨a,b,c⟩ ⟨d,e,f⟩)else .bad)
def uJ {c P:G.V}(h:c≠0)(a:Sz 2003 c)(b:Sz 1000 P):jZ [vd c,vd P]=.ok (W6 (SU c P)):=jk ⟨h,a,b⟩
open Classical in
def bB:List D->R D
 |[.lst a]=>match D1 a with
  |some J=>if R1 900 J/\G.j8 J/\(d7 J).length<=14 then .ok (.lst ((j9 (d7 J)).map W6))else .bad
  |_=>.bad
 |_=>.bad
def ET {J:List G.V}(a:R1 900 J)(b:G.j8 J)(c:(d7 J).length<=14):bB [.lst (J.map vd)]=.ok (.lst ((j9 (d7 J)).map W6)):=by simp only[bB,o7];exact jk ⟨a,b,c⟩
def jO (a n:Nat):List D:=(List.range' a n).map λ(k:Nat)=>D.int (k:Int)
def a1j {a b:Nat}(c:a<=1000000)(h:b<=1000000):dW [.int (a:Int),.int (b:Int)]=.ok (jO a (b-a)):=by
 show(if rE (a:Int) (b:Int) 1 then R.ok (xH a 1<|iG a b 1)else R.bad)=_;rw[jk ⟨by decide,by decide,by lia,by lia,by lia,by lia⟩];have e:iG (a:Int) (b:Int) 1=b-a:=by
  unfold iG;split
  .simp
  .lia
 rw[e];unfold xH jO;rw[List.range'_eq_map_range,aBn];congr 1;refine aEx λk _=>?_;simp
def sj {n:Nat}(h:n<=1000000):dW [.int (n:Int)]=.ok (jO 0 n):=by rw[ny h];unfold jO;rw[List.range_eq_range']
theorem oU {G:D->Ev->R Ev}{F:Ev->R Out}(Iv:Nat->Ev->Prop):∀{n a:Nat} {ρ:Ev},(∀i,a<=i->i<a+n->∀ρ,Iv i ρ->∃ρ2,O8 G F (.int (i:Int)) ρ=.ok (.nx ρ2)/\Iv (i+1) ρ2)->Iv a ρ->∃b,G1 G F (jO a n) ρ=.ok (.nx b)/\Iv (a+n) b
 |0,a,ρ,_,h=>⟨ρ,rfl,h⟩
 |n+1,a,ρ,d,h=>by
  obtain⟨ρ2,e,f⟩:=d a (aAj _) (by lia) ρ h;obtain⟨b,g,k⟩:=oU Iv (n:=n) (λi m f=>d i (by lia) (by lia)) f;refine⟨b,?_,by rw[show a+(n+1)=a+1+n by lia];exact k⟩;show G1 G F (.int (a:Int)::jO (a+1) n) ρ=_;unfold O8 at e;cases c:G (.int (a:Int)) ρ with
  |ok l=>rw[c]at e;exact(M4 c e).trans g
  |ex z=>rw[c]at e;cases e
  |bad=>rw[c]at e;cases e
def O6 (U:List (D×D)):List D:=U.map (·.1)
def GW (S:List G.V)(U:List (D×D)):Prop:=(O6 U).Nodup/\∀x∈O6 U,∃f:G.V×Int,x=W6 f/\G.IsFace S f.1 f.2
def Cov (S:List G.V)(U:List (D×D))(i j k:Nat):Prop:=∀A B C,S[i]?=some A->S[j]?=some B->S[k]?=some C->(G.Up S A B C->W6 (G.d5 A B C)∈O6 U)/\(G.Dn S A B C->W6 (G.d5 A C B)∈O6 U)
def U3 (S:List G.V)(U:List (D×D))(i j k:Nat):Prop:=∀b a c,b<a->a<c->(b<i\/(b=i/\(a<j\/(a=j/\c<k))))->Cov S U b a c
def GW.put {S:List G.V}{U:List (D×D)}{f:G.V×Int}{v:D}(h:GW S U)(b:G.IsFace S f.1 f.2):GW S (Y8 U (W6 f) v):=by
 refine⟨tW _ _ _ h.1,λx a=>?_⟩;rcases W7.mp a with a|rfl
 .exact h.2 x a
 .exact⟨f,rfl,b⟩
theorem pV {S:List G.V}:∀{l:List D},l.Nodup->(∀x∈l,∃f:G.V×Int,x=W6 f/\G.IsFace S f.1 f.2)->∃fs:List (G.V×Int),l=fs.map W6/\fs.Nodup/\∀f∈fs,G.IsFace S f.1 f.2
 |[],_,_=>⟨[],rfl,.nil,λf a=>by cases a⟩
 |x::l,c,h=>by
  obtain⟨f,rfl,a⟩:=h _ (.head _);obtain⟨d,e⟩:=aAI.mp c;obtain⟨fs,rfl,k,m⟩:=pV e λy n=>h y (.tail _ n);refine⟨f::fs,rfl,aAI.mpr ⟨λz=>d (aBf z),k⟩,λg b=>?_⟩;cases b with
  |head=>exact a
  |tail _ b=>exact m g b
def GW.few {S:List G.V}{U:List (D×D)}(d:G.j8 S)(f:S.Pairwise λa b=>G.f7 (b-a))(k:S.length<=14)(h:GW S U):U.length<=63:=by
 obtain⟨fs,e,l,g⟩:=pV h.1 h.2;have few:=G.bA d f l g;have c:=G.dM d f g;have m:S.length*S.length<=14*S.length:=Nat.mul_le_mul_right _ k;have:U.length=fs.length:=by have:=kb aGb e;unfold O6 at this;rw[aAf,aAf]at this;exact this
 lia
def bK (S:List G.V)(c A:G.V):List Int:=S.map λX=>G.c8 c (X-A)
def JZ (c A:G.V):G.c8 c (A-A)=0:=by simp[G.c8]
def HL {S:List G.V}{c A:G.V}(m:A∈S):(((∀X∈S,G.c8 c (X-A)<=0)/\∃X∈S,G.c8 c (X-A)<0)↔rL (bK S c A)=0/\rS (bK S c A)<0)/\(((∀X∈S,0<=G.c8 c (X-A))/\∃X∈S,0<G.c8 c (X-A))↔rS (bK S c A)=0/\0<rL (bK S c A)):=by
 have a:∀x,x∈bK S c A↔∃X∈S,G.c8 c (X-A)=x:=λx=>aAp;have d:(0:Int)∈bK S c A:=(a 0).mpr ⟨A,m,JZ c A⟩;have ne:bK S c A≠[]:=λz=>by rw[z]at d;cases d
 have e:∀X∈S,G.c8 c (X-A)<=rL (bK S c A)/\rS (bK S c A)<=G.c8 c (X-A):=λX b=>⟨xC ((a _).mpr ⟨X,b,rfl⟩),wU ((a _).mpr ⟨X,b,rfl⟩)⟩;have n:=xC d;have o:=wU d;obtain⟨Y,g,p⟩:=(a _).mp (yD ne);obtain⟨Z,k,q⟩:=(a _).mp (yA ne);refine⟨⟨λf=>?_,λh=>⟨λX b=>?_,Z,k,by lia⟩⟩,λf=>?_,λh=>⟨λX b=>?_,Y,g,by lia⟩⟩
 .obtain⟨h,X,b,l⟩:=f;have:=h Y g;have:=e X b
  lia
 .have:=e X b
  lia
 .obtain⟨h,X,b,l⟩:=f;have:=h Z k;have:=e X b
  lia
 .have:=e X b
  lia
open Classical in
def OG (S:List G.V) (U:List (D×D)) (A B C:G.V):List (D×D):=if G.Up S A B C then Y8 U (W6<|G.d5 A B C) (.bl true)else U
open Classical in
def SX (S:List G.V) (U:List (D×D)) (A B C:G.V):List (D×D):=if G.Dn S A B C then Y8 (OG S U A B C) (W6<|G.d5 A C B) (.bl true)else OG S U A B C
def OL {S:List G.V}{U:List (D×D)}{A B C:G.V}(b:A∈S)(c:B∈S)(d:C∈S)(h:GW S U):GW S (OG S U A B C)/\(∀x∈O6 U,x∈O6 (OG S U A B C))/\(G.Up S A B C->W6 (G.d5 A B C)∈O6 (OG S U A B C)):=by
 unfold OG;split
 .rename_i u;exact⟨h.put (G.oC b c d u),λx a=>W7.mpr (.inl a),λ_=>W7.mpr (.inr rfl)⟩
 .rename_i u;exact⟨h,λx a=>a,λz=>absurd z u⟩
def gz {S:List G.V}{U:List (D×D)}{A B C:G.V}(a:A∈S)(b:B∈S)(c:C∈S)(h:GW S U):GW S (SX S U A B C)/\(∀x∈O6 U,x∈O6 (SX S U A B C))/\(G.Up S A B C->W6 (G.d5 A B C)∈O6 (SX S U A B C))/\(G.Dn S A B C->W6 (G.d5 A C B)∈O6 (SX S U A B C)):=by
 obtain⟨d,e,f⟩:=OL (B:=B) (C:=C) a b c h;unfold SX;split
 .rename_i u;exact⟨d.put (G.oC a c b<|G.GV.mp u),λx g=>W7.mpr (.inl (e x g)),λz=>W7.mpr (.inl (f z)),λ_=>W7.mpr (.inr rfl)⟩
 .rename_i u;exact⟨d,e,f,λz=>absurd z u⟩
def U3.step {S:List G.V}{U e:List (D×D)}{i j k:Nat}(h:U3 S U i j k)(g:∀x∈O6 U,x∈O6 e)(m:Cov S e i j k):U3 S e i j (k+1):=λc d f a b l=>by
 by_cases q:c<i\/(c=i/\(d<j\/(d=j/\f<k)))
 .intro A B C n o p;have:=h c d f a b q A B C n o p;exact⟨λu=>g _ (this.1 u),λu=>g _ (this.2 u)⟩
 .have:c=i/\d=j/\f=k:=by lia
  obtain⟨rfl,rfl,rfl⟩:=this;exact m
def U3.j {S:List G.V}{U:List (D×D)}{i j:Nat}(h:U3 S U i j S.length):U3 S U i (j+1) 0:=λe f c a b l A B C g k d=>by have:c<S.length:=(aAx.mp d).1;exact h e f c a b (by lia) A B C g k d
def U3.i {S:List G.V}{U:List (D×D)}{i:Nat}(h:U3 S U i S.length 0):U3 S U (i+1) 0 0:=λe c f a b l A B C g d k=>by have:c<S.length:=(aAx.mp d).1;exact h e c f a b (by lia) A B C g d k
def U3.j0 {S:List G.V}{U:List (D×D)}{i:Nat}(h:U3 S U i 0 0):U3 S U i (i+1) 0:=λc d e a b l=>h c d e a b (by lia)
def U3.k0 {S:List G.V}{U:List (D×D)}{i j:Nat}(h:U3 S U i j 0):U3 S U i j (j+1):=λc d e a b l=>h c d e a b (by lia)
def RP {S:List G.V}{U:List (D×D)}(d:G.j8 S)(K:GW S U)(h:U3 S U S.length 0 0)(x:D):x∈O6 U↔∃f:G.V×Int,x=W6 f/\G.IsFace S f.1 f.2:=by
 refine⟨K.2 x,λg=>?_⟩;obtain⟨f,e,l⟩:=g;obtain⟨A,B,C,⟨i,j,k,a,b,c,m,n⟩,q⟩:=(G.JA d).mp l;have:=h i j k a b (.inl (aAx.mp c).1) A B C c m n;rw[e];rcases q with⟨u,q⟩|⟨u,q⟩
 .rw[<-show G.d5 A B C=f from q];exact this.1 u
 .rw[<-show G.d5 A C B=f from q];exact this.2 u
def sD {J:List G.V}{U:List (D×D)}(g:R1 900 J)(k:G.j8 J)(l:(d7 J).length<=14)(K:GW (d7 J) U)(h:U3 (d7 J) U (d7 J).length 0 0):T5 (O6 U)=(j9 (d7 J)).map W6:=by
 obtain⟨m,r,e,L⟩:=U8 g k (by lia);have c:=l;rw[e]at c;have a:=F8 L c;rw[<-e]at a L;have pt:∀d∈O6 U,U1 d=true:=λd n=>by obtain⟨f,rfl,_⟩:=K.2 d n;rfl
 refine fE (V5 _) ?_ λd=>?_
 .have:=a.2;unfold rM at this;unfold LU;rw[aBF]at this⊢;exact this
 .rw[G9 pt,RP L.good.solid K h,aAp];constructor
  .rintro⟨f,rfl,b⟩;exact⟨f,(a.1 f).mpr b,rfl⟩
  .rintro⟨f,b,rfl⟩;exact⟨f,rfl,(a.1 f).mp b⟩
def LW {G:D->Ev->R Ev}{F:Ev->R Out}{Post:Ev->Prop}{n a:Nat}{ρ:Ev}(Iv:Nat->Ev->Prop)(d:∀i,a<=i->i<a+n->∀ρ,Iv i ρ->∃ρ2,O8 G F (.int (i:Int)) ρ=.ok (.nx ρ2)/\Iv (i+1) ρ2)(h0:Iv a ρ)(c:∀b,Iv (a+n) b->Post b):∃ρ2,G1 G F (jO a n) ρ=.ok (.nx ρ2)/\Post ρ2:=by obtain⟨b,e,h⟩:=oU Iv d h0;exact⟨b,e,c b h⟩
def TV {G:D->Ev->R Ev}{F c:Ev->R Out}{d:D}{n a:Nat}{ρ:Ev}(Iv:Nat->Ev->Prop)(f:∀i,a<=i->i<a+n->∀ρ,Iv i ρ->∃ρ2,O8 G F (.int (i:Int)) ρ=.ok (.nx ρ2)/\Iv (i+1) ρ2)(h0:Iv a ρ)(g:∀b,Iv (a+n) b->N6 (c b)=.ok d):N6 (D9 (G1 G F (jO a n) ρ) c)=.ok d:=by obtain⟨b,e,h⟩:=oU Iv f h0;rw[e];exact g b h
def MD {r:R Out}{ρ:Ev}{F:Ev->R Out}{x:R Out}(a:r=.ok (.nx ρ))(b:F ρ=x):D9 r F=x:=by rw[a];exact b
def FK {U:List (D×D)}{f:G.V×Int}{v:D}{a b:Sl}{r:Ev}(h:U.length<=63):uQ 2 (a::b::.d U::r) (W6 f) v=.ok (.nx (a::b::.d (Y8 U (W6 f) v)::r)):=jk ⟨rfl,rfl,aAr h (by decide)⟩
def EN {S:List G.V}{i:Nat}{A:G.V}(h:S[i]?=some A):T8 (.lst (S.map vd)) (.int (i:Int))=.ok (vd A):=O7 (by rw[aL (by lia),aBA,aAG,h];rfl)
def RM (A B C:G.V):(⟨0-(G.cr (B-A) (C-A)).x,0-(G.cr (B-A) (C-A)).y,0-(G.cr (B-A) (C-A)).z⟩:G.V)=G.cr (C-A) (B-A):=by rw[G.xI];apply G.ext<;>simp
def VI {S:List G.V}{c A:G.V}(h:S≠[]):GO [.lst ((bK S c A).map D.int)]=.ok (.int (rL (bK S c A)))/\HP [.lst ((bK S c A).map D.int)]=.ok (.int (rS (bK S c A))):=by
 have ne:bK S c A≠[]:=by unfold bK;simpa using h
 constructor
 .simp only[GO,kG];exact jk ne
 .simp only[HP,kG];exact jk ne
def pv1 (p:D)(S:List G.V)(i:Nat)(ρ:Ev):Prop:=∃U a b c e f,ρ=[Sl.v p,Sl.v (.lst (S.map vd)),.d U,a,b,c,e,f]/\GW S U/\U3 S U i 0 0
def pv2 (p:D)(S:List G.V)(i j:Nat)(ρ:Ev):Prop:=∃U a b c e,ρ=[Sl.v p,Sl.v (.lst (S.map vd)),.d U,.v (.int (i:Int)),a,b,c,e]/\GW S U/\U3 S U i j 0
def pv3 (p:D)(S:List G.V)(i j k:Nat)(ρ:Ev):Prop:=∃U a b c,ρ=[Sl.v p,Sl.v (.lst (S.map vd)),.d U,.v (.int (i:Int)),.v (.int (j:Int)),a,b,c]/\GW S U/\U3 S U i j k
open Classical in
def oR:List D->R D:=v4 λa b c d=>v1 λx y z=>oV (if Sz 2003 ⟨a,b,c⟩/\Sz 1000 ⟨x,y,z⟩then .ok (.bl (decide (G.c8 ⟨a,b,c⟩ ⟨x,y,z⟩=d)))else .bad)
def RD {f:G.V×Int}{P:G.V}(h:Sz 2003 f.1)(a:Sz 1000 P):oR [W6 f,vd P]=.ok (.bl (decide (G.c8 f.1 P=f.2))):=jk ⟨h,a⟩
def QO {f:G.V×Int}{P:G.V}(h:Sz 2003 f.1)(a:Sz 1000 P):j5 [W6 f,vd P]=.ok (.int (G.c8 f.1 P)):=jk ⟨⟨v9 h.1,v9 h.2.1,v9 h.2.2⟩,v9 a.1,v9 a.2.1,v9 a.2.2⟩
def IL {α:Type}{l:List α}(d:l.Nodup):2<l.length↔∃a b c,a∈l/\b∈l/\c∈l/\a≠b/\a≠c/\b≠c:=by
 constructor
 .intro h;match l,h,d with
  |a::b::c::l,_,d=>
   refine⟨a,b,c,by simp,by simp,by simp,?_,?_,?_⟩
   .rintro rfl;simp at d
   .rintro rfl;simp at d
   .rintro rfl;simp at d
 .rintro⟨a,b,c,o,p,q,f,g,k⟩
  classical
  have n:[a,b,c].Nodup:=by simp[f,g,k]
  have:=G.P4 n (m:=l) λv e=>by simp only[aAd,aAD,or_false]at e;rcases e with rfl|rfl|rfl<;>assumption
  exact this
def BG (fs:List (G.V×Int)) (X:G.V):List (G.V×Int):=fs.filter λf=>decide (G.c8 f.1 X=f.2)
def xK {J:List G.V}(s:R1 900 J)(t:G.j8 J)(u:(d7 J).length<=14):((d7 J).filter λX=>decide (2<(BG (j9 (d7 J)) X).length))=p6 J:=by
 obtain⟨m,r,e,L⟩:=U8 s t (by lia);have v:=u;rw[e]at v;have k:=F8 L v;rw[<-e]at k L;have z:(j9<|d7 J).Nodup:=L9 (W5 k.2);have w:=L.good.solid;have n:=L.good.ord;refine Z4 ((A8 J).sublist List.filter_sublist) (A8 _) λX=>?_;rw[aBX,decide_eq_true_eq,kK s t u,IL (l:=BG (j9<|d7 J) X) (z.sublist List.filter_sublist)];have d:∀f,f∈BG (j9<|d7 J) X↔G.IsFace (d7 J) f.1 f.2/\G.c8 f.1 X=f.2:=λf=>by unfold BG;rw[aBX,decide_eq_true_eq,k.1]
 constructor
 .rintro⟨g,a,b,c,h,o,p,A,B,C⟩;rw[d]at h o p;exact⟨a,h.1,G.ES w n g h.1 o.1 p.1 h.2 o.2 p.2 A B C⟩
 .rintro⟨f,q,g⟩;obtain⟨x,y,E,H,I,N,O,Q,T,U⟩:=G.kA w n q g;have Y:=(G.d6.mp<|(q.aa2 n).aa4 g).1;exact⟨Y,f,x,y,(d f).mpr ⟨q,Q⟩,(d x).mpr ⟨E,T⟩,(d y).mpr ⟨H,U⟩,I,N,O⟩
open Classical in
def Y6:List D->R D
 |[.lst a,.lst b]=>match D1 a with
  |some J=>if b=(j9 (d7 J)).map W6/\R1 900 J/\G.j8 J/\(d7 J).length<=14 then .ok (.lst ((p6 J).map vd))else .bad
  |_=>.bad
 |_=>.bad
def zJ {J:List G.V}(a:R1 900 J)(b:G.j8 J)(c:(d7 J).length<=14):Y6 [.lst (J.map vd),.lst ((j9 (d7 J)).map W6)]=.ok (.lst ((p6 J).map vd)):=by simp only[Y6,o7];exact jk ⟨rfl,a,b,c⟩
def fN:List D->R D:=v1 λ_ _ _=>oV (.ok (.bl true))
def DD (P:G.V):fN [vd P]=.ok (.bl true):=rfl
def cO (l:List G.V):G.V:=⟨(l.map G.V.x).sum,(l.map G.V.y).sum,(l.map G.V.z).sum⟩
theorem IA (w:G.V):∀l:List G.V,G.c8 (cO l) w=(l.map λn=>G.c8 n w).sum
 |[]=>by simp[cO,G.c8]
 |n::l=>by have:=IA w l;rw[aAv,aCx,<-this];simp[cO,G.c8];grind
theorem FT:∀{l:List Int},(∀i∈l,i<=0)->(∃i∈l,i<0)->l.sum<0
 |[],_,h=>by obtain⟨i,hi,_⟩:=h;cases hi
 |a::l,c,e=>by
  have f:=c a (.head _);have d:∀i∈l,i<=0:=λi hi=>c i (.tail _ hi);have k:l.sum<=0:=by
   clear e c f;induction l with
   |nil=>simp
   |cons b l g=>have:=d b (.head _);have:=g λi hi=>d i (.tail _ hi);rw[aCx];lia
  rw[aCx];obtain⟨i,hi,q⟩:=e;rcases aAd.mp hi with rfl|hi
  .lia
  .have:=FT d ⟨i,hi,q⟩
   lia
theorem NM {n:Nat}:∀{l:List Int},(∀i∈l,bits i<=n)->bits l.sum<=n+l.length
 |[],_=>by simp[j7 (show bits 0<=0 by decide)]
 |a::l,h=>by rw[aCx,aAw,<-Nat.add_assoc];exact bits_add (j7 (h a (.head _)) (by lia)) (NM λi b=>h i (.tail _ b))
def VZ {n:Nat}{l:List G.V}(h:∀v∈l,Sz n v):Sz (n+l.length) (cO l):=by
 have g:∀f:G.V->Int,(∀v∈l,bits (f v)<=n)->bits (l.map f).sum<=n+l.length:=λf b=>by
  have:=NM (l:=l.map f) (n:=n) λi c=>by obtain⟨v,a,rfl⟩:=aAp.mp c;exact b v a
  rwa [aAf]at this
 exact⟨g _ λv a=>(h v a).1,g _ λv a=>(h v a).2.1,g _ λv a=>(h v a).2.2⟩
def ZU (J:List G.V) (P:G.V):G.V:=cO ((BG (j9<|d7 J) P).map (·.1))
def VW {J:List G.V}(m:R1 900 J)(k:G.j8 J)(o:(d7 J).length<=14){P X:G.V}(B:P∈p6 J)(C:X∈J)(ne:X≠P):G.c8 (ZU J P) (X-P)<0:=by
 obtain⟨E,ag,H⟩:=lQ m k o;have p:∀f,f∈BG (j9<|d7 J) P↔G.IsFace (d7 J) f.1 f.2/\G.c8 f.1 P=f.2:=λf=>by unfold BG;rw[aBX,decide_eq_true_eq,E]
 have r:G.j8 (d7 J):=fY k λv I=>t5.mpr I;have s:=A8 J;obtain⟨f,l,L⟩:=(kK m k o P).mp B;obtain⟨g1,g2,t,u,N,O,Q,w,x,y⟩:=G.kA r s l L;have z:=t5.mpr C;have A:∀{n:G.V} {d:Int},G.c8 n P=d->G.c8 n (X-P)=G.c8 n X-d:=λ{n d} h=>by rw[<-h];simp[G.c8];grind
 have e:∀{g:G.V×Int},G.IsFace (d7 J) g.1 g.2->G.c8 g.1 P=g.2->G.c8 g.1 X<g.2->∃i∈((BG (j9<|d7 J) P).map (·.1)).map (λn=>G.c8 n (X-P)),i<0:=λ{g} a b c=>⟨_,aBf (aBf<|(p g).mpr ⟨a,b⟩),by rw[A b];lia⟩;unfold ZU;rw[IA];refine FT (λi T=>?_) ?_
 .obtain⟨n,U,rfl⟩:=aAp.mp T;obtain⟨g,Y,rfl⟩:=aAp.mp U;obtain⟨a,b⟩:=(p g).mp Y;have:=a.sup X z;rw[A b];lia
 .rcases G.WC r s l t u w x y N O Q z ne with q|q|q
  .exact e l w q
  .exact e t x q
  .exact e u y q
open Classical in
def Y2:List D->R D
 |[.lst a,.lst b,p]=>match D1 b,rH p with
  |some J,some P=>if a=(j9 (d7 J)).map W6/\R1 900 J/\G.j8 J/\(d7 J).length<=14/\P∈p6 J then .ok (.bl true)else .bad
  |_,_=>.bad
 |_=>.bad
def AS {J:List G.V}{P:G.V}(a:R1 900 J)(b:G.j8 J)(c:(d7 J).length<=14)(d:P∈p6 J):Y2 [.lst ((j9 (d7 J)).map W6),.lst (J.map vd),vd P]=.ok (.bl true):=by simp only[Y2,o7,oD];exact jk ⟨rfl,a,b,c,d⟩
def lU {α:Type}{G:D->Ev->R Ev}{ft:Ev->R Bool}{fe:Ev->R D}{ρ:Ev}(rep:α->D)(l:List α)(h:∀a∈l,∃ρ1,G (rep a) ρ=.ok ρ1/\ft ρ1=.ok false):u8 G ft fe ρ (l.map rep)=.ok []:=by rw[L5 rep (λ_=>false) (λ_=>.non) l λa b=>let⟨ρ1,c,d⟩:=h a b;⟨ρ1,c,d,λz=>by cases z⟩];simp
def BK {W C:List G.V}(b:R1 900 W)(a:G.j8 W)(c:(d7 W).length<=14)(d:W.length<=60)(e:p6 W=C):O9 [.lst (W.map vd)]=.ok (.bl (decide (C=W))):=by
 simp only[O9,o7];rw[ka,jk ⟨b,a,c,d⟩,e];rintro(z|z)
 .subst z;obtain⟨A,f,_⟩:=a;cases f
 .exact z.2 a
def mQ {a b:List G.V}(h:∀v,v∈a↔v∈b):d7 a=d7 b:=Z4 (A8 _) (A8 _) λv=>by rw[t5,t5,h]
def JH {a b:List G.V}(h:∀v,v∈a↔v∈b):p6 a=p6 b:=by unfold p6;rw[mQ h]
def ZJ {J:List G.V}{X:G.V}(h:X∈J):inR true (vd X) (.lst (J.map vd))=.ok (.bl false):=by have d:=jW J;have e:cz (vd X) (J.map vd)=true:=aDJ.mpr ⟨_,aBf h,M7 _⟩;show(if _ then R.ok (D.bl<|cz (vd X) (J.map vd) !=true)else _)=_;rw[jk ⟨by lia,by simp[B5,z6]⟩,e];rfl
def vT {W B:List G.V}(a:∀v,v∈W↔v∈B)(b:W.length<=60)(c:R1 900 B)(d:G.j8 B)(e:(d7 B).length<=14):O9 [.lst (W.map vd)]=.ok (.bl (decide (p6 B=W))):=
 BK ⟨λp f=>c.1 p ((a p).mp f),by lia⟩ (fY d λv g=>(a v).mpr g) (by rw[mQ a];exact e) b (JH a)
def ZL {l:List D}:(∀d∈l,∃v:G.V,d=vd v)->∃W:List G.V,l=W.map vd:=by
 induction l with
 |nil=>exactλ_=>⟨[],rfl⟩
 |cons d l a=>intro h;obtain⟨W,e⟩:=a λd b=>h d (.tail _ b);obtain⟨v,c⟩:=h d (.head _);exact⟨v::W,by rw[e,c];rfl⟩
def CN {J:List G.V}(b:J.length<=60):∃W:List G.V,swR (.lst (J.map vd))=.ok (W.map vd)/\(∀v,v∈W↔v∈J)/\W.length<=60:=by
 have p:=K5 flat (J.map vd);obtain⟨W,e⟩:=ZL (l:=fG flat (J.map vd)) λd a=>by obtain⟨v,_,e⟩:=aAp.mp (p.mem_iff.mp a);exact⟨v,e.symm⟩
 refine⟨W,?_,λv=>?_,?_⟩
 .show(if _ then _ else _)=_;rw[jk ⟨CF J,by rw[aAf];lia⟩,e]
 .rw[<-xG,<-xG (J:=J),<-e,p.mem_iff]
 .have:=p.length_eq;rw[e,aAf,aAf]at this
  lia
def TJ {C:List G.V}(h:C≠[]):LM (.lst (C.map vd)) (some (-1)) none=.ok (.lst ((C.drop (C.length-1)).map vd)):=by
 have c:C.length≠0:=λz=>h (aCv z);have a:HT.sIx (C.map vd).length 0 (some (-1))=C.length-1:=by
  rw[aAf];simp[HT.sIx]
  lia
 have b:HT.sIx (C.map vd).length (C.map vd).length none=C.length:=by rw[aAf];rfl
 show R.ok (D.lst<|cutD (C.map vd) (some (-1)) none)=_;unfold cutD;rw[a,b,aCK (by rw[aCt,aAf];lia),List.map_drop]
open Classical in
def jB:List D->R D
 |[.lst Y]=>if Y.length<=63/\M8 1048576 Y then .ok (.bl true)else .bad
 |_=>.bad
end M
namespace K13
open PySem L2 DL M
def top (i:Nat):dm:=PySem.Challenge.pw_stakebodies_k13_corners_by_worths.main.body.getD i (.Pass ⟨0,0,0,0⟩)
abbrev aS:dm:=top 5
abbrev rQ:List Str:=["P", "Q"]
def pF:FnScope rQ ["P", "Q"] (c6 aS):=D8
abbrev gU:dm:=top 6
abbrev DK:List Str:=["u", "v"]
def zG:FnScope DK ["u", "v"] (c6 gU):=D8
abbrev cG:dm:=top 7
abbrev wZ:List Str:=["u", "v"]
def rW:FnScope wZ ["u", "v"] (c6 cG):=D8
abbrev P9:dm:=top 8
abbrev mD:List Str:=["numbers", "divisor", "number", "rest", "further"]
def kO:FnScope mD ["numbers"] (c6 P9):=D8
abbrev S8:dm:=top 9
abbrev nS:List Str:=["P", "Q", "R", "cross", "divisor", "upright"]
def kT:FnScope nS ["P", "Q", "R"] (c6 S8):=D8
abbrev lW:dm:=top 10
abbrev LF:List Str:=["plane", "P", "height"]
def BX:FnScope LF ["plane", "P"] (c6 lW):=D8
abbrev Q0:dm:=top 13
abbrev lA:List Str:=["ways", "way"]
def jT:FnScope lA ["ways"] (c6 Q0):=D8
abbrev C5:dm:=top 14
abbrev N3:List Str:=["points", "ways", "along", "upright"]
def nH:FnScope N3 ["points"] (c6 C5):=D8
abbrev Z8:dm:=top 15
abbrev sE:List Str:=["points"]
def oZ:FnScope sE ["points"] (c6 Z8):=D8
abbrev Z5:dm:=top 16
abbrev nA:List Str:=["plane", "points"]
def wG:FnScope nA ["plane", "points"] (c6 Z5):=D8
abbrev Z9:dm:=top 17
abbrev sJ:List Str:=["pair", "points", "along", "upright", "outermost", "P", "way"]
def pQ:FnScope sJ ["pair", "points"] (c6 Z9):=D8
abbrev cI:dm:=top 18
abbrev vX:List Str:=["points", "least", "upward", "touched"]
def sI:FnScope vX ["points"] (c6 cI):=D8
abbrev lO:dm:=top 19
abbrev JD:List Str:=["upright", "P", "Q", "R"]
def CJ:FnScope JD ["upright", "P", "Q", "R"] (c6 lO):=D8
abbrev bQ:dm:=top 20
abbrev wH:List Str:=["upright", "points", "chain", "P"]
def rV:FnScope wH ["upright", "points"] (c6 bQ):=D8
abbrev mF:dm:=top 21
abbrev IH:List Str:=["upright", "points", "there", "back"]
def DN:FnScope IH ["upright", "points"] (c6 mF):=D8
abbrev aT:dm:=top 22
abbrev rT:List Str:=["ring"]
def qM:FnScope rT ["ring"] (c6 aT):=D8
abbrev bW:dm:=top 23
abbrev wA:List Str:=["first", "about", "touched_by", "faces", "walked", "waiting", "pair", "plane", "ring", "step"]
def gM:FnScope wA ["first", "about", "touched_by"] (c6 bW):=D8
abbrev K7:dm:=top 24
abbrev gR:List Str:=["points", "spread", "about", "touched_by"]
def nF:FnScope gR ["points"] (c6 K7):=D8
abbrev cQ:dm:=top 25
abbrev vM:List Str:=["faces", "corners", "plane", "ring"]
def rX:FnScope vM ["faces"] (c6 cQ):=D8
abbrev lL:dm:=top 26
abbrev KP:List Str:=["points"]
def EX:FnScope KP ["points"] (c6 lL):=D8
abbrev mB:dm:=top 27
abbrev JF:List Str:=["points"]
def CD:FnScope JF ["points"] (c6 mB):=D8
abbrev eF:dm:=top 29
abbrev zN:List Str:=["script", "k"]
def xL:FnScope zN ["script", "k"] (c6 eF):=D8
abbrev iW:dm:=top 30
abbrev BJ:List Str:=["one", "other"]
def yE:FnScope BJ ["one", "other"] (c6 iW):=D8
abbrev cB:dm:=top 31
abbrev wY:List Str:=["u", "v"]
def sM:FnScope wY ["u", "v"] (c6 cB):=D8
abbrev X3:dm:=top 32
abbrev oK:List Str:=["u", "v"]
def nJ:FnScope oK ["u", "v"] (c6 X3):=D8
abbrev cU:dm:=top 33
abbrev xE:List Str:=["total", "way", "wide", "stir", "found", "k"]
def sS:FnScope xE ["total", "way"] (c6 cU):=D8
abbrev J5:dm:=top 34
abbrev aN:List Str:=["script", "most", "many", "totals", "k", "cell"]
def qP:FnScope aN ["script", "most"] (c6 J5):=D8
abbrev N7:dm:=top 35
abbrev cD:List Str:=["points", "ways", "u", "v", "crossed", "x", "y", "z"]
def rO:FnScope cD ["points"] (c6 N7):=D8
abbrev Q8:dm:=top 36
abbrev gF:List Str:=["cell", "slants", "far"]
def pS:FnScope gF ["cell"] (c6 Q8):=D8
abbrev Y4:dm:=top 37
abbrev qN:List Str:=["point", "slants", "x", "y", "z"]
def nQ:FnScope qN ["point", "slants"] (c6 Y4):=D8
abbrev Z7:dm:=top 38
abbrev mY:List Str:=["script", "most", "points", "cell"]
def vU:FnScope mY ["script", "most"] (c6 Z7):=D8
abbrev U4:dm:=top 39
abbrev kC:List Str:=["crossed", "point", "one", "number", "other"]
def rZ:FnScope kC ["crossed", "point"] (c6 U4):=D8
abbrev J8:dm:=top 40
abbrev aF:List Str:=["points", "some", "found", "i", "j", "k", "crossed", "worths"]
def oM:FnScope aF ["points"] (c6 J8):=D8
abbrev lG:dm:=top 41
abbrev LB:List Str:=["plane", "point"]
def DE:FnScope LB ["plane", "point"] (c6 lG):=D8
abbrev M5:dm:=top 42
abbrev eT:List Str:=["points", "planes"]
def nV:FnScope eT ["points", "planes"] (c6 M5):=D8
abbrev Q3:dm:=top 43
abbrev gE:List Str:=["found"]
def qU:FnScope gE ["found"] (c6 Q3):=D8
abbrev C8:dm:=top 44
abbrev M1:List Str:=["planes", "points", "one", "ways", "whole"]
def nT:FnScope M1 ["planes", "points", "one"] (c6 C8):=D8
abbrev fI:dm:=top 45
abbrev MX:List Str:=["script", "points", "planes", "handed", "found", "one", "kept", "told", "some"]
def PX:FnScope MX ["script"] (c6 fI):=D8
def fC:dm:=(t6 K7).getD 2 (.Pass ⟨0,0,0,0⟩)
abbrev HA:Str:= "faces_of.<locals>.about"
def J7:dm:=(t6 K7).getD 3 (.Pass ⟨0,0,0,0⟩)
abbrev jV:Str:= "faces_of.<locals>.touched_by"
def tbK:List (Pos×Str):=[(ID fC,HA),(ID J7,jV)]
section
variable [Tabs]
variable{P:bt} {w:cq} {K:kc} {mg:dG} {base:cv}
def p5 (g:cK K mg "way_between" aS):u6 P w K mg base 1 "way_between" 2 l5:=by
 refine' l8 (k:=0) (F:=_) g pF (λf l m n=>?b) λe d o h=>?_
 case b=>refine' (c9<|i8<|FO (c7 v7 (PD.pb<|f6 (b8 1) d4)<|PD.pb<|f6 (b8 0) d4) (c7 v7 (PD.pb<|f6 (b8 1) d4)<|PD.pb<|f6 (b8 0) d4)<|c7 v7 (PD.pb<|f6 (b8 1) d4)<|PD.pb<|f6 (b8 0) d4)
 replace h:=C3 h;obtain⟨a,b,c,e,rfl,h⟩:=h;replace h:=C3 h;obtain⟨p,q,r,e,rfl,h⟩:=h;replace h:=C4 h;obtain⟨rfl,h⟩:=h;exact h
def D2 (g:cK K mg "cross_of" gU):u6 P w K mg base 1 "cross_of" 2 w5:=by
 refine' l8 (k:=0) (F:=_) g zG (λr s t u=>?b) λe d v h=>?_
 case b=>refine' (c9<|i8<|FO (c7 v7 (PD.pb<|c7 n6 (PD.pb<|f6 (b8 0) d4)<|PD.pb<|f6 (b8 1) d4)<|PD.pb<|c7 n6 (PD.pb<|f6 (b8 0) d4)<|PD.pb<|f6 (b8 1) d4) (c7 v7 (PD.pb<|c7 n6 (PD.pb<|f6 (b8 0) d4)<|PD.pb<|f6 (b8 1) d4)<|PD.pb<|c7 n6 (PD.pb<|f6 (b8 0) d4)<|PD.pb<|f6 (b8 1) d4)<|c7 v7 (PD.pb<|c7 n6 (PD.pb<|f6 (b8 0) d4)<|PD.pb<|f6 (b8 1) d4)<|PD.pb<|c7 n6 (PD.pb<|f6 (b8 0) d4)<|PD.pb<|f6 (b8 1) d4)
 replace h:=C3 h;obtain⟨a,b,c,e,rfl,h⟩:=h;replace h:=C3 h;obtain⟨x,y,z,e,rfl,h⟩:=h;replace h:=C4 h;obtain⟨rfl,h⟩:=h;split at h
 .rename_i q;obtain⟨⟨f,l,m⟩,n,o,p⟩:=q;rw[<-h];simp[j2,i7 (m6.of l p),i7 (m6.of m o),i7 (m6.of m n),i7 (m6.of f p),i7 (m6.of f o),i7 (m6.of l n)]
 .cases h
def y9 (g:cK K mg "product_of" cG):u6 P w K mg base 1 "product_of" 2 j5:=by
 refine' l8 (k:=0) (F:=_) g rW (λr s u v=>?b) λe d x h=>?_
 case b=>refine' (c9<|i8<|c7 p7 (PD.pb<|c7 p7 (PD.pb<|c7 n6 (PD.pb<|f6 (b8 0) d4)<|PD.pb<|f6 (b8 1) d4)<|PD.pb<|c7 n6 (PD.pb<|f6 (b8 0) d4)<|PD.pb<|f6 (b8 1) d4)<|PD.pb<|c7 n6 (PD.pb<|f6 (b8 0) d4)<|PD.pb<|f6 (b8 1) d4)
 replace h:=XO h;obtain⟨a,b,c,t,e,rfl,h⟩:=h;replace h:=C3 h;obtain⟨y,z,A,e,rfl,h⟩:=h;replace h:=C4 h;obtain⟨rfl,h⟩:=h;split at h
 .rename_i f;obtain⟨⟨l,m,n⟩,o,p,q⟩:=f;rw[<-h];simp[j2,WT,XT,WZ,i7 (m6.of l o),i7 (m6.of m p),i7 (m6.of n q)]
 .cases h
def P8 (L:mg "abs"=none)(g:cK K mg "common_divisor" P9):u6 P w K mg base 1 "common_divisor" 1 G7:=by
 refine' l8 (k:=0) (F:=_) g kO (λN A O l=>?b) λy d Q h=>?_
 case b=>
  refine' (b9 (j1 1 d4 l)
   (b9 (F6 aAO rfl (jA<|c5 0) (m8 2 l) (b9 (j1 3 (GH OH<|b8 2) l)
   (c9 (fU (XN 3) aAO (j4 (T6 A) (b8 3) A3) (b9 (j1 4 (c7 z7 (b8 1)<|b8 3) l)
   (b9 (j1 1 (c5 3) l)
   (c9<|j1 3 (c5 4) l)))))))
   (c9<|i8<|c5 1)))
 replace h:=C3 h;obtain⟨a,b,c,y,rfl,h⟩:=h;replace h:=C4 h;obtain⟨rfl,h⟩:=h;rw[<-h];simp only[j2,aAv,aEj,aBl,aDw];simp only[Q9,oN,R.aa0,uT,A6,aAw,aBL,aFq,aFr,aDM,aDN,aBI,aBJ];refine fD (λrest ρ=>∃(g:Nat) (n r f:Sl),ρ=[.v (.tup [.int a,.int b,.int c]),.v (.int g),n,r,f]/\∃e:List Int,rest=e.map D.int/\e.foldl (λg n=>aGa g n.natAbs) g=G.q9 ⟨a,b,c⟩) ?_ ⟨0,_,_,_,rfl,[a,b,c],rfl,by simp[G.q9]⟩ ?_
 .rintro d y ρ ⟨g,n,r,f,rfl,e,s,o⟩;match e,s,o with
  |x::e,s,o=>
   injection s with B C;subst B C;simp only[X9,aBI,aBJ,X5,cP,jC,uZ,R.aa0,NN,A6];have E:(if x<0 then-x else x)=(x.natAbs:Int):=by split<;>lia
   rw[E];refine qL (λm ρ=>∃(p q:Nat) (f:Sl),ρ=[.v (.tup [.int a,.int b,.int c]),.v (.int p),.v (.int x),.v (.int q),f]/\q<m/\aGa p q=aGa g x.natAbs) ?_ (by rintro ρ ⟨p,q,f,_,h,_⟩;lia) ⟨g,x.natAbs,f,rfl,by show x.natAbs<((x.natAbs:Int).natAbs)+2;lia,rfl⟩ ?_
   .rintro m ρ ⟨p,q,f,rfl,H,u⟩;by_cases t:(q:Int)=0
    .exact .inl (by simp[t])
    .have I:q≠0:=by lia
     refine .inr ⟨by simp[I],_,?_,q,p%q,Sl.v (.int ((p%q:Nat):Int)),rfl,?_,?_⟩
     .have em:V4 (.int (p:Int)) (.int (q:Int))=.ok (.int ((p%q:Nat):Int)):=by rw[qI t,aDE _ (by lia)];rfl
      simp[em]
     .have:=aDO p (show 0<q by lia)
      lia
     .rw[aFM,<-Nat.gcd_rec,aFM];exact u
   .rintro m ρ ⟨p,q,f,rfl,H,u⟩ J;have t:q=0:=by
     by_cases z:q=0
     .exact z
     .simp[z]at J
    subst t;refine⟨p,_,_,_,rfl,e,rfl,?_⟩;rw[<-o,aDt,<-u,Nat.gcd_zero_right]
 .rintro ρ ⟨g,n,r,f,rfl,e,s,o⟩;have:e=[]:=by simpa using s.symm
  subst this;simp at o;simp[o]
def T1 (D2:u6 P w K mg base 1 "cross_of" 2 w5)(p5:u6 P w K mg base 1 "way_between" 2 l5)(P8:u6 P w K mg base 1 "common_divisor" 1 G7)(y9:u6 P w K mg base 1 "product_of" 2 j5)(g:cK K mg "plane_through" S8):u6 P w K mg base 2 "plane_through" 3 S4:=by
 refine' l8 (k:=1) (F:=_) g kT (λm hu dh A=>?b) λB d hl h=>?_
 case b=>
  refine' (b9 (j1 3 (V6 D2 m (V6 p5 m (c5 0)<|c5 1)<|V6 p5 m (c5 0)<|c5 2) A)
   (b9 (j1 4 (xR P8 m<|c5 3) A)
   (b9 (v8 (j4 (L4 hu) (b8 4) A3) (c9 kZ) l9)
   (b9 (j1 5 (FO (c7 x6 (PD.pb<|f6 (b8 3) d4)<|b8 4) (c7 x6 (PD.pb<|f6 (b8 3) d4)<|b8 4)<|c7 x6 (PD.pb<|f6 (b8 3) d4)<|b8 4) A)
   (c9<|i8<|vY<|f9 (f6 (b8 5) d4)<|f9 (f6 (b8 5) d4)<|f9 (f6 (b8 5) d4)<|f9 (V6 y9 m (c5 5)<|c5 0) m9)))))
 replace h:=C3 h;obtain⟨a,b,c,B,rfl,h⟩:=h;replace h:=C3 h;obtain⟨d,e,f,B,rfl,h⟩:=h;replace h:=C3 h;obtain⟨g,L,i,B,rfl,h⟩:=h;replace h:=C4 h;obtain⟨rfl,h⟩:=h
 .skip
  split at h
  .rename_i hz;obtain⟨⟨p,q,r⟩,o⟩:=hz;rw[<-h];obtain⟨P,E⟩:∃P:G.V,P=⟨a,b,c⟩:=⟨_,rfl⟩;obtain⟨Q,H⟩:∃P:G.V,P=⟨d,e,f⟩:=⟨_,rfl⟩;obtain⟨l,I⟩:∃P:G.V,P=⟨g,L,i⟩:=⟨_,rfl⟩;rw[<-E]at p o;rw[<-H]at q o;rw[<-I]at r o;have vP:(.tup [.int a,.int b,.int c]:D)=vd P:=by rw[E]
   have vQ:(.tup [.int d,.int e,.int f]:D)=vd Q:=by rw[H]
   have vR:(.tup [.int g,.int L,.int i]:D)=vd l:=by rw[I]
   rw[vP,vQ,vR,<-E,<-H,<-I];have s:=(q.sub p).cr (r.sub p);have c1:=bI (u:=Q-P) (v:=l-P) (q.sub p).mono (r.sub p).mono;obtain⟨N,g1,g2⟩:=G.fM o;have n:((G.q9 (G.cr (Q-P)<|l-P):Nat):Int)≠0:=by lia
   have gb:uC ((G.q9 (G.cr (Q-P)<|l-P):Nat):Int):=⟨n,v9 (uF s)⟩;have dv:=CZ (G.cr (Q-P)<|l-P);have pl:G.d5 P Q l=(G.dE (G.cr (Q-P)<|l-P) (G.q9<|G.cr (Q-P)<|l-P),G.c8 (G.dE (G.cr (Q-P)<|l-P)<|G.q9<|G.cr (Q-P)<|l-P) P):=rfl;rw[pl];generalize hC:G.cr (Q-P) (l-P)=C at*
   have sn:Sz 2003 (G.dE C<|G.q9 C):=by have O:=bits_fdiv (b:=(G.q9 C:Int)) s.1;have T:=bits_fdiv (b:=(G.q9 C:Int)) s.2.1;have U:=bits_fdiv (b:=(G.q9 C:Int)) s.2.2;rw[eM N]at O T U;exact⟨O,T,U⟩
   have d1:∀t:Int,N5 (.int t) (.int (G.q9 C:Nat))=.ok (.int (t/(G.q9 C:Nat))):=λt=>by rw[V7 gb,eM N]
   have Y:=Z1 (u:=G.dE C (G.q9 C)) (v:=P) sn.mono p.mono;have e0:(((G.q9 C:Nat):Int)==0)=false:=by simpa using n
   simp only[G.dE]at Y;have J:j5 [.tup [.int (C.x/(G.q9 C:Nat)),.int (C.y/(G.q9 C:Nat)),.int (C.z/(G.q9 C:Nat))],vd P]=_:=Y;simp[j2,c1,dv,e0,d1,J,G.dE]
  .cases h
def kR (g:cK K mg "side_of" lW):u6 P w K mg base 1 "side_of" 2 bD:=by
 refine' l8 (k:=0) (F:=_) g BX (λB C E v=>?b) λs d H h=>?_
 case b=>
  refine' (b9 (j1 2 (c7 v7 (PD.pb<|c7 p7 (PD.pb<|c7 p7 (PD.pb<|c7 n6 (PD.pb<|f6 (b8 0) d4)<|PD.pb<|f6 (b8 1) d4)<|PD.pb<|c7 n6 (PD.pb<|f6 (b8 0) d4)<|PD.pb<|f6 (b8 1) d4)<|PD.pb<|c7 n6 (PD.pb<|f6 (b8 0) d4)<|PD.pb<|f6 (b8 1) d4)<|PD.pb<|f6 (b8 0) d4) v)
   (b9 (v8 (j4 rC (b8 2) A3) (c9<|i8 d4) l9)
   (b9 (v8 (j4 yV (b8 2) A3) (c9<|i8<|iM d4) l9)
   (c9<|i8 d4))))
 replace h:=MO h;obtain⟨a,b,c,d,s,rfl,h⟩:=h;replace h:=C3 h;obtain⟨x,y,z,s,rfl,h⟩:=h;replace h:=C4 h;obtain⟨rfl,h⟩:=h
 .skip
  split at h
  .rename_i A;obtain⟨⟨e,f,l⟩,m,o,q⟩:=A;rw[<-h];obtain⟨t,u⟩:∃t,a*x+b*y+c*z-d=t:=⟨_,rfl⟩;have r:RJ (.int (a*x+b*y+c*z)) (.int d)=.ok (.int t):=by rw[<-u];rfl
   rw[u];unfold sgn;by_cases p:0<t
   .simp[-wX,j2,i7 (m6.of e m),i7 (m6.of f o),i7 (m6.of l q),p,r]
   .by_cases n:t<0
    .simp[-wX,j2,i7 (m6.of e m),i7 (m6.of f o),i7 (m6.of l q),p,n,r]
    .simp[-wX,j2,i7 (m6.of e m),i7 (m6.of f o),i7 (m6.of l q),p,n,r]
  .cases h
def J1 (l:RW K mg "NO_WAY" [0,0,0])(g:cK K mg "first_real_way" Q0):u6 P w K mg base 1 "first_real_way" 1 A4:=by
 refine' l8 (k:=0) (F:=_) g jT (λq m r n=>?b) λo d s h=>?_
 case b=>
  refine' (b9 (F6 aAO rfl (o5<|c5 0) (m8 1 n)<|c9<|v8 (j4 (T6 m) (b8 1)<|PD.pb<|wF l) (c9<|i8<|c5 1) l9)
   (c9<|i8 EK))
 match o,h with
 |[.lst Y],h=>
  simp only[A4]at h;split at h
  .rename_i e f;rw[n4 f];rw[<-h];simp[j2];generalize Sl.v (D.lst<|aCz vd e)=a;generalize Sl.no=b;clear h f;induction e generalizing b with
   |nil=>rfl
   |cons v e p=>
    rw[aAv,G.B4];by_cases c:v=0
    .rw[M4 (ρ2:=[a,.v (vd v)]) rfl (by simp[-mI,ne0,c]),p];simp[c]
    .rw[kJ (x:=vd v) rfl (by simp[-mI,ne0,c])];simp[c,BI]
  .cases h
def A7 (p5:u6 P w K mg base 1 "way_between" 2 l5)(J1:u6 P w K mg base 1 "first_real_way" 1 A4)(D2:u6 P w K mg base 1 "cross_of" 2 w5)(y9:u6 P w K mg base 1 "product_of" 2 j5)(br:mg "len"=none)(O:mg "any"=none)(g:cK K mg "dimension_of" C5):u6 P w K mg base 2 "dimension_of" 1 u4:=by
 refine' l8 (k:=1) (F:=_) g nH (λz hu dh Q=>?b) λo d hl h=>?_
 case b=>
  refine' (b9 (v8 (j4 (L4 hu) (PD.pb<|GH aD<|b8 0) A3) (c9 kZ) l9)
   (b9 (kM 1 ["P"] ["points"] [0] Q rfl (C0 (sc:=c6 C5) (N:=N3)) (o5<|c5 0) (JK λ_ _ _ _ _=>(V6 p5 z (f6 (b8 1) d4)<|c5 0))<|λ_=>k9)
   (b9 (j1 2 (xR J1 z<|c5 1) Q)
   (b9 (v8 (j4 QT (b8 2)<|PD.pb EK) (c9<|i8 d4) l9)
   (b9 (j1 3 (xR J1 z<|B7 ["way"] ["along"] [2] rfl (C0 (sc:=c6 C5) (N:=N3)) (o5<|c5 1) (JK λ_ _ _ _ _=>(V6 D2 z (c5 1)<|c5 0))<|λ_=>k9) Q)
   (b9 (v8 (j4 QT (b8 3)<|PD.pb EK) (c9<|i8 d4) l9)
   (b9 (v8 (Q6<|GH (ck rfl)<|PD.pb<|B7 ["way"] ["upright"] [3] rfl (C0 (sc:=c6 C5) (N:=N3)) (o5<|c5 1) (JK λ_ _ _ _ _=>(eN (T6 hu) (PD.pb<|V6 y9 z (c5 1)<|c5 0) A3))<|λ_=>k9) (c9<|i8 d4) l9)
   (c9<|i8 d4))))))))
 match o,h with
 |[.lst Y],h=>
  simp only[u4]at h;split at h
  .rename_i J l;rw[n4 l];split at h
   .rename_i hz;rw[<-h];obtain⟨ag,E⟩:=hz;match J,ag with
    |p::r,_=>
    obtain⟨a,c⟩:∃a,(p::r).map vd=a:=⟨_,rfl⟩;have i0:T8 (.lst a) (.int 0)=.ok (vd p):=O7 (by rw[aL (by decide),<-c];rfl);have H:u8 (λd ρ=>R.ok (aCA ρ 0<|Sl.v d)) (λx=>R.ok true) (λρ=>(((rJ 1 ρ).bind λx=>T8 x (D.int 0)).bind λd=>((T0 0 ρ).bind λd=>R.ok [d]).bind λo=>R.ok (d::o)).bind l5) [.no,.v (.lst a)] a=.ok (((p::r).map (· -p)).map vd):=by rw[aBn];rw[show u8 _ _ _ _ a=u8 _ _ _ _ ((p::r).map vd)by rw[c]];refine G4 vd _ _ λq m=>⟨[.v (vd q),Sl.v (.lst a)],rfl,?_⟩;show((T8 (.lst a)<|.int 0).bind _).bind _=_;rw[i0];rfl
    have l:∀w∈(p::r).map (· -p),Sz 1001 w:=λw l=>by obtain⟨q,m,rfl⟩:=aAp.mp l;exact(E.1 q m).sub (E.1 p (.head _))
    have I:(((p::r).map (· -p)).map vd).length<=sizeLine:=by rw[aAf,aAf];exact small E.2
    have L:a.length<=sizeLine:=by rw[<-c,aAf];exact small E.2
    have e:((a.length:Int)==0)=false:=by rw[<-c];simp;lia
    have t:=CW ((p::r).map (· -p));unfold G.K6;dsimp only;rw[c];generalize(p::r).map (· -p)=W at*
    have n:=λu=>CW (W.map<|G.cr u);cases T:G.B4 W with
    |none=>rw[T]at t;simp[j2,i9,L,e,H,t,BI,RV]
    |some s=>
     rw[T]at t;obtain⟨hm,_⟩:=G.u5 T;have A:=l s hm;have B:u8 (λd ρ=>R.ok (aCA ρ 0<|Sl.v d)) (λx=>R.ok true) (λρ=>((T0 1 ρ).bind λd=>((T0 0 ρ).bind λd=>R.ok [d]).bind λo=>R.ok (d::o)).bind w5) [.no,.v (vd s)] (W.map vd)=.ok ((W.map<|G.cr s).map vd):=by rw[aBn];refine G4 vd _ _ λq m=>⟨[.v (vd q),Sl.v (vd s)],rfl,?_⟩;show w5 [vd s,vd q]=_;exact bI A.mono (l q m).mono
     have n:=CW (W.map<|G.cr s);have eW:(W.map vd).length=W.length:=aAf ..;rw[eW]at I;cases C:G.B4 (W.map<|G.cr s)with
     |none=>rw[C]at n;simp only[aBn]at B n;simp only[C];simp[j2,i9,L,e,H,t,BI,RV,I,B,n]
     |some f=>
      rw[C]at n;obtain⟨kr,_⟩:=G.u5 C;have U:Sz 2003 f:=by obtain⟨q,m,rfl⟩:=aAp.mp kr;exact(A.cr<|l q m).mono
      have c3:u8 (λd ρ=>R.ok (aCA ρ 0<|Sl.v d)) (λx=>R.ok true) (λρ=>(((T0 1 ρ).bind λd=>((T0 0 ρ).bind λd=>R.ok [d]).bind λo=>R.ok (d::o)).bind j5).bind λx=>xT x (D.int 0)) [.no,.v (vd f)] (W.map vd)=.ok ((W.map λw=>decide (G.c8 f w≠0)).map D.bl):=by rw[aBn];refine G4 vd _ _ λq m=>⟨[.v (vd q),Sl.v (vd f)],rfl,?_⟩;show(j5 [vd f,vd q]).bind _=_;rw[Z1 U.mono (l q m).mono,R.aa0,OJ];congr 2;rw[aDa];simp
      have y:=gk (W.map λw=>decide (G.c8 f w≠0));have ean:(W.map λw=>decide (G.c8 f w≠0)).any id=W.any λw=>decide (G.c8 f w≠0):=by rw[List.any_map];rfl
      rw[ean]at y;simp only[aBn]at B n c3 y;simp only[C];generalize(λw=>decide (G.c8 f w≠0))=Bf at*
      cases hc:W.any Bf with
      |false=>rw[hc]at y;simp[j2,i9,L,e,H,t,BI,RV,I,B,n,c3,y]
      |true=>rw[hc]at y;simp[j2,i9,L,e,H,t,BI,RV,I,B,n,c3,y]
   .cases h
  .cases h
def aQ (A7:u6 P w K mg base 2 "dimension_of" 1 u4)(g:cK K mg "refuse_flat" Z8):u6 P w K mg base 3 "refuse_flat" 1 F4:=by
 refine' l8 (k:=2) (F:=_) g oZ (λc p q r=>?b) λf d s h=>?_
 case b=>refine' (c9<|v8 (j4 yV (PD.pb<|xR A7 c<|c5 0) A3) (c9 kZ) l9)
 match f,h with
 |[.lst Y],h=>
  simp only[F4]at h;split at h
  .rename_i J l;rw[n4 l];split at h
   .rename_i m;rw[<-h];obtain⟨n,a⟩:=m;have o:J≠[]:=λe=>by subst e;cases a
    have e:=PR o n;rw[a]at e;simp[j2,e]
   .cases h
  .cases h
def G0 (kR:u6 P w K mg base 1 "side_of" 2 bD)(g:cK K mg "points_on" Z5):u6 P w K mg base 2 "points_on" 2 A1:=by
 refine' l8 (k:=1) (F:=_) g wG (λm n q r=>?b) λf d s h=>?_
 case b=>refine' (c9<|i8<|B7 ["P"] ["plane"] [0] rfl (C0 (sc:=c6 Z5) (N:=nA)) (o5<|c5 1) (TR λ_ _ _ _ _=>⟨(j4 (L4 n) (PD.pb<|V6 kR m (c5 1)<|c5 0) A3),(c5 0)⟩)<|λ_=>k9)
 replace h:=MO h;obtain⟨a,b,c,d,f,rfl,h⟩:=h;replace h:=wP h;obtain⟨Y,f,rfl,h⟩:=h;replace h:=C4 h;obtain⟨rfl,h⟩:=h
 .skip
  split at h
  .rename_i J o;rw[n4 o];split at h
   .rename_i l;rw[<-h];have e:=L5 vd (G:=λd ρ=>R.ok (aCA ρ 0<|Sl.v d)) (ft:=λρ=>((((T0 1 ρ).bind λd=>((T0 0 ρ).bind λd=>R.ok [d]).bind λf=>R.ok (d::f)).bind bD).bind λx=>DI x (D.int 0)).bind qZ) (fe:=T0 0) (ρ:=[.no,.v (.tup [D.int a,D.int b,D.int c,D.int d])])
     (λX=>decide (G.c8 ⟨a,b,c⟩ X=d)) vd J λP p=>⟨[.v (vd P),Sl.v (D.tup [D.int a,D.int b,D.int c,D.int d])],rfl,by simp[VJ l.1.mono (l.2.1 P p).mono,a2g,G.c8];exact decide_eq_decide.mpr (by lia),λ_=>rfl⟩
    simp[j2,i9,small l.2.2,e];rfl
   .cases h
  .cases h
def J6 (p5:u6 P w K mg base 1 "way_between" 2 l5)(y9:u6 P w K mg base 1 "product_of" 2 j5)(D2:u6 P w K mg base 1 "cross_of" 2 w5)(T1:u6 P w K mg base 2 "plane_through" 3 S4)(dc:RW K mg "NO_WAY" [0,0,0])(g:cK K mg "plane_about" Z9):u6 P w K mg base 3 "plane_about" 2 F1:=by
 refine' l8 (k:=2) (F:=_) g pQ (λs hu dh q=>?b) λN d hl h=>?_
 case b=>
  refine' (b9 (j1 2 (V6 p5 s (f6 (b8 0) d4)<|f6 (b8 0) d4) q)
   (b9 (j1 3 (wF dc) q)
   (b9 (j1 4 (f6 (b8 0) d4) q)
   (b9 (F6 aAO rfl (o5<|c5 1) (m8 5 q) (b9 (j1 6 (V6 p5 s (f6 (b8 0) d4)<|c5 5) q)
   (c9 (v8 (uA.pt<|aI (j4 (L4 hu) (b8 3)<|PD.pb<|wF dc)<|cS<|j4 rC (PD.pb<|V6 y9 s (c5 3)<|c5 6) A3) (b9 (j1 3 (V6 D2 s (c5 2)<|c5 6) q)
   (c9<|j1 4 (c5 5) q)) l9))))
   (c9<|i8<|pc3 T1 s (f6 (b8 0) d4) (f6 (b8 0) d4)<|c5 4)))))
 replace h:=wS h;obtain⟨ys,N,rfl,h⟩:=h;replace h:=wP h;obtain⟨Y,N,rfl,h⟩:=h;replace h:=C4 h;obtain⟨rfl,h⟩:=h;replace h:=C3 h;obtain⟨a,b,c,ys,rfl,h⟩:=h;replace h:=C3 h;obtain⟨d,e,f,ys,rfl,h⟩:=h;replace h:=C4 h;obtain⟨rfl,h⟩:=h
 .skip
  split at h
  .rename_i J hw;rw[n4 hw];split at h
   .rename_i hz;rw[<-h];obtain⟨r,H,hs,O⟩:=hz;have vA:(.tup [.int a,.int b,.int c]:D)=vd ⟨a,b,c⟩:=rfl;have vB:(.tup [.int d,.int e,.int f]:D)=vd ⟨d,e,f⟩:=rfl;rw[vA,vB];generalize(⟨a,b,c⟩:G.V)=A at*
    generalize(⟨d,e,f⟩:G.V)=B at*
    simp[j2];have z0:(.tup [.int 0,.int 0,.int 0]:D)=vd 0:=rfl;rw[z0];refine fD (λrest ρ=>∃(m l:G.V) (n:List G.V) (x y:Sl),ρ=[.v (.tup [vd A,vd B]),.v (.lst (aCz vd J)),.v (vd<|B-A),.v (vd m),.v (vd l),x,y]/\rest=n.map vd/\Sz 2003 m/\Sz 1000 l/\(∀X∈n,Sz 1000 X)/\G.F7 (B-A) A n m l=G.F7 (B-A) A J 0 A) ?_ ⟨0,A,J,_,_,rfl,rfl,⟨by decide,by decide,by decide⟩,r,hs.1,rfl⟩ ?_
    .rintro d N ρ ⟨m,l,n,x,y,rfl,t,Q,T,C,o⟩;match n,t with
     |P::n,t=>
      injection t with e3 e4;subst e3 e4;have U:=C P (.head _);have I:=U.sub r;have e0:=eq0 m;rw[show(.tup [.int 0,.int 0,.int 0]:D)=vd 0 from rfl]at e0;have c1:=bI (u:=B-A) (v:=P-A) (H.sub r).mono I.mono;have p1:=Z1 (u:=m) (v:=P-A) Q.mono I.mono;have w1:=BM A P;have i0:T8 (.tup [vd A,vd B]) (.int 0)=.ok (vd A):=rfl
      conv at o=>lhs;unfold G.F7
      simp only[X9,aBI,aBJ,jC,uZ,Z0,Q9,R.aa0,i0,w1,A6,e0,FP,p1,xA];by_cases L:m=0
      .rw[jk (.inl L)]at o;refine⟨_,?_,G.cr (B-A) (P-A),P,n,.v (vd P),.v (vd<|P-A),rfl,rfl,(((H.sub r).cr I).mono),U,λX E=>C X (.tail _ E),o⟩;rw[decide_eq_true L];simp only[if_true,R.aa0,c1,A6,aBI,aBJ,Z0,Q9]
      .rw[decide_eq_false L];by_cases p:0<G.c8 m (P-A)
       .rw[jk (.inr p)]at o;refine⟨_,?_,G.cr (B-A) (P-A),P,n,.v (vd P),.v (vd<|P-A),rfl,rfl,(((H.sub r).cr I).mono),U,λX E=>C X (.tail _ E),o⟩;rw[decide_eq_true p];simp only[if_true,aAt,if_false,R.aa0,c1,A6,aBI,aBJ,Z0,Q9]
       .rw[ka (λz=>z.elim L p)]at o;refine⟨_,?_,m,l,n,.v (vd P),.v (vd<|P-A),rfl,rfl,Q,T,λX E=>C X (.tail _ E),o⟩;rw[decide_eq_false p];simp only[aAt,if_false,R.aa0]
    .rintro ρ ⟨m,l,n,x,y,rfl,t,Q,T,C,o⟩;have:n=[]:=by simpa using t.symm
     subst this;have o:(m,l)=G.F7 (B-A) A J 0 A:=o;have eo:(G.F7 (B-A) A J 0 A).2=l:=by rw[<-o]
     unfold G.b7 at O⊢;rw[eo]at O⊢;have pl:=NW ⟨r,H,T⟩ (SJ O);simp[pl]
   .cases h
  .cases h
def cT (G0:u6 P w K mg base 2 "points_on" 2 A1)(J6:u6 P w K mg base 3 "plane_about" 2 F1)(A7:u6 P w K mg base 2 "dimension_of" 1 u4)(ud:mg "min"=none)(g:cK K mg "first_pair" cI):u6 P w K mg base 8 "first_pair" 1 G8:=by
 refine' l8 (k:=7) (F:=_) g sI (λe z dh o=>?b) λA d hl h=>?_
 case b=>
  have B:=e.ad2 (by decide);refine' (b9 (j1 1 (bC (UF rfl B)<|o9 (b8 0) x5) o)
   (b9 (j1 2 (zU (c5 1)<|FO (f6 (b8 1) d4) (f6 (b8 1) d4)<|c7 p7 (PD.pb<|f6 (b8 1) d4) A3) o)
   (b9 (j1 3 (V6 G0 e (V6 J6 e (c5 2)<|c5 0)<|c5 0) o)
   (b9 (v8 (j4 (L4 z) (PD.pb<|xR A7 e<|c5 3) A3) (c9<|i8<|c5 2) l9)
   (c9<|i8<|zU (f6 (b8 3) d4)<|f6 (b8 3) d4)))))
 match A,h with
 |[.lst Y],h=>
  simp only[G8]at h;split at h
  .rename_i m J C;rw[n4 C];split at h
   .rename_i a;rw[<-h];have u:=YF a.good.ord;have f:R1 1000 (m::J):=a.sz.mono;have l:Sz 900 m:=a.sz.1 m (.head _);obtain⟨E,H,I,N,O⟩:=G.xY a.good.solid a.good.mem a.good.least;have p:=X6 l.mono (LO l) f E;have q:=zD l.mono (LO l) f;rw[tq]at p;have v:=kB (d:=(G.b7 m (m+G.kk) (m::J)).2) q.mono f;obtain⟨x,y,r,c⟩:=QY H N O;have Q:=LX (n:=(G.b7 m (m+G.kk) (m::J)).1) (d:=(G.b7 m (m+G.kk) (m::J)).2) f;have s:=PR (J:=G.y7 (G.b7 m (m+G.kk) (m::J)).1 (G.b7 m (m+G.kk) (m::J)).2 (m::J)) (by rw[c];simp) Q;have T:T8 (.lst ((G.y7 (G.b7 m (m+G.kk) (m::J)).1 (G.b7 m (m+G.kk) (m::J)).2 (m::J)).map vd)) (.int 0)=.ok (vd x):=O7 (by rw[c];exact zq _ _);have U:T8 (.lst ((G.y7 (G.b7 m (m+G.kk) (m::J)).1 (G.b7 m (m+G.kk) (m::J)).2 (m::J)).map vd)) (.int 1)=.ok (vd y):=O7 (by rw[c];exact tz _ _ _);unfold G.e9;dsimp only;by_cases t:G.K6 (G.y7 (G.b7 m (m+G.kk) (m::J)).1 (G.b7 m (m+G.kk) (m::J)).2 (m::J))=2
    .rw[jk t];rw[t]at s;generalize(m::J).map vd=L at*
     generalize(G.y7 (G.b7 m (m+G.kk) (m::J)).1 (G.b7 m (m+G.kk) (m::J)).2 (m::J)).map vd=L2 at*
     generalize(G.b7 m (m+G.kk) (m::J)).1=pn at*
     generalize(G.b7 m (m+G.kk) (m::J)).2=pm at*
     simp[j2,u,p,v,s,G.kk]
    .rw[ka t];have e0:(G.y7 (G.b7 m (m+G.kk) (m::J)).1 (G.b7 m (m+G.kk) (m::J)).2 (m::J)).getD 0 0=x:=by rw[c];rfl
     have e1:(G.y7 (G.b7 m (m+G.kk) (m::J)).1 (G.b7 m (m+G.kk) (m::J)).2 (m::J)).getD 1 0=y:=by rw[c];rfl
     rw[e0,e1];have hb:((G.K6 (G.y7 (G.b7 m (m+G.kk) (m::J)).1 (G.b7 m (m+G.kk) (m::J)).2 (m::J)):Int)==2)=false:=by rw[beq_eq_false_iff_ne];lia
     generalize(m::J).map vd=L at*
     generalize(G.y7 (G.b7 m (m+G.kk) (m::J)).1 (G.b7 m (m+G.kk) (m::J)).2 (m::J)).map vd=L2 at*
     generalize(G.K6 (G.y7 (G.b7 m (m+G.kk) (m::J)).1 (G.b7 m (m+G.kk) (m::J)).2 (m::J)):Int)=dd at*
     generalize(G.b7 m (m+G.kk) (m::J)).1=pn at*
     generalize(G.b7 m (m+G.kk) (m::J)).2=pm at*
     simp[j2,u,p,v,s,hb,T,U]
   .cases h
  .cases h
def lX (y9:u6 P w K mg base 1 "product_of" 2 j5)(D2:u6 P w K mg base 1 "cross_of" 2 w5)(p5:u6 P w K mg base 1 "way_between" 2 l5)(g:cK K mg "turn_of" lO):u6 P w K mg base 2 "turn_of" 4 fV:=by
 refine' l8 (k:=1) (F:=_) g CJ (λm A B C=>?b) λn d E h=>?_
 case b=>refine' (c9<|i8<|V6 y9 m (c5 0)<|V6 D2 m (V6 p5 m (c5 1)<|c5 2)<|V6 p5 m (c5 2)<|c5 3)
 replace h:=C3 h;obtain⟨a,b,c,n,rfl,h⟩:=h;replace h:=C3 h;obtain⟨d,e,f,n,rfl,h⟩:=h;replace h:=C3 h;obtain⟨g,o,i,n,rfl,h⟩:=h;replace h:=C3 h;obtain⟨j,k,l,n,rfl,h⟩:=h;replace h:=C4 h;obtain⟨rfl,h⟩:=h
 .skip
  split at h
  .rename_i y;obtain⟨p,q,r,s⟩:=y;rw[<-h];have t:=bI (u:=⟨g,o,i⟩-⟨d,e,f⟩) (v:=⟨j,k,l⟩-⟨g,o,i⟩) (r.sub q).mono (s.sub r).mono;have x:=Z1 (u:=⟨a,b,c⟩) (v:=G.cr (⟨g,o,i⟩-⟨d,e,f⟩) (⟨j,k,l⟩-⟨g,o,i⟩)) p.mono ((r.sub q).cr (s.sub r)).mono;simp only[vd,G.WM,G.XV,G.XU,G.UW,G.VP,G.UI]at t x;have z:∀a b c d e f:Int,l5 [.tup [.int a,.int b,.int c],.tup [.int d,.int e,.int f]]=.ok (.tup [.int (d-a),.int (e-b),.int (f-c)]):=λ_ _ _ _ _ _=>rfl;simp[j2,z,t,x,G.turn,G.f8]
  .cases h
def U9 (lX:u6 P w K mg base 2 "turn_of" 4 fV)(br:mg "len"=none)(g:cK K mg "left_chain" bQ):u6 P w K mg base 3 "left_chain" 2 U0:=by
 refine' l8 (k:=2) (F:=_) g rV (λhr hu dh nd=>?b) λp d N h=>?_
 case b=>
  refine' (b9 (fJ 2 (qO m9) nd)
   (b9 (F6 aAO rfl (o5<|c5 1) (m8 3 nd) (b9 (fU (λ_=>1001) aAO (uA.pt<|jQ (j4 rC (PD.pb<|GH aD<|b8 2) A3)<|eU<|j4 yz (PD.pb<|pc4 lX hr (c5 0) (f6 (b8 2)<|iM d4) (f6 (b8 2)<|iM d4)<|c5 3) A3)<|c9<|VT 2)
   (c9<|W4 2<|c5 3)))
   (c9<|FY 2<|i8<|c5 2)))
 replace h:=C3 h;obtain⟨a,b,c,p,rfl,h⟩:=h;replace h:=wP h;obtain⟨Y,p,rfl,h⟩:=h;replace h:=C4 h;obtain⟨rfl,h⟩:=h
 .skip
  split at h
  .rename_i J hw;rw[n4 hw];split at h
   .rename_i O;rw[<-h];obtain⟨sn,hs⟩:=O;have vn:(.tup [.int a,.int b,.int c]:D)=vd ⟨a,b,c⟩:=rfl;rw[vn];generalize(⟨a,b,c⟩:G.V)=n at*
    simp[j2];refine fD (λrest ρ=>∃(c l:List G.V) (x:Sl),ρ=[.v (vd n),.v (.lst (aCz vd J)),.o (c.reverse.map vd),x]/\rest=l.map vd/\(∀X∈c,Sz 1000 X)/\(∀X∈l,Sz 1000 X)/\c.length+l.length<=1000/\l.foldl (λc P=>P::G.Y9 n P c) c=G.w6 n J) ?_ ⟨[],J,_,rfl,rfl,λX q=>by(cases q),hs.1,by simpa using hs.2,rfl⟩ ?_
    .rintro d p ρ ⟨c,l,x,rfl,y,sc,Q,N,A⟩;match l,y with
     |P::l,y=>
      injection y with e3 e4;subst e3 e4;have T:=Q P (.head _);simp only[aAw]at N;simp only[X9,aBI,aBJ];refine Exists.elim (qL (n:=1001) (ρ:=[.v (vd n),.v (.lst (aCz vd J)),.o (c.reverse.map vd),.v (vd P)]) (Post:=λρ=>∃e,ρ=[.v (vd n),.v (.lst (aCz vd J)),.o (e.reverse.map vd),.v (vd P)]/\(∀X∈e,Sz 1000 X)/\e.length<=c.length/\e=G.Y9 n P c)
       (c:=OY (λρ=>((((rJ 2 ρ).bind λd=>R.ok [d]).bind IM).bind λx=>ZO x (D.int 1)).bind qZ) λρ=>((((T0 0 ρ).bind λd=>(((rJ 2 ρ).bind λx=>T8 x (D.int (-2))).bind λd=>(((rJ 2 ρ).bind λx=>T8 x (D.int (-1))).bind λd=>((T0 3 ρ).bind λd=>R.ok [d]).bind λp=>R.ok (d::p)).bind λp=>R.ok (d::p)).bind λp=>R.ok (d::p)).bind fV).bind λx=>leR x (D.int 0)).bind qZ) (F:=λρ=>(EC 2 ρ).bind λz=>R.ok (Out.nx z.snd))
       (λm ρ=>∃e,ρ=[.v (vd n),.v (.lst (aCz vd J)),.o (e.reverse.map vd),.v (vd P)]/\(∀X∈e,Sz 1000 X)/\e.length<=c.length/\e.length<m/\G.Y9 n P e=G.Y9 n P c) ?_ (by rintro ρ ⟨e,_,_,_,h,_⟩;lia) ⟨c,rfl,sc,aAj _,by lia,rfl⟩ ?_) ?_
      .rintro m ρ ⟨e,rfl,sub,s,t,f⟩;match e,sub,s,t,f with
       |[],_,_,_,_=>exact .inl (by simp)
       |[a],_,_,_,_=>exact .inl (by simp)
       |b::a::r,sub,s,t,f=>
        have u:(b::a::r).reverse.map vd=r.reverse.map vd++[vd a,vd b]:=by simp
        have C:T8 (.lst ((b::a::r).reverse.map vd)) (.int (-1))=.ok (vd b):=O7 (by rw[u];exact XF _ _ _);have E:T8 (.lst ((b::a::r).reverse.map vd)) (.int (-2))=.ok (vd a):=O7 (by rw[u];exact XA _ _ _);have H:=HI sn (sub a<|.tail _ (.head _)) (sub b<|.head _) T;have I:(1:Int)<(aCz vd (b::a::r).reverse).length:=by rw[aAf,aBS];simp;lia
        by_cases U:G.turn n a b P<=0
        .refine .inr ⟨?_,[.v (vd n),.v (.lst (aCz vd J)),.o ((a::r).reverse.map vd),.v (vd P)],?_,a::r,rfl,λX q=>sub X (.tail _ q),?_,?_,?_⟩
         .simp only[wE,jC,CT,R.aa0,EY,xA,decide_eq_true I,FP,if_true,Q9,Z0,C,E,H,EH,decide_eq_true U]
         .show(match(aCz vd (b::a::r).reverse)[(aCz vd (b::a::r).reverse).length-1]? with|some d=>_|none=>_:R (D×Ev)).bind _=_;rw[u];simp
         .simp only[aAw]at s⊢;lia
         .simp only[aAw]at t⊢;lia
         .rw[<-f]
          conv=>rhs;unfold G.Y9
          rw[jk U]
        .refine .inl ?_;simp only[wE,jC,CT,R.aa0,EY,xA,decide_eq_true I,FP,if_true,Q9,Z0,C,E,H,EH,decide_eq_false U]
      .rintro m ρ ⟨e,rfl,sub,s,t,f⟩ L;refine⟨e,rfl,sub,s,?_⟩;match e,sub,s,t,f,L with
       |[],_,_,_,f,_=>exact f
       |[a],_,_,_,f,_=>exact f
       |b::a::r,sub,s,t,f,L=>
        have u:(b::a::r).reverse.map vd=r.reverse.map vd++[vd a,vd b]:=by simp
        have C:T8 (.lst ((b::a::r).reverse.map vd)) (.int (-1))=.ok (vd b):=O7 (by rw[u];exact XF _ _ _);have E:T8 (.lst ((b::a::r).reverse.map vd)) (.int (-2))=.ok (vd a):=O7 (by rw[u];exact XA _ _ _);have H:=HI sn (sub a<|.tail _ (.head _)) (sub b<|.head _) T;have I:(1:Int)<(aCz vd (b::a::r).reverse).length:=by rw[aAf,aBS];simp;lia
        simp only[wE,jC,CT,R.aa0,EY,xA,decide_eq_true I,FP,if_true,Q9,Z0,C,E,H,EH,OE,decide_eq_false_iff_not]at L;rw[<-f]
        conv=>rhs;unfold G.Y9
        rw[ka L]
      .rintro ρ2 ⟨ew,e,rfl,sub,s,B⟩;refine⟨[.v (vd n),.v (.lst (aCz vd J)),.o ((P::e).reverse.map vd),.v (vd P)],?_,P::e,l,_,rfl,rfl,?_,λX q=>Q X (.tail _ q),?_,?_⟩
       .rw[ew];have O:(aCz vd e.reverse).length<sizeLine:=by rw[aAf,aBS];exact aCN (show e.length<=1000 by lia) (by decide)
        simp only[A6,Z0,Q9,R.aa0];show(if(aCz vd e.reverse).length<sizeLine then _ else _)=_;rw[jk O];simp
       .intro X q;rcases aAd.mp q with rfl|q
        .exact T
        .exact sub X q
       .simp;lia
       .rw[<-A,aDt,B]
    .rintro ρ ⟨c,l,x,rfl,y,sc,Q,N,A⟩;have:l=[]:=by simpa using y.symm
     subst this;have A:c=G.w6 n J:=A;subst A;simp[BE]
   .cases h
  .cases h
def lE (U9:u6 P w K mg base 3 "left_chain" 2 U0)(A:mg "list"=none)(B:mg "reversed"=none)(g:cK K mg "ring_of" mF):u6 P w K mg base 4 "ring_of" 2 P1:=by
 refine' l8 (k:=3) (F:=_) g DN (λf C E m=>?b) λo d H h=>?_
 case b=>
  refine' (b9 (j1 2 (V6 U9 f (c5 0)<|c5 1) m)
   (b9 (j1 3 (V6 U9 f (c5 0)<|PF.pd<|CV (b8 1) rfl) m)
   (c9<|i8<|c7 p7 (PD.pb<|mT (b8 2) W3<|J4<|iM d4)<|PD.pb<|mT (b8 3) W3<|J4<|iM d4)))
 replace h:=C3 h;obtain⟨a,b,c,o,rfl,h⟩:=h;replace h:=wP h;obtain⟨Y,o,rfl,h⟩:=h;replace h:=C4 h;obtain⟨rfl,h⟩:=h
 .skip
  split at h
  .rename_i J r;rw[n4 r];split at h
   .rename_i s;rw[<-h];obtain⟨p,e⟩:=s;have t:(.tup [.int a,.int b,.int c]:D)=vd ⟨a,b,c⟩:=rfl;rw[t];generalize(⟨a,b,c⟩:G.V)=n at*
    have u:=XH p e;have v:R1 1000 J.reverse:=e.sub (λP x=>by simpa using x) (by simp);have q:=XH p v;rw[aEr (l:=J)]at q;have I:=uU n J;have y:=uU n J.reverse;rw[aBS]at y;have z:jF (.lst ((G.w6 n J).reverse.map vd).dropLast) (.lst ((G.w6 n J.reverse).reverse.map vd).dropLast)=.ok (.lst ((G.k7 n J).map vd)):=by rw[HN (by simp only[aFQ,aAf,aBS];exact aAr (show _<=2000 by have:=e.2;lia) (by decide))];unfold G.k7;rw[aCd,List.map_dropLast,List.map_dropLast]
    simp[-aEr,j2,u,q,UD,z,xw]
   .cases h
  .cases h
def aZ (n:mg "list"=none)(a:mg "zip"=none)(g:cK K mg "pairs_round" aT):u6 P w K mg base 1 "pairs_round" 1 A2:=by
 refine' l8 (k:=0) (F:=_) g qM (λo p q r=>?b) λf d s h=>?_
 case b=>refine' (c9<|i8<|PF.pd<|CP (b8 0) (PD.pb<|c7 p7 (PD.pb<|mT (b8 0) (J4 d4) W3)<|PD.pb<|mT (b8 0) W3<|J4 d4) rfl)
 match f,h with
 |[.lst Y],h=>
  simp only[A2]at h;split at h
  .rename_i J l;rw[n4 l];split at h
   .rename_i t;rw[<-h];have m:jF (.lst (J.map vd).tail) (.lst ((J.map vd).take 1))=.ok (.lst ((J.tail++J.take 1).map vd)):=by rw[HN (by simp only[List.length_tail,aBP,aAf];exact ML (by lia))];rw[aCd,List.map_tail,List.map_take]
    have c:(J.map vd).length=((J.tail++J.take 1).map vd).length:=by
     simp only[aAf,aAE,List.length_tail,aBP]
     lia
    have e:TU [.lst (J.map vd),.lst ((J.tail++J.take 1).map vd)]=.ok ((G.V8 J).map G3):=by show(if _ then _ else _)=_;rw[jk c,vE (β:=Unit)];rfl
    simp[-aCd,-List.map_tail,-List.map_take,j2,UG,fq,m,e]
   .cases h
  .cases h
def bS (J6:u6 P w K mg base 3 "plane_about" 2 F1)(lE:u6 P w K mg base 4 "ring_of" 2 P1)(aZ:u6 P w K mg base 1 "pairs_round" 1 A2)(C:mg "len"=none)(I:mg "sorted"=none)(g:cK K mg "faces_from" bW):TQ P w K mg base 8 3 "faces_from" I9:=by
 obtain⟨f,L,q,l⟩:=g;refine' UO (k:=7) (F:=_) l gM rfl (l.binds λ_ _ _ _ _ _ r t=>match r,t with|[_,_,_],_=>rfl) q (λT A c s H E a=>?hb) ?hm
 case hb=>
  have N:=a.units;have n:=a.ae2;have u:=a.ad2 (by decide);have b:=gM.nd;refine' (b9 (fJ 3 (qO m9) b)
   (b9 (AY 4 b)
   (b9 (fJ 5 (qO<|f9 (c5 0) m9) b)
   (b9 (fU (λ_=>5000) aAO (j4 rC (PD.pb<|GH aD<|b8 5) A3) (b9 (EU 6 5 b)
   (c9 (v8 (KA 4 (c5 6) n) (b9 (j1 7 (V6 J6 a (c5 6) (yC 1 (k:=3) (Φ:=LK P w K mg base 3 1) rfl (f9 (f6 (b8 6) d4) m9) (w8 R6) (a.mono (by decide)))) b)
   (b9 (j1 8 (V6 lE a (mT (b8 7) W3<|J4 d4) (yC 2 (k:=3) (Φ:=LK P w K mg base 3 1) rfl (f9 (c5 7) m9) (w8 R6) (a.mono (by decide)))) b)
   (b9 (W4 3<|zU (c5 7)<|c5 8)
   (c9 (F6 aAO rfl (o5<|xR aZ a<|c5 8) (m8 9 b) (b9 (iS 4 gG (c5 9) n)
   (c9<|W4 5<|zU (f6 (b8 9) d4)<|f6 (b8 9) d4))))))) l9))))
   (c9<|i8<|PF.pd<|DF (b8 3) rfl u)))))
 case hm=>
  intro d O Q U h;simp only[I9]at h;split at h
  .rename_i Y v;split at h
   .rename_i m J x;split at h
    .rename_i e;rw[<-h];obtain⟨e,y,z,o,p⟩:=e;rw[n4 x]at o p;subst z o p;have B:(1:Nat)<=sizeLine:=by decide
     simp only[lC,Q9,X5,cP,R.aa0,aAw,aBL,aEf,B,if_true,A6];exact qz (Φ:=LK P w K mg base 3 1) e y
    .cases h
   .cases h
  .cases h
def tJ:Nst:=⟨"about",HA,D3 fC,t6 fC,c6 fC,ID fC,["corner"],[],["spread"],[1],(λρ=>(T0 1 ρ).bind λd=>.ok (.rt d)),J3,2⟩
def dH:Nst:=⟨"touched_by",jV,D3 J7,t6 J7,c6 J7,ID J7,["plane"],[],["spread"],[1],(λρ=>((q8 (T0 0) (q8 (T0 1) R5) ρ).bind A1).bind λd=>.ok (.rt d)),D5,3⟩
def KS {f:bb}{T:ai}{A:cp}{a:List Env}{s:a9}{H:Hp}{E:XK}:NstOk (SH P w K mg base gR "faces_of" (c6 K7) f T A a s H E) 2 tJ where
 sc:=⟨rfl,rfl,rfl,by decide+kernel,by decide+kernel,by decide+kernel,λx h=>GN h,by decide+kernel⟩
 one:=rfl
 body:=λr g c A a s H k=>by have t:=k.units;exact(c9<|i8<|c5 1)
 mm:=by
  intro l m d b e h;match l,m,b,e,h with
  |[_],[_],_,_,h=>cases h;rfl
 bind:=λc n u g o p q=>match p,q with|[_],_=>rfl
 len:=rfl
 at_:=λi j x b e=>match i,b,e with
  |0,b,e=>by obtain rfl:1=j:=aAk b;obtain rfl:("spread":Str)=x:=aAk e;exact⟨rfl,rfl⟩
  |i+1,b,_=>nomatch(show(none:Option Nat)=some j from b)
 d0:=rfl
 k0:=rfl
 nm:=rfl
 lc:=.inl rfl
 st:=.inl rfl
 dbg:=by decide
 cdt:=by decide
def pM (G0:u6 P w K mg base 2 "points_on" 2 A1){f:bb}{T:ai}{A:cp}{a:List Env}{s:a9}{H:Hp}{E:XK}:NstOk (SH P w K mg base gR "faces_of" (c6 K7) f T A a s H E) 2 dH where
 sc:=⟨rfl,rfl,rfl,by decide+kernel,by decide+kernel,by decide+kernel,λx h=>GN h,by decide+kernel⟩
 one:=rfl
 body:=λu l c A a s H k=>by have y:=k.units;exact(c9<|i8<|V6 G0 k (c5 0)<|c5 1)
 mm:=by
  intro m n d b g h;match m,n,b,g,h with
  |[w],[p],_,_,h=>have h:A1 [p,w]=.ok d:=h;show N6 (((q8 (T0 0) (q8 (T0 1) R5) [.v p,.v w]).bind A1).bind λd=>.ok (.rt d))=.ok d;have e:q8 (T0 0) (q8 (T0 1) R5) [.v p,.v w]=.ok [p,w]:=rfl;rw[e,R.aa0,h];rfl
 bind:=λc o z l q r t=>match r,t with|[_],_=>rfl
 len:=rfl
 at_:=λi j x b g=>match i,b,g with
  |0,b,g=>by obtain rfl:1=j:=aAk b;obtain rfl:("spread":Str)=x:=aAk g;exact⟨rfl,rfl⟩
  |i+1,b,_=>nomatch(show(none:Option Nat)=some j from b)
 d0:=rfl
 k0:=rfl
 nm:=rfl
 lc:=.inl rfl
 st:=.inl rfl
 dbg:=by decide
 cdt:=by decide
def iL {u:bb}(G0:u6 P w K mg base 2 "points_on" 2 A1)(aQ:u6 P w K mg base 3 "refuse_flat" 1 F4)(cT:u6 P w K mg base 8 "first_pair" 1 G8)(bS:TQ P w K mg base 8 3 "faces_from" I9)(ar:mg "sorted"=none)(ic:mg "set"=none)(T:jI mg base)(l:(u,tbK)∈Tabs.tbs)(g:sk K mg "faces_of" K7 u):u6 P w K mg base 9 "faces_of" 1 Y0:=by
 obtain⟨f,fd,cd,U,hK,y⟩:=g;refine' TX (k:=8) (F:=_) y nF (y.fn.binds λ_ _ _ _ _ _ us z=>match us,z with|[_],_=>rfl) U (λA o s H E a=>?hb) ?hm
 case hb=>
  have hu:=a.units;have dh:=a.ae2;have rh:=a.ad2 (by decide);have B:=nF.nd;refine' (b9 (MI<|xR aQ a<|c5 0)
   (b9 (j1 1 (PF.pd<|N4 (b8 0) rfl rh) B)
   (EM (n1:=tJ) (n2:=dH) (clos1:=[("spread",s.heap.objs.size+1)]) (clos2:=[("spread",s.heap.objs.size+1)]) (tb:=tbK) KS (pM G0) ?co1 ?co2 ?hA T rfl hK l (by decide+kernel) (by decide+kernel) (by decide+kernel) (by decide+kernel) (by decide) B bS (a.mono (by decide)) (xR cT a<|c5 1) (λ_=>rfl))))
  case co1=>exact⟨rfl,rfl,rfl,λx c h=>h,λx p=>⟨_,by obtain rfl:x= "spread":=aBm.mp p;rfl⟩⟩
  case co2=>exact⟨rfl,rfl,rfl,λx c h=>h,λx p=>⟨_,by obtain rfl:x= "spread":=aBm.mp p;rfl⟩⟩
  case hA=>exact IV
 case hm=>
  intro q d z h;match q,h with
  |[.lst Y],h=>
   simp only[Y0]at h;split at h
   .rename_i J hw;rw[n4 hw];split at h
    .rename_i hz;rw[<-h];obtain⟨C,I,N⟩:=hz;obtain⟨m,r,e,L⟩:=U8 C I (by lia);have t:=zR (J:=J) (by lia);have fl:=WD (C.mono (n:=1000)) I;rw[e]at N t⊢;have O:=rq L;have Q:=fy L N;obtain⟨b,eL⟩:∃b,(m::r).map vd=b:=⟨_,rfl⟩;rw[eL]at t O Q;show N6 (D9 ((F4 [D.lst (J.map vd)]).bind λ_=>R.ok (Out.nx [.v (.lst (J.map vd)),.no,.no,.no])) _)=_;rw[fl,R.aa0,A6];show N6 (D9 (((zj<|.lst (J.map vd)).bind λq=>R.ok (D.lst q)).bind λd=>R.ok (Out.nx [.v (.lst (J.map vd)),.v d,.no,.no])) _)=_;rw[t,R.aa0,R.aa0,A6];show N6 (((G8 [D.lst b]).bind λd1=>(R.ok [D.lst b]).bind λw1=>(R.ok [D.lst b]).bind λw2=>I9 d1 (J3 w1) (D5 w2)).bind λd=>R.ok (Out.rt d))=_;rw[O,R.aa0,R.aa0,R.aa0,Q];rfl
    .cases h
   .cases h
def aP (s:mg "sorted"=none)(t:mg "set"=none)(g:cK K mg "corners_in" cQ):sN P w K mg base 8 "corners_in" 1 G5:=by
 refine' zF (k:=7) (F:=_) g rX (λl u x c=>?b) λm d y h=>?_
 case b=>
  have o:=l.ad2 (by decide);refine' (uN (fJ 1 (qO m9) c)
   (uN (F6 aAO rfl (o5<|c5 0) (iZ (n:=2) rfl<|B0 (m8 2 c)<|B0 (m8 3 c) fH)<|c9<|DO 1<|c5 3)
   (AV<|N4 (b8 1) rfl o)))
 match m,h with
 |[.lst Y],h=>
  simp only[G5]at h;split at h
  .rename_i p q;split at h
   .rename_i f;rw[<-h];obtain⟨z,A,e⟩:=mR (a:=Sl.v (D.lst Y)) Y p [] Sl.no Sl.no q (by simpa using f.1);rw[aEj,aDw]at e;have r:=zR f.2;simp[j2,-List.map_flatten,e,r]
   .cases h
  .cases h
def iE (iL:u6 P w K mg base 9 "faces_of" 1 Y0)(aP:sN P w K mg base 8 "corners_in" 1 G5)(g:cK K mg "body_of" lL):sN P w K mg base 10 "body_of" 1 L6:=by
 refine' zF (k:=9) (F:=_) g EX (λc t u v=>?b) λn d x h=>?_
 case b=>refine' (AV (QD aP (c.mono (by decide)) (f9 (xR iL c<|c5 0) m9)<|w8 R6))
 match n,h with
 |[.lst Y],h=>
  simp only[L6]at h;split at h
  .rename_i J o;rw[n4 o];split at h
   .rename_i p;rw[<-h];obtain⟨f,l,a⟩:=p;obtain⟨m,r,e,L⟩:=U8 f l (by lia);have q:=MS f l a;have y:((j9<|d7 J).flatMap (G.l7<|d7 J)).length<=200/\(d7<|(j9<|d7 J).flatMap (G.l7<|d7 J)).length<=14:=by rw[e]at a⊢;exact vH L a
    have s:=DM (J:=d7 J) (fs:=j9 (d7 J)) (by lia) (by lia);simp[j2,q,s,p6]
   .cases h
  .cases h
end
section
variable [Tabs]
variable{P:bt} {w:cq} {K:kc} {mg:dG} {base:cv}
def fK (A7:u6 P w K mg base 2 "dimension_of" 1 u4)(r:u6 P w K mg base 10 "body_of" 1 L6)(A:mg "len"=none)(g:cK K mg "is_body" mB):u6 P w K mg base 11 "is_body" 1 O9:=by
 refine' l8 (k:=10) (F:=_) g CD (λm o C E=>?b) λs d H h=>?_
 case b=>
  refine' (b9 (v8 (uA.pt<|aI (j4 (L4 o) (PD.pb<|GH aD<|b8 0) A3)<|cS<|j4 yV (PD.pb<|xR A7 m<|c5 0) A3) (c9<|i8 gG) l9)
   (c9<|i8<|eN (L4 o) (PD.pb<|xR r m<|c5 0)<|b8 0))
 match s,h with
 |[.lst Y],h=>
  simp only[O9]at h;split at h
  .rename_i J t;rw[n4 t];split at h
   .rename_i c;rw[<-h];by_cases a:J=[]
    .subst a;simp[j2]
    .have c:R1 1000 J/\¬G.j8 J:=by
      rcases c with z|z
      .exact absurd z a
      .exact z
     have e:=WV c.1 a;have lt:=YT c.2;have lt':((G.K6 J:Nat):Int)<3:=by lia
     have f:¬(((J.map vd).length:Int)=0):=by
      rw[aAf];have:J.length≠0:=λz=>a (aCv z)
      lia
     generalize((G.K6 J:Nat):Int)=I at*
     generalize J.map vd=L at*
     simp[j2,f,e,lt']
   .rename_i l;split at h
    .rename_i c;rw[<-h];obtain⟨p,q,u,N⟩:=c;have a:J≠[]:=λz=>l (.inl z);have e:=WV (p.mono (n:=1000)) a;have v:=PP q;rw[v]at e;have b:=HU p q u;have f:¬(((J.map vd).length:Int)=0):=by
      rw[aAf];have:J.length≠0:=λz=>a (aCv z)
      lia
     have x:DI (.lst ((p6 J).map vd)) (.lst (J.map vd))=.ok (.bl (decide (p6 J=J))):=BU _ _;have y:J.map vd≠[]:=λz=>a (List.map_eq_nil_iff.mp z);generalize decide (p6 J=J)=B at*
     generalize(p6 J).map vd=L2 at*
     generalize J.map vd=L at*
     simp[j2,y,f,e,b,x]
    .cases h
  .cases h
end
section
variable [Tabs]
variable{P:bt} {w:cq} {K:kc} {mg:dG} {base:cv}
def C9 (p:mg "len"=none)(g:cK K mg "_law_cell" eF):u6 P w K mg base 1 "_law_cell" 2 Z3:=by
 refine' l8 (k:=0) (F:=_) g xL (λq r s t=>?b) λf d u h=>?_
 case b=>
  refine' (b9 (v8 (j4 yV (b8 1)<|PD.pb<|GH aD<|b8 0) (c9<|i8<|f6 (b8 0)<|c5 1) l9)
   (c9<|i8<|c7 p7 (PD.pb<|c7 p7 (PD.pb<|c7 n6 (PD.pb<|c7 n6 A3<|b8 1)<|b8 1)<|PD.pb<|c7 n6 A3<|b8 1) A3))
 match f,h with
 |[.lst Y,.int k],h=>
  simp only[Z3]at h;split at h
  .rename_i l;obtain⟨m,v⟩:=l;rw[<-h];have a:bits k<=20:=K9 (by lia) (by lia);have n:bits (6*k)<=30:=K9 (by lia) (by lia);by_cases c:k<Y.length
   .have e:Y[k.toNat]?=some Y[k.toNat]:=aAh (by lia);have o:rG Y k=some Y[k.toNat]:=by rw[aL m,e]
    simp[j2,c,O7 o,tL,e]
   .have e:Y[k.toNat]?=none:=aBM.mpr (by lia);simp[j2,c,tL,e,i7 (m6.of (show bits 6<=10 by decide) a),i7 (m6.of n a),i7 (m6.of (show bits 5<=10 by decide) a),M.zT]
  .cases h
def D7 (g:cK K mg "_law_way" iW):u6 P w K mg base 1 "_law_way" 2 l5:=by
 refine' l8 (k:=0) (F:=_) g yE (λf l m n=>?b) λe d o h=>?_
 case b=>refine' (c9<|i8<|FO (c7 v7 (PD.pb<|f6 (b8 1) d4)<|PD.pb<|f6 (b8 0) d4) (c7 v7 (PD.pb<|f6 (b8 1) d4)<|PD.pb<|f6 (b8 0) d4)<|c7 v7 (PD.pb<|f6 (b8 1) d4)<|PD.pb<|f6 (b8 0) d4)
 replace h:=C3 h;obtain⟨a,b,c,e,rfl,h⟩:=h;replace h:=C3 h;obtain⟨p,q,r,e,rfl,h⟩:=h;replace h:=C4 h;obtain⟨rfl,h⟩:=h;exact h
def M2 (g:cK K mg "_law_cross" cB):u6 P w K mg base 1 "_law_cross" 2 w5:=by
 refine' l8 (k:=0) (F:=_) g sM (λr s t u=>?b) λe d v h=>?_
 case b=>refine' (c9<|i8<|FO (c7 v7 (PD.pb<|c7 n6 (PD.pb<|f6 (b8 0) d4)<|PD.pb<|f6 (b8 1) d4)<|PD.pb<|c7 n6 (PD.pb<|f6 (b8 0) d4)<|PD.pb<|f6 (b8 1) d4) (c7 v7 (PD.pb<|c7 n6 (PD.pb<|f6 (b8 0) d4)<|PD.pb<|f6 (b8 1) d4)<|PD.pb<|c7 n6 (PD.pb<|f6 (b8 0) d4)<|PD.pb<|f6 (b8 1) d4)<|c7 v7 (PD.pb<|c7 n6 (PD.pb<|f6 (b8 0) d4)<|PD.pb<|f6 (b8 1) d4)<|PD.pb<|c7 n6 (PD.pb<|f6 (b8 0) d4)<|PD.pb<|f6 (b8 1) d4)
 replace h:=C3 h;obtain⟨a,b,c,e,rfl,h⟩:=h;replace h:=C3 h;obtain⟨x,y,z,e,rfl,h⟩:=h;replace h:=C4 h;obtain⟨rfl,h⟩:=h;split at h
 .rename_i q;obtain⟨⟨f,l,m⟩,n,o,p⟩:=q;rw[<-h];simp[j2,i7 (m6.of l p),i7 (m6.of m o),i7 (m6.of m n),i7 (m6.of f p),i7 (m6.of f o),i7 (m6.of l n)]
 .cases h
def o8 (g:cK K mg "_law_product" X3):u6 P w K mg base 1 "_law_product" 2 j5:=by
 refine' l8 (k:=0) (F:=_) g nJ (λr s u v=>?b) λe d x h=>?_
 case b=>refine' (c9<|i8<|c7 p7 (PD.pb<|c7 p7 (PD.pb<|c7 n6 (PD.pb<|f6 (b8 0) d4)<|PD.pb<|f6 (b8 1) d4)<|PD.pb<|c7 n6 (PD.pb<|f6 (b8 0) d4)<|PD.pb<|f6 (b8 1) d4)<|PD.pb<|c7 n6 (PD.pb<|f6 (b8 0) d4)<|PD.pb<|f6 (b8 1) d4)
 replace h:=XO h;obtain⟨a,b,c,t,e,rfl,h⟩:=h;replace h:=C3 h;obtain⟨y,z,A,e,rfl,h⟩:=h;replace h:=C4 h;obtain⟨rfl,h⟩:=h;split at h
 .rename_i f;obtain⟨⟨l,m,n⟩,o,p,q⟩:=f;rw[<-h];simp[j2,WT,XT,WZ,i7 (m6.of l o),i7 (m6.of m p),i7 (m6.of n q)]
 .cases h
def cC (eu:mg "range"=none)(bo:mg "tuple"=none)(g:cK K mg "_law_point" cU):u6 P w K mg base 1 "_law_point" 2 bM:=by
 refine' l8 (k:=0) (F:=_) g sS (λhr v dh e=>?b) λC d hl h=>?_
 case b=>
  refine' (b9 (v8 (j4 (L4 v) (b8 1) A3) (b9 (j1 2 (c7 p7 (PD.pb<|c7 n6 A3<|PD.pb<|c7 iH A3 A3) A3) e)
   (c9<|i8<|FO (c7 v7 (PD.pb<|c7 z7 (b8 0)<|b8 2)<|PD.pb<|c7 iH A3 A3) (c7 v7 (PD.pb<|c7 z7 (PD.pb<|c7 x6 (b8 0)<|b8 2)<|b8 2)<|PD.pb<|c7 iH A3 A3)<|c7 v7 (PD.pb<|c7 z7 (PD.pb<|c7 x6 (b8 0)<|PD.pb<|c7 n6 (b8 2)<|b8 2)<|b8 2)<|PD.pb<|c7 iH A3 A3)) l9)
   (b9 (v8 (j4 (L4 v) (b8 1) A3) (b9 (j1 3 (c7 z7 (PD.pb<|c7 p7 (PD.pb<|c7 n6 (b8 0) A3) A3) A3) e)
   (b9 (fJ 4 (qO m9) e)
   (b9 (F6 aAO rfl (V9<|o9 A3 x5) (m8 5 e) (b9 (j1 3 (c7 z7 (PD.pb<|c7 p7 (PD.pb<|c7 p7 (PD.pb<|c7 n6 (b8 3)<|b8 3)<|PD.pb<|c7 n6 A3<|b8 5) A3) A3) e)
   (c9<|W4 4<|c7 v7 (PD.pb<|c7 z7 (b8 3) A3)<|PD.pb<|c7 iH A3 A3)))
   (c9<|i8<|P6 jL<|o9 (b8 4) x5)))) l9)
   (b9 (j1 2 (f6 (PD.pb<|aV<|f9 d4<|f9 d4<|f9 d4 m9)<|c5 1) e)
   (c9<|i8<|FO (c7 v7 (PD.pb<|c7 z7 (b8 0)<|b8 2)<|PD.pb<|c7 x6 (b8 2) A3) (c7 v7 (PD.pb<|c7 z7 (PD.pb<|c7 x6 (b8 0)<|b8 2)<|b8 2)<|PD.pb<|c7 x6 (b8 2) A3)<|c7 v7 (PD.pb<|c7 z7 (PD.pb<|c7 x6 (b8 0)<|PD.pb<|c7 n6 (b8 2)<|b8 2)<|b8 2)<|PD.pb<|c7 x6 (b8 2) A3))))
 match C,h with
 |[.int t,.int a],h=>
  simp only[bM]at h;split at h
  .rename_i q;rw[<-h];obtain⟨q,h0,h4⟩:=q;have y:KM (.int 10) (.int 9)=.ok (.int 1000000000):=(zI ⟨by decide,by decide,by decide⟩).trans (by rfl);have m:∀{x w:Int},0<w->V4 (.int x) (.int w)=.ok (.int (x.fmod w)):=λE=>W8 E;have z:∀{w:Int},0<w->bits w<=80->U6 (.int w) (.int w)=.ok (.int (w*w))/\N5 (.int t) (.int w)=.ok (.int (t.fdiv w))/\N5 (.int t) (.int (w*w))=.ok (.int (t.fdiv<|w*w))/\N5 (.int w) (.int 2)=.ok (.int (w.fdiv 2)):=λ{w} f c=>by have ww:0<w*w:=aAT f f;exact⟨i7 (m6.of c c),V7 ⟨by lia,v9 c⟩,V7 ⟨by lia,v9 (bits_mul c c)⟩,kQ (by decide) (by decide)⟩
   by_cases r:a=4
   .subst r;have H:U6 (.int t) (.int 40009)=.ok (.int (t*40009)):=i7 (m6.of q (show bits 40009<=80 by decide));have n:∀x:Int,bits (x.fmod 2147483647)<=80:=λx=>bits_fmod (by decide) (by decide);have I:U6 (.int (XD t)) (.int (XD t))=.ok (.int (XD t*XD t)):=i7 (m6.of (n _)<|n _);have J:∀s k:Int,U6 (.int (oB s k)) (.int (oB s k))=.ok (.int (oB s k*oB s k)):=λs k=>i7 (m6.of (n _)<|n _);have L:(t*40009+6007).fmod 2147483647=XD t:=rfl;have N:∀s:Int,(s*s+11).fmod 2147483647=oB s 0:=λs=>by unfold oB;simp
    have O:∀s:Int,(s*s+5003+11).fmod 2147483647=oB s 1:=λs=>by unfold oB;simp
    have Q:∀s:Int,(s*s+10006+11).fmod 2147483647=oB s 2:=λs=>by unfold oB;simp
    have l:∀x:Int,V4 (.int x) (.int 2147483647)=.ok (.int (x.fmod 2147483647)):=λx=>m (by decide);have T:∀x:Int,V4 (.int x) (.int 2000000011)=.ok (.int (x.fmod 2000000011)):=λx=>m (by decide);have k0:U6 (.int 5003) (.int 0)=.ok (.int 0):=(i7 (m6.of (show bits 5003<=80 by decide) (show bits 0<=80 by decide))).trans (by rfl);have U:U6 (.int 5003) (.int 1)=.ok (.int 5003):=(i7 (m6.of (show bits 5003<=80 by decide) (show bits 1<=80 by decide))).trans (by rfl);have Y:U6 (.int 5003) (.int 2)=.ok (.int 10006):=(i7 (m6.of (show bits 5003<=80 by decide) (show bits 2<=80 by decide))).trans (by rfl);simp[j2,y,H,l,T,L,N,O,Q,I,J,k0,U,Y,G1,AD,XI,XM,tx,vd,wI,dF,sizeLine,rN]
   .by_cases A:a=3
    .subst A;have k0:U6 (.int 2) (.int 1000000000)=.ok (.int 2000000000):=(i7 (m6.of (show bits 2<=80 by decide) (show bits 1000000000<=80 by decide))).trans (by rfl);obtain⟨o,u,p,B⟩:=z (w:=2000000001) (by decide) (by decide);have l:∀x:Int,V4 (.int x) (.int 2000000001)=.ok (.int (x.fmod 2000000001)):=λx=>m (by decide);simp only[Int.reduceMul]at o p;simp[j2,y,k0,o,u,p,l,XI,cZ,dw,vd,dF,sizeLine]
    .have wi:T8 (.lst [.int 3,.int 5,.int 9]) (.int a)=.ok (.int (cZ a))/\0<cZ a/\bits (cZ a)<=80:=by rcases(show a=0\/a=1\/a=2 by lia)with rfl|rfl|rfl<;>exact⟨rfl,by decide,by decide⟩
     obtain⟨iw,f,c⟩:=wi;have pt:XI t a=dw t (cZ a):=ka r;rw[pt];generalize cZ a=w at*
     obtain⟨o,u,p,B⟩:=z f c;have l:∀x:Int,V4 (.int x) (.int w)=.ok (.int (x.fmod w)):=λx=>m f;simp[j2,r,A,iw,o,u,p,B,l,dw,vd,dF,sizeLine,rN]
  .exact absurd h (by simp)
def aU (C9:u6 P w K mg base 1 "_law_cell" 2 Z3)(cC:u6 P w K mg base 1 "_law_point" 2 bM)(eu:mg "range"=none)(ji:mg "enumerate"=none)(g:cK K mg "_law_points" J5):u6 P w K mg base 2 "_law_points" 2 fS:=by
 refine' l8 (k:=1) (F:=_) g qP (λA hu dh s=>?b) λm d U h=>?_
 case b=>
  refine' (b9 (j1 2 (c7 p7 A3<|PD.pb<|c7 z7 (PD.pb<|V6 C9 A (c5 0) d4)<|PD.pb<|c7 v7 (b8 1) A3) s)
   (b9 (uP 3 ["k"] [] [] s rfl (C0 (sc:=c6 J5) (N:=aN)) (V9<|o9 (b8 2) x5) (JK λ_ _ _ _ _=>(c7 p7 (PD.pb<|c7 n6 (PD.pb<|c7 n6 A3<|b8 0)<|b8 0)<|PD.pb<|c7 n6 A3<|b8 0))<|λ_=>k9)
   (b9 (F6 aAO rfl (NE<|mT (b8 0) (J4 d4)<|J4 d4) (iZ (n:=2) rfl<|B0 (m8 4 s)<|B0 (m8 5 s) fH)<|c9<|KW 3 (c7 p7 (PD.pb<|f6 (b8 3)<|c7 z7 (b8 4)<|b8 2)<|b8 5)<|c7 z7 (b8 4)<|b8 2)
   (c9<|FY 3<|i8<|B7 ["total"] ["script"] [0] rfl (C0 (sc:=c6 J5) (N:=aN)) (o5<|c5 3) (JK λ_ _ _ _ _=>(V6 cC A (c5 0)<|c7 z7 (PD.pb<|V6 C9 A (c5 1) d4) A3))<|λ_=>k9))))
 match m,h with
 |[.lst Y,.int c],h=>
  simp only[fS]at h;split at h
  .rename_i hc;rw[<-h];obtain⟨u,U,J,h1⟩:=hc;obtain⟨c0,b0⟩:=FJ u 0 (by decide) (by decide);obtain⟨c1,b1⟩:=FJ u 1 (by decide) (by decide);have B:=iI Y J;have L:V4 (.int (cJ Y 0)) (.int (c-3))=.ok (.int ((cJ Y 0).fmod (c-3))):=W8 (by lia);have O:dW [.int (4+(cJ Y 0).fmod (c-3))]=.ok ((aBw<|x4 Y c).map λ(k:Nat)=>D.int (k:Int)):=by rw[<-B.2.2];exact ny (by lia)
   have t0:=GF (x4 Y c) (by lia);have cm:u8 (λd ρ=>R.ok (aCA ρ 0<|Sl.v d)) (λx=>R.ok true) (λρ=>(((rJ 0 ρ).bind λy=>U6 (D.int 5) y).bind λx=>(rJ 0 ρ).bind λy=>U6 x y).bind λx=>((rJ 0 ρ).bind λy=>U6 (D.int 3) y).bind λy=>jF x y) [.no] ((aBw<|x4 Y c).map λ(k:Nat)=>D.int (k:Int))=.ok ((yH<|x4 Y c).map D.int):=by
    unfold yH;rw[aBn];refine G4 (λ(k:Nat)=>D.int (k:Int)) _ _ λk C=>⟨[.v (.int k)],rfl,?_⟩;have kl:k<x4 Y c:=by simpa using C
    have z:bits (k:Int)<=80:=K9 (by lia) (by lia);have m1:U6 (.int 5) (.int k)=.ok (.int (5*k)):=i7 (m6.of (show bits 5<=80 by decide) z);have m2:U6 (.int (5*(k:Int))) (.int k)=.ok (.int (5*k*k)):=i7 (m6.of (bits_mul (show bits 5<=80 by decide) z) z);have m3:U6 (.int 3) (.int k)=.ok (.int (3*k)):=i7 (m6.of (show bits 3<=80 by decide) z);simp[m1,m2,m3]
   have en:NR [.lst ((Y.take 63).drop 2)]=.ok (vG 0<|(Y.take 63).drop 2):=by rw[<-TF];rfl
   have l1:x4 Y c<=sizeLine:=aAr (show x4 Y c<=20 by lia) (by decide);have hlc:((Y.take 63).drop 2).length<=61:=by simp;lia
   have E:M8 1048576 ((Y.take 63).drop 2):=λx H=>u x (aEt<|aCU H);have Q:=RI u J h1;have q5:=iT (a:=cJ Y 1) (b:=5) (by decide);have m5:V4 (.int (cJ Y 1)) (.int 5)=.ok (.int ((cJ Y 1).fmod 5)):=W8 (by decide);have cf:u8 (λd ρ=>R.ok (aCA ρ 0<|Sl.v d)) (λx=>R.ok true) (λρ=>((T0 0 ρ).bind λd=>(((((T0 1 ρ).bind λd=>R.ok [d,D.int 1]).bind Z3).bind λx=>V4 x (D.int 5)).bind λd=>R.ok [d]).bind λm=>R.ok (d::m)).bind bM) [.no,.v (.lst Y)] ((AM Y c).map D.int)=.ok ((iJ Y c).map vd):=by unfold iJ;rw[aBn];refine G4 D.int _ _ λt ht=>⟨[.v (.int t),Sl.v (.lst Y)],rfl,?_⟩;have:=JQ (t:=t) (way:=(cJ Y 1).fmod 5) (j7 (Q.2 t ht) (by decide)) q5.1 (by lia);simp[c1,m5,this]
   have T:((AM Y c).map D.int).length<=sizeLine:=by rw[aAf,Q.1];exact aAr (show x4 Y c<=20 by lia) (by decide)
   have p:0<x4 Y c:=by lia
   simp only[<-B.2.2]at O L⊢;simp-implicitDefEqProofs [j2,c0,L,O,cm,l1,i9,ay,en,<-B.2.2];refine fD (λm ρ=>∃(k:Nat) (f:List D) (ts:List Int) (a b:Sl),m=vG k f/\ρ=[.v (.lst Y),.v (.int c),.v (.int (x4 Y c:Int)),.o (ts.map D.int),a,b]/\zE (x4 Y c) k f ts=AM Y c/\ts.length=x4 Y c/\M8 1048576 f) ?_ ⟨0,(Y.take 63).drop 2,yH (x4 Y c),_,_,rfl,rfl,rfl,t0.1,E⟩ ?_
   .rintro d m ρ ⟨k,f,ts,a,b,l,rfl,e,I,q⟩;match f,l,e,q with
    |y::f,l,e,q=>
     obtain⟨i,rfl,hb⟩:=q _ (.head _);injection l with l e2;subst l e2;have C:k%x4 Y c<ts.length:=by rw[I];exact aDO _ p
     have mk:V4 (.int (k:Int)) (.int (x4 Y c:Int))=.ok (.int ((k%x4 Y c:Nat):Int)):=(W8 (by lia)).trans (by rw[aDE _ (by lia)];rfl);have ix:T8 (.lst (ts.map D.int)) (.int ((k%x4 Y c:Nat):Int))=.ok (.int (ts.getD (k%x4 Y c) 0)):=O7 (by rw[aL (by lia),aBA,aAG,aAq,aAh C];rfl)
     have r:IN (ts.map D.int).length ((k%x4 Y c:Nat):Int)=some (k%x4 Y c):=by unfold IN;rw[jk (by lia),jk (by rw[aAf];lia),aBA]
     refine⟨[.v (.lst Y),.v (.int c),.v (.int (x4 Y c:Int)),.o ((ts.set (k%x4 Y c)<|ts.getD (k%x4 Y c) 0+i).map D.int),.v (.int (k:Int)),.v (.int i)],?_,k+1,f,_,_,_,rfl,rfl,e,by simpa using I,λx H=>q x (.tail _ H)⟩;clear e;rw[aAf]at r;generalize k%x4 Y c=j at*
     generalize ts.getD j 0=tj at*
     simp[O8,jN,cA,qF,mk,ix,ZV,r]
   .rintro ρ ⟨k,f,ts,a,b,l,rfl,e,I,q⟩;match f,l,e with
    |[],_,e=>
     have e:ts=AM Y c:=e;subst e;have l3:(AM Y c).length<=sizeLine:=by rw[aAf]at T;exact T
     simp[BE,M3,l3,cf]
  .exact absurd h (by simp)
def bX (D7:u6 P w K mg base 1 "_law_way" 2 l5)(M2:u6 P w K mg base 1 "_law_cross" 2 w5)(o8:u6 P w K mg base 1 "_law_product" 2 j5)(g:cK K mg "_law_solid" N7):u6 P w K mg base 2 "_law_solid" 1 dQ:=by
 refine' l8 (k:=1) (F:=_) g rO (λA e dh f=>?b) λm d s h=>?_
 case b=>
  refine' (b9 (kM 1 ["one"] ["points"] [0] f rfl (C0 (sc:=c6 N7) (N:=cD)) (o5<|c5 0) (JK λ_ _ _ _ _=>(V6 D7 A (f6 (b8 1) d4)<|c5 0))<|λ_=>k9)
   (b9 (F6 aAO rfl (o5<|c5 1) (m8 2 f) (c9 (F6 aAO rfl (o5<|c5 1) (m8 3 f) (b9 (j1 4 (V6 M2 A (c5 2)<|c5 3) f)
   (c9<|v8 (uA.pt<|jQ (j4 (T6 e) (b8 4)<|PD.pb<|FO d4 d4 d4)<|eU<|j4 (T6 e) (PD.pb<|B7 ["w"] ["crossed"] [4] rfl (C0 (sc:=c6 N7) (N:=cD)) (o5<|c5 1) (TR λ_ _ _ _ _=>⟨(j4 (T6 e) (PD.pb<|V6 o8 A (c5 1)<|c5 0) A3),(c5 0)⟩)<|λ_=>k9)<|PD.pb<|aV m9) (c9<|i8<|c5 0) l9)))))
   (b9 (wT (f6 (b8 0) d4)<|iZ (n:=3) rfl<|B0 (m8 5 f)<|B0 (m8 6 f)<|B0 (m8 7 f) fH)
   (c9<|i8<|c7 p7 (b8 0)<|PD.pb<|aV<|f9 (FO (c7 p7 (b8 5) A3) (c5 6)<|c5 7)<|f9 (FO (c5 5) (c7 p7 (b8 6) A3)<|c5 7)<|f9 (FO (c5 5) (c5 6)<|c7 p7 (b8 7) A3) m9))))
 match m,h with
 |[.lst Y],h=>
  simp only[dQ]at h;split at h
  .rename_i J e1;rw[n4 e1];split at h
   .rename_i hz;rw[<-h];obtain⟨ag,B,s⟩:=hz;match J,ag with
    |P::ps,_=>
    have o:=WI (P:=P) (ps:=ps);have E:=ZK (P:=P) (ps:=ps);obtain⟨J,hpts⟩:∃q,P::ps=q:=⟨_,rfl⟩;have H:T8 (.lst (J.map vd)) (.int 0)=.ok (vd P):=O7 (by rw[aL (by decide),<-hpts];rfl);rw[hpts]at o E B s⊢;have c1:u8 (λd ρ=>R.ok (aCA ρ 0<|Sl.v d)) (λx=>R.ok true) (λρ=>(((rJ 1 ρ).bind λx=>T8 x (D.int 0)).bind λd=>((T0 0 ρ).bind λd=>R.ok [d]).bind λm=>R.ok (d::m)).bind l5) [.no,.v (.lst (J.map vd))] (J.map vd)=.ok ((J.map (· -P)).map vd):=by rw[aBn];refine G4 vd _ _ λq I=>⟨[.v (vd q),Sl.v (.lst (J.map vd))],rfl,?_⟩;show((T8 (.lst (J.map vd))<|.int 0).bind _).bind _=_;rw[H];rfl
    have l:∀w∈J.map (· -P),Sz 301 w:=λw l=>by obtain⟨q,I,rfl⟩:=aAp.mp l;exact(B q I).sub (B P (by rw[<-hpts];exact .head _))
    have O:J.length<=sizeLine:=aAr s (by decide);have Q:(J.map (· -P)).length<=sizeLine:=by rw[aAf];exact O
    generalize J.map (· -P)=W at*
    have c2:∀u∈W,∀v∈W,u8 (λd ρ=>R.ok (aCA ρ 0<|Sl.v d)) (λρ=>((((T0 1 ρ).bind λd=>((T0 0 ρ).bind λd=>R.ok [d]).bind λm=>R.ok (d::m)).bind j5).bind λx=>xT x (D.int 0)).bind qZ) (T0 0) [.no,.v (vd<|G.cr u v)] (W.map vd)=.ok ((W.filter λw=>decide (G.c8 (G.cr u v) w≠0)).map vd):=λu e v t=>by refine L5 vd _ _ _ λw hW=>⟨[.v (vd w),Sl.v (vd<|G.cr u v)],rfl,?_,λ_=>rfl⟩;show((j5 [vd (G.cr u v),vd w]).bind _).bind _=_;rw[Z1 ((l u e).cr (l v t)).mono (l w hW).mono,R.aa0,OJ];show R.ok _=_;congr 1;rw[aDa];simp
    simp[j2,i9,O,c1,M3];refine UL (x:=.lst (J.map vd)) vd (ZZ W) (λρ=>∃a b c,ρ=[.v (.lst (J.map vd)),.v (.lst (W.map vd)),a,b,c,.no,.no,.no]) ⟨_,_,_,rfl⟩ ?_ ?_ ?_
    .rintro u e ρ ⟨a,b,c,rfl⟩;simp[M3];refine qA vd (aj W u) (λρ=>∃b c,ρ=[.v (.lst (J.map vd)),.v (.lst (W.map vd)),.v (vd u),b,c,.no,.no,.no]) ?_ W _ ⟨_,_,rfl⟩ ?_
     .rintro ρ ⟨b,c,rfl⟩;exact⟨_,_,_,rfl⟩
     .rintro v t ρ ⟨b,c,rfl⟩;have C:=bI (l u e).mono (l v t).mono;have T:=c2 u e v t;have c4:((W.filter λw=>decide (G.c8 (G.cr u v) w≠0)).map vd)=((W.filter λw=>decide (G.c8 (G.cr u v) w≠0)).map vd):=rfl;have U:(!(W.filter λw=>decide (G.c8 (G.cr u v) w≠0)).isEmpty)=true↔∃w∈W,G.c8 (G.cr u v) w≠0:=by rw[Bool.not_eq_true',<-Bool.not_eq_true,List.isEmpty_iff,List.filter_eq_nil_iff];simp
      have y:=TY (W.filter λw=>decide (G.c8 (G.cr u v) w≠0));unfold aj;rw[<-U];clear U c4;generalize(W.filter λw=>decide (G.c8 (G.cr u v) w≠0))=L at*
      generalize G.cr u v=X at*
      have p:=ne0 X;by_cases r:X=0
      .refine .inr ⟨λz=>z.1 r,[.v (.lst (J.map vd)),.v (.lst (W.map vd)),.v (vd u),.v (vd v),.v (vd X),.no,.no,.no],?_,_,_,rfl⟩;simp only[r,decide_true,aDf]at p;simp[-mI,C,r,p,qZ]
      .simp only[r,decide_false,Bool.not_false]at p;cases hL:L.isEmpty with
       |true=>rw[hL]at y;refine .inr ⟨λz=>by simp at z,[.v (.lst (J.map vd)),.v (.lst (W.map vd)),.v (vd u),.v (vd v),.v (vd X),.no,.no,.no],?_,_,_,rfl⟩;simp[-mI,C,p,qZ,M3,Q,T,y,seen]
       |false=>rw[hL]at y;refine .inl ⟨⟨r,rfl⟩,?_⟩;simp[-mI,C,p,qZ,M3,Q,T,y,seen]
    .intro q;rw[o q]
    .rintro q ρ ⟨a,b,c,rfl⟩;rw[E q];have al:(J.map vd).length+3<=sizeLine:=by rw[aAf];exact aAr (Nat.add_le_add_right s 3) (by decide)
     rw[aAf]at al;have s3:3<=sizeLine:=by decide
     simp[H,JM,jN,cA,qF,dF,rN,jF,s3,al]
   .exact absurd h (by simp)
  .exact absurd h (by simp)
def aK (g:cK K mg "_law_slants" Q8):u6 P w K mg base 1 "_law_slants" 1 W0:=by
 refine' l8 (k:=0) (F:=_) g pS (λY J dh p=>?b) λL d hl h=>?_
 case b=>
  refine' (b9 (j1 1 (aV<|f9 (c7 v7 (PD.pb<|c7 z7 (PD.pb<|c7 x6 (b8 0) A3) A3) A3)<|f9 (c7 v7 (PD.pb<|c7 z7 (PD.pb<|c7 x6 (b8 0) A3) A3) A3)<|f9 (c7 v7 (PD.pb<|c7 z7 (PD.pb<|c7 x6 (b8 0) A3) A3) A3) m9) p)
   (b9 (v8 (j4 (L4 J) (PD.pb<|c7 z7 (b8 0) A3) A3) (c9<|kM 1 ["number"] [] [] p rfl (C0 (sc:=c6 Q8) (N:=gF)) (o5<|c5 1) (JK λ_ _ _ _ _=>(c7 n6 (b8 0) A3))<|λ_=>k9) l9)
   (b9 (j1 2 (c7 v7 (PD.pb<|c7 z7 (PD.pb<|c7 n6 (PD.pb<|c7 x6 (b8 0) A3) A3)<|PD.pb<|c7 p7 (PD.pb<|c7 n6 A3<|PD.pb<|c7 iH A3 A3) A3)<|PD.pb<|c7 iH A3 A3) p)
   (c9<|i8<|c7 p7 (b8 1)<|PD.pb<|aV<|f9 (c5 2)<|f9 (c7 v7 A3<|PD.pb<|c7 x6 (b8 2) A3)<|f9 (c7 z7 (PD.pb<|c7 x6 (b8 0) A3) A3)<|f9 (c7 z7 (PD.pb<|c7 x6 (b8 0) A3) A3) m9))))
 match L,h with
 |[.int t],h=>
  simp only[W0]at h;split at h
  .rename_i O;rw[<-h];have e:KM (.int 10) (.int 20)=.ok (.int 100000000000000000000):=(zI ⟨by decide,by decide,by decide⟩).trans (by rfl);have f:U6 (.int 2) (.int 100000000000000000000)=.ok (.int 200000000000000000000):=(i7 (m6.of (show bits 2<=80 by decide) (show bits 100000000000000000000<=80 by decide))).trans (by rfl);have l:∀{x w:Int},0<w->V4 (.int x) (.int w)=.ok (.int (x.fmod w)):=λQ=>W8 Q;have c:∀{x w:Int},0<w->bits w<=80->N5 (.int x) (.int w)=.ok (.int (x.fdiv w)):=λw0 T=>V7 ⟨by lia,v9 T⟩;have q:N5 (.int t) (.int 3)=.ok (.int (t.fdiv 3)):=c (by decide) (by decide);have m:N5 (.int t) (.int 21)=.ok (.int (t.fdiv 21)):=c (by decide) (by decide);have a:N5 (.int t) (.int 147)=.ok (.int (t.fdiv 147)):=c (by decide) (by decide);have r:N5 (.int t) (.int 9)=.ok (.int (t.fdiv 9)):=c (by decide) (by decide);have s:N5 (.int t) (.int 1029)=.ok (.int (t.fdiv 1029)):=c (by decide) (by decide);have u:N5 (.int (AR t)) (.int 7)=.ok (.int ((AR t).fdiv 7)):=c (by decide) (by decide);have U:bits (t.fdiv 1029)<=3000000:=bits_fdiv O;have v:U6 (.int (t.fdiv 1029)) (.int 271828182845904523536)=.ok (.int (t.fdiv 1029*271828182845904523536)):=i7 (m6.of U (show bits 271828182845904523536<=80 by decide));have y:∀x:Int,V4 (.int x) (.int 7)=.ok (.int (x.fmod 7)):=λx=>l (by decide);have z:∀x:Int,V4 (.int x) (.int 3)=.ok (.int (x.fmod 3)):=λx=>l (by decide);have o:∀x:Int,V4 (.int x) (.int 50)=.ok (.int (x.fmod 50)):=λx=>l (by decide);have A:∀x:Int,V4 (.int x) (.int 2)=.ok (.int (x.fmod 2)):=λx=>l (by decide);have B:∀x:Int,V4 (.int x) (.int 200000000000000000001)=.ok (.int (x.fmod 200000000000000000001)):=λx=>l (by decide);have C:(t.fdiv 1029*271828182845904523536).fmod 200000000000000000001-100000000000000000000=AR t:=rfl;have E:∀k:Int,(t.fdiv k).fmod 7-3=s7 t k:=λk=>rfl;have H:∀k:Int,U6 (.int (s7 t k)) (.int 7654321)=.ok (.int (s7 t k*7654321)):=λk=>by exact i7 (m6.of (bits_sub (n:=80) (bits_fmod (by decide) (by decide)) (by decide)) (show bits 7654321<=80 by decide))
   by_cases I:t.fmod 3=2
   .simp[j2,e,f,q,m,a,r,s,u,v,y,z,o,A,B,C,E,H,I,YA,MU,sizeLine,rN,jF,i9]
   .simp[j2,e,f,q,m,a,r,s,u,v,y,z,o,A,B,C,E,H,I,YA,MU,sizeLine,rN,jF,i9]
  .exact absurd h (by simp)
def W9 (g:cK K mg "_law_slanted" Y4):u6 P w K mg base 1 "_law_slanted" 2 K4:=by
 refine' l8 (k:=0) (F:=_) g nQ (λhr T dh o=>?b) λU d hl h=>?_
 case b=>
  refine' (b9 (wT (c5 0)<|iZ (n:=3) rfl<|B0 (m8 2 o)<|B0 (m8 3 o)<|B0 (m8 4 o) fH)
   (b9 (j1 2 (c7 p7 (b8 2)<|PD.pb<|c7 n6 (PD.pb<|f6 (b8 1) d4)<|b8 3) o)
   (b9 (j1 3 (c7 p7 (b8 3)<|PD.pb<|c7 n6 (PD.pb<|f6 (b8 1) d4)<|b8 4) o)
   (b9 (j1 4 (c7 p7 (b8 4)<|PD.pb<|c7 n6 (PD.pb<|f6 (b8 1) d4)<|b8 2) o)
   (b9 (v8 (j4 (L4 T) (PD.pb<|f6 (b8 1) d4) A3) (c9<|OP 2 3 rfl o<|f9 (c5 3)<|f9 (c5 2) m9) l9)
   (c9<|i8<|FO (c7 p7 (b8 2)<|PD.pb<|f6 (b8 1) d4) (c7 p7 (b8 3)<|PD.pb<|f6 (b8 1) d4)<|c7 p7 (b8 4)<|PD.pb<|f6 (b8 1) d4))))))
 match U,h with
 |[p,.lst Y],h=>
  simp only[K4]at h;split at h
  .rename_i P l e1 e2;rw[lN e1,pE e2];split at h
   .rename_i r;rw[<-h];obtain⟨⟨t,q⟩,hP⟩:=r;match l,t,q with
    |[a,b,c,f,m,e,s],_,q=>
     obtain⟨x,y,z⟩:=P;obtain⟨hx,u,r⟩:=hP;have v:bits a<=100:=q a (by simp);have je:bits b<=100:=q b (by simp);have hc:bits c<=100:=q c (by simp);have A:U6 (.int a) (.int y)=.ok (.int (a*y)):=i7 (m6.of v u);have B:U6 (.int b) (.int z)=.ok (.int (b*z)):=i7 (m6.of je r);have C:U6 (.int c) (.int (x+a*y))=.ok (.int (c*(x+a*y))):=i7 (m6.of hc<|bits_add (v9 (n:=600) hx)<|bits_mul v u);have E:T8 (.lst [.int a,.int b,.int c,.int f,.int m,.int e,.int s]) (.int 0)=.ok (.int a):=O7 rfl;have H:T8 (.lst [.int a,.int b,.int c,.int f,.int m,.int e,.int s]) (.int 1)=.ok (.int b):=O7 rfl;have I:T8 (.lst [.int a,.int b,.int c,.int f,.int m,.int e,.int s]) (.int 2)=.ok (.int c):=O7 rfl;have J:T8 (.lst [.int a,.int b,.int c,.int f,.int m,.int e,.int s]) (.int 3)=.ok (.int f):=O7 rfl;have L:T8 (.lst [.int a,.int b,.int c,.int f,.int m,.int e,.int s]) (.int 4)=.ok (.int m):=O7 rfl;have N:T8 (.lst [.int a,.int b,.int c,.int f,.int m,.int e,.int s]) (.int 5)=.ok (.int e):=O7 rfl;have O:T8 (.lst [.int a,.int b,.int c,.int f,.int m,.int e,.int s]) (.int 6)=.ok (.int s):=O7 rfl;by_cases Q:s=1
     .subst Q;simp[j2,vd,MU,A,B,C,E,H,I,J,L,N,O,yL,G.Sl.put,dF,sizeLine,JM,jN,cA,qF]
     .simp[j2,vd,MU,A,B,C,E,H,I,J,L,N,O,yL,G.Sl.put,dF,sizeLine,JM,jN,cA,qF,Q]
   .exact absurd h (by simp)
  .exact absurd h (by simp)
def eS (bX:u6 P w K mg base 2 "_law_solid" 1 dQ)(aU:u6 P w K mg base 2 "_law_points" 2 fS)(C9:u6 P w K mg base 1 "_law_cell" 2 Z3)(W9:u6 P w K mg base 1 "_law_slanted" 2 K4)(aK:u6 P w K mg base 1 "_law_slants" 1 W0)(g:cK K mg "_law_land" Z7):u6 P w K mg base 3 "_law_land" 2 oH:=by
 refine' l8 (k:=2) (F:=_) g vU (λe I dh m=>?b) λf d n h=>?_
 case b=>
  refine' (b9 (j1 2 (xR bX e<|V6 aU e (c5 0)<|c5 1) m)
   (b9 (j1 3 (c7 x6 (PD.pb<|V6 C9 e (c5 0) d4) A3) m)
   (b9 (v8 (j4 (L4 I) (PD.pb<|c7 z7 (b8 3) A3) A3) (c9<|i8<|c5 2) l9)
   (c9<|i8<|B7 ["point"] ["cell"] [3] rfl (C0 (sc:=c6 Z7) (N:=mY)) (o5<|c5 2) (JK λ_ _ _ _ _=>(V6 W9 e (c5 0)<|xR aK e<|c5 1))<|λ_=>k9))))
 match f,h with
 |[.lst Y,.int a],h=>
  simp only[oH]at h;split at h
  .rename_i J;rw[<-h];obtain⟨l,n,o,r⟩:=J;obtain⟨s,L⟩:=FJ l 1 (by decide) (by decide);obtain⟨t,u,p3⟩:=RU l o r;have ne:iJ Y a≠[]:=λz=>by rw[z]at u;simp at u
   have y:=EZ l n o r;have A:=LC ne (λp O=>(t p O).mono) (by lia);have B:N5 (.int (cJ Y 1)) (.int 5)=.ok (.int ((cJ Y 1).fdiv 5)):=kQ (by decide) (by decide);have E:V4 (.int ((cJ Y 1).fdiv 5)) (.int 3)=.ok (.int (((cJ Y 1).fdiv 5).fmod 3)):=W8 (by decide);have Q:=BV (c:=(cJ Y 1).fdiv 5) (bits_fdiv<|v9 L);have T:=MZ ((cJ Y 1).fdiv 5);obtain⟨U,q2⟩:=MN t;have ql:(gD<|iJ Y a).length<=sizeLine:=aAr (show(gD<|iJ Y a).length<=40 by lia) (by decide);unfold nC;generalize(cJ Y 1).fdiv 5=C at*
   generalize gD (iJ Y a)=S at*
   by_cases H:C.fmod 3=0
   .simp-implicitDefEqProofs [j2,s,y,A,B,E,H]
   .have cm:u8 (λd ρ=>R.ok (aCA ρ 0<|Sl.v d)) (λx=>R.ok true) (λρ=>((T0 0 ρ).bind λd=>((((T0 1 ρ).bind λd=>R.ok [d]).bind W0).bind λd=>R.ok [d]).bind λf=>R.ok (d::f)).bind K4) [.no,.v (.int C)] (S.map vd)=.ok ((S.map (yL<|YA C).put).map vd):=by rw[aBn];refine G4 vd _ _ λq hq=>⟨[.v (vd q),Sl.v (.int C)],rfl,?_⟩;have:=yY (P:=q) T ((U q hq).mono);simp only[Q9,Z0,R.aa0,Q,this];rfl
    simp-implicitDefEqProofs [j2,s,y,A,B,E,H,M3,ql,i9,cm]
  .exact absurd h (by simp)
def T9 (o8:u6 P w K mg base 1 "_law_product" 2 j5)(uc:mg "abs"=none)(bo:mg "tuple"=none)(g:cK K mg "_law_plane" U4):u6 P w K mg base 2 "_law_plane" 2 jZ:=by
 refine' l8 (k:=1) (F:=_) g rZ (λhr hu dh s=>?b) λI d hl h=>?_
 case b=>
  refine' (b9 (j1 2 d4 s)
   (b9 (F6 aAO rfl (jA<|c5 0) (m8 3 s) (b9 (j1 4 (GH OH<|b8 3) s)
   (c9<|fU (XN 4) aAO (j4 rC (b8 4) A3)<|c9<|wT (zU (c5 4)<|c7 z7 (b8 2)<|b8 4)<|iZ (n:=2) rfl<|B0 (m8 2 s)<|B0 (m8 4 s) fH)))
   (b9 (j1 0 (P6 jL<|o9 (PD.pb<|B7 ["number"] ["one"] [2] rfl (C0 (sc:=c6 U4) (N:=kC)) (jA<|c5 0) (JK λ_ _ _ _ _=>(c7 x6 (b8 0)<|b8 1))<|λ_=>k9) x5) s)
   (c9<|i8<|c7 p7 (b8 0)<|PD.pb<|vY<|f9 (V6 o8 hr (c5 0)<|c5 1) m9))))
 replace h:=C3 h;obtain⟨a,b,c,I,rfl,h⟩:=h;replace h:=C3 h;obtain⟨d,e,f,I,rfl,h⟩:=h;replace h:=C4 h;obtain⟨rfl,h⟩:=h;split at h
 .rename_i hz;obtain⟨U,A,Y⟩:=hz;rw[<-h];obtain⟨C,J⟩:∃P:G.V,P=⟨a,b,c⟩:=⟨_,rfl⟩;obtain⟨B,L⟩:∃P:G.V,P=⟨d,e,f⟩:=⟨_,rfl⟩;rw[<-J]at U A;rw[<-L]at Y;have vC:(.tup [.int a,.int b,.int c]:D)=vd C:=by rw[J]
  have vP:(.tup [.int d,.int e,.int f]:D)=vd B:=by rw[L]
  rw[vC,vP,<-J,<-L];obtain⟨g0,g1,g2⟩:=G.fM U;have O:((G.q9 C:Nat):Int)≠0:=by lia
  have gb:uC ((G.q9 C:Nat):Int):=⟨O,v9 (uF A)⟩;simp only[j2,aAv,aEj,aBl,aDw];simp only[Q9,oN,R.aa0,uT,A6,aAw,aBL,aFq,aFr,aDM,aDN,aBI,aBJ];refine fD (λrest ρ=>∃(g:Nat) (n r:Sl),ρ=[.v (vd C),.v (vd B),.v (.int g),n,r]/\∃l:List Int,rest=l.map D.int/\l.foldl (λg n=>aGa g n.natAbs) g=G.q9 C) ?_ ⟨0,_,_,rfl,[C.x,C.y,C.z],rfl,by simp[G.q9]⟩ ?_
  .rintro d I ρ ⟨g,n,r,rfl,l,E,o⟩;match l,E,o with
   |x::l,E,o=>
    injection E with e3 e4;subst e3 e4;simp only[X9,aBI,aBJ,X5,cP,jC,uZ,R.aa0,NN,A6];have ea:(if x<0 then-x else x)=(x.natAbs:Int):=by split<;>lia
    rw[ea];refine qL (λm ρ=>∃(p q:Nat),ρ=[.v (vd C),.v (vd B),.v (.int p),.v (.int x),.v (.int q)]/\q<m/\aGa p q=aGa g x.natAbs) ?_ (by rintro ρ ⟨p,q,_,h,_⟩;lia) ⟨g,x.natAbs,rfl,by show x.natAbs<((x.natAbs:Int).natAbs)+2;lia,rfl⟩ ?_
    .rintro m ρ ⟨p,q,rfl,hq,Q⟩;by_cases H:(q:Int)=0
     .exact .inl (by simp[H])
     .have h1:q≠0:=by lia
      refine .inr ⟨by simp;lia,_,?_,q,p%q,rfl,?_,?_⟩
      .have em:V4 (.int (p:Int)) (.int (q:Int))=.ok (.int ((p%q:Nat):Int)):=by rw[qI H,aDE _ (by lia)];rfl
       simp[em,JM,jN,cA,qF,dF,sizeLine]
      .have:=aDO p (show 0<q by lia)
       lia
      .rw[aFM,<-Nat.gcd_rec,aFM];exact Q
    .rintro m ρ ⟨p,q,rfl,hq,Q⟩ hc;have H:q=0:=by
      by_cases z:q=0
      .exact z
      .simp at hc;lia
     subst H;refine⟨p,_,_,rfl,l,rfl,?_⟩;rw[<-o,aDt,<-Q,Nat.gcd_zero_right]
  .rintro ρ ⟨g,n,r,rfl,l,E,o⟩;have:l=[]:=by simpa using E.symm
   subst this;have o:g=G.q9 C:=o;subst o;have sn:Sz 2003 (G.dE C<|G.q9 C):=by have f1:=bits_fdiv (b:=(G.q9 C:Int)) A.1;have f2:=bits_fdiv (b:=(G.q9 C:Int)) A.2.1;have f3:=bits_fdiv (b:=(G.q9 C:Int)) A.2.2;rw[eM g0]at f1 f2 f3;exact⟨f1,f2,f3⟩
   have d1:∀t:Int,N5 (.int t) (.int (G.q9 C:Nat))=.ok (.int (t/(G.q9 C:Nat))):=λt=>by rw[V7 gb,eM g0]
   have p2:=Z1 (u:=G.dE C (G.q9 C)) (v:=B) sn.mono Y.mono;have T:j5 [.tup [.int (C.x/(G.q9 C:Nat)),.int (C.y/(G.q9 C:Nat)),.int (C.z/(G.q9 C:Nat))],vd B]=_:=p2;have s4:4<=sizeLine:=by decide
   have s3:3<=sizeLine:=by decide
   have s1:1<=sizeLine:=by decide
   simp[d1,i9,T,wI,dF,jF,s4,s3,s1,W6,SU,G.dE]
 .cases h
def aH (M2:u6 P w K mg base 1 "_law_cross" 2 w5)(D7:u6 P w K mg base 1 "_law_way" 2 l5)(o8:u6 P w K mg base 1 "_law_product" 2 j5)(T9:u6 P w K mg base 2 "_law_plane" 2 jZ)(ar:mg "sorted"=none)(ic:mg "set"=none)(eu:mg "range"=none)(br:mg "len"=none)(ud:mg "min"=none)(b_max:mg "max"=none)(bo:mg "tuple"=none)(g:cK K mg "_law_planes" J8):u6 P w K mg base 8 "_law_planes" 1 bB:=by
 refine' l8 (k:=7) (F:=_) g oM (λp hu dh t=>?b) λds d hl h=>?_
 case b=>
  have rh:=p.ad2 (by decide);refine' (b9 (j1 1 (PF.pd<|N4 (b8 0) rfl rh) t)
   (b9 (AY 2 t)
   (b9 (F6 aAO rfl (V9<|o9 (PD.pb<|GH aD<|b8 1) x5) (m8 3 t) (c9 (F6 aAO rfl (V9<|o9 (PD.pb<|c7 p7 (b8 3) A3)<|o9 (PD.pb<|GH aD<|b8 1) x5) (m8 4 t) (c9 (F6 aAO rfl (V9<|o9 (PD.pb<|c7 p7 (b8 4) A3)<|o9 (PD.pb<|GH aD<|b8 1) x5) (m8 5 t) (b9 (j1 6 (V6 M2 p (V6 D7 p (f6 (b8 1)<|c5 3)<|f6 (b8 1)<|c5 4)<|V6 D7 p (f6 (b8 1)<|c5 3)<|f6 (b8 1)<|c5 5) t)
   (b9 (kM 7 ["one"] ["crossed", "some", "i"] [6,1,3] t rfl (C0 (sc:=c6 J8) (N:=aF)) (o5<|c5 1) (JK λ_ _ _ _ _=>(V6 o8 p (c5 1)<|V6 D7 p (f6 (b8 2)<|c5 3)<|c5 0))<|λ_=>k9)
   (b9 (v8 (uA.pt<|jQ (j4 (L4 hu) (PD.pb<|bC (HG rfl)<|o9 (b8 7) x5) A3)<|eU<|j4 yV (PD.pb<|bC (FX rfl)<|o9 (b8 7) x5) A3) (c9<|iS 2 gG (V6 T9 p (c5 6)<|f6 (b8 1)<|c5 3) dh) l9)
   (c9<|v8 (uA.pt<|jQ (j4 (L4 hu) (PD.pb<|bC (FX rfl)<|o9 (b8 7) x5) A3)<|eU<|j4 rC (PD.pb<|bC (HG rfl)<|o9 (b8 7) x5) A3) (c9<|iS 2 gG (V6 T9 p (P6 jL<|o9 (PD.pb<|B7 ["number"] [] [] rfl (C0 (sc:=c6 J8) (N:=aF)) (jA<|c5 6) (JK λ_ _ _ _ _=>(c7 v7 A3<|b8 0))<|λ_=>k9) x5)<|f6 (b8 1)<|c5 3) dh) l9)))))))))
   (c9<|i8<|PF.pd<|BN 2 rfl rh))))
 match ds,h with
 |[.lst Y],h=>
  simp only[bB]at h;split at h
  .rename_i J e1;rw[n4 e1];split at h
   .rename_i hz;rw[<-h];obtain⟨h1,h2,h3⟩:=hz;have SS:=zR (J:=J) (by lia);obtain⟨m,r,e,L⟩:=U8 h1 h2 (by lia);rw[<-e]at L;have E:=L.good.solid;have H:=L.good.ord;have sz:∀X∈d7 J,Sz 900 X:=λX hX=>h1.1 X (t5.mp hX);have PS:=λU=>sD (U:=U) h1 h2 h3;clear L e;generalize d7 J=S at*
    have hS1:S.length<=sizeLine:=aAr h3 (by decide);have r1:=sj (n:=S.length) (by lia);have r2:∀i:Nat,i<S.length->dW [.int ((i:Int)+1),.int (S.length:Int)]=.ok (jO (i+1)<|S.length-(i+1)):=λi hi=>a1j (a:=i+1) (b:=S.length) (by lia) (by lia);simp-implicitDefEqProofs [j2,SS,r1];refine TV (pv1 (.lst (J.map vd)) S) ?_ ⟨[],_,_,_,_,_,rfl,⟨.nil,λx hx=>by cases hx⟩,λi' j' k' _ _ l=>by lia⟩ ?_
    .rintro i _ hi ρ ⟨U,a3,a4,Q,T,I,rfl,K,Dn⟩;have hi:i<S.length:=by lia
     obtain⟨A,eA⟩:∃A,S[i]?=some A:=⟨S[i],aAh hi⟩;have o:=aAn eA;simp-implicitDefEqProofs [r2 i hi];refine LW (pv2 (.lst (J.map vd)) S i) ?_ ⟨U,_,_,_,_,rfl,K,Dn.j0⟩ ?_
     .rintro j _ hj ρ ⟨U,a4,Q,T,I,rfl,K,Dn⟩;have hj:j<S.length:=by lia
      obtain⟨B,eB⟩:∃A,S[j]?=some A:=⟨S[j],aAh hj⟩;have hB:=aAn eB;simp-implicitDefEqProofs [r2 j hj];refine LW (pv3 (.lst (J.map vd)) S i j) ?_ ⟨U,_,_,_,rfl,K,Dn.k0⟩ ?_
      .rintro k _ hk ρ ⟨U,Q,T,I,rfl,K,Dn⟩;have hk:k<S.length:=by lia
       obtain⟨C,eC⟩:∃A,S[k]?=some A:=⟨S[k],aAh hk⟩;have hC:=aAn eC;obtain⟨K2,sub,cu,cd⟩:=gz o hB hC K;refine⟨[.v (.lst (J.map vd)),.v (.lst (S.map vd)),.d (SX S U A B C),.v (.int (i:Int)),.v (.int (j:Int)),.v (.int (k:Int)),.v (vd<|G.cr (B-A)<|C-A),.v (.lst ((bK S (G.cr (B-A)<|C-A) A).map D.int))],?_,_,_,_,_,rfl,K2,Dn.step sub λA' B' C' x1 x2 x3=>by rw[eA]at x1;rw[eB]at x2;rw[eC]at x3;cases x1;cases x2;cases x3;exact⟨cu,cd⟩⟩
       have few:=K.few E H h3;have s:=(OL o hB hC K).1.few E H h3;have iA:=EN eA;have iB:=EN eB;have iC:=EN eC;have zB:=(sz B hB).sub (sz A o);have zC:=(sz C hC).sub (sz A o);have cc:=bI zB.mono zC.mono;have sc:Sz 2003 (G.cr (B-A)<|C-A):=(zB.cr zC).mono;have up:G.Up S A B C↔_:=(HL o).1;have dn:G.Dn S A B C↔_:=(HL o).2;have nt:=RM A B C;have pu:=λz=>uJ (c:=G.cr (B-A) (C-A)) z sc (sz A o).mono;rw[jS]at pu;have pd:=λz=>uJ (c:=G.cr (C-A) (B-A)) z ((zC.cr zB).mono) (sz A o).mono;rw[jS,<-nt]at pd;obtain⟨mx,mn⟩:=VI (S:=S) (c:=G.cr (B-A) (C-A)) (A:=A) (λz=>by rw[z]at o;cases o);have cne:∀{c X:G.V},G.c8 c X≠0->c≠0:=λ{c X} q z=>q (by rw[z];simp[G.c8]);have dd:=λ(f:G.V×Int) (r:Ev)=>FK (f:=f) (v:=.bl true) (a:=Sl.v (.lst (J.map vd))) (b:=Sl.v (.lst (S.map vd))) (r:=r) few;have dd1:=λ(f:G.V×Int) (r:Ev)=>FK (f:=f) (v:=.bl true) (a:=Sl.v (.lst (J.map vd))) (b:=Sl.v (.lst (S.map vd))) (r:=r) s;have xb:G.Up S A B C->G.cr (B-A) (C-A)≠0:=λ⟨_,X,_,l⟩=>cne (X:=X-A) (by lia);have hd0:G.Dn S A B C->(⟨0-(G.cr (B-A)<|C-A).x,0-(G.cr (B-A)<|C-A).y,0-(G.cr (B-A)<|C-A).z⟩:G.V)≠0:=λv=>by rw[nt];obtain⟨_,X,_,l⟩:=G.GV.mp v;exact cne (X:=X-A) (by lia)
       have e1:G.Up S A B C->OG S U A B C=Y8 U (W6<|G.d5 A B C) (.bl true):=λu=>jk u;have e2:¬G.Up S A B C->OG S U A B C=U:=λu=>ka u;have f1:G.Dn S A B C->SX S U A B C=Y8 (OG S U A B C) (W6<|G.d5 A C B) (.bl true):=λu=>jk u;have f2:¬G.Dn S A B C->SX S U A B C=OG S U A B C:=λu=>ka u;have pq:=λq hq=>Z1 sc.mono ((sz q hq).sub (sz A o)).mono;clear cu cd sub Dn K2 nt few s cne K zB zC sc sz;generalize rL (bK S (G.cr (B-A)<|C-A) A)=M at*
       generalize rS (bK S (G.cr (B-A)<|C-A) A)=mm at*
       obtain⟨W,eW⟩:∃W,(bK S (G.cr (B-A)<|C-A) A).map D.int=W:=⟨_,rfl⟩;rw[eW]at mx mn⊢;unfold bK at eW;generalize G.cr (B-A) (C-A)=c at*
       generalize SX S U A B C=k2 at*
       generalize OG S U A B C=k1 at*
       simp only[X9,aBI,aBJ];refine MD (ρ:=[.v (.lst (J.map vd)),.v (.lst (S.map vd)),.d U,.v (.int (i:Int)),.v (.int (j:Int)),.v (.int (k:Int)),.v (vd c),I]) (by simp[iA,iB,iC,cc]) ?_;refine MD (ρ:=[.v (.lst (J.map vd)),.v (.lst (S.map vd)),.d U,.v (.int (i:Int)),.v (.int (j:Int)),.v (.int (k:Int)),.v (vd c),.v (.lst W)]) ?_ ?_
       .simp-implicitDefEqProofs [i9,hS1];rw[jD vd D.int (λX=>G.c8 c (X-A)) S ?h,eW]
        case h=>intro q hq;refine⟨[.v (vd q),.v (vd c),.v (.lst (S.map vd)),.v (.int (i:Int))],rfl,?_⟩;simp only[Z0,Q9,jC,uZ,R.aa0,iA,BM];exact pq q hq
        rfl
       clear iB iC cc pq eW;refine MD (ρ:=[.v (.lst (J.map vd)),.v (.lst (S.map vd)),.d k1,.v (.int (i:Int)),.v (.int (j:Int)),.v (.int (k:Int)),.v (vd c),.v (.lst W)]) ?_ ?_
       .by_cases u:G.Up S A B C
        .rw[e1 u];simp[mx,mn,up.mp u,iA,pu (xb u),dd]
        .rw[e2 u];by_cases O:M=0
         .have q2:¬mm<0:=λz=>u (up.mpr ⟨O,z⟩);simp[mx,mn,O,q2]
         .simp[mx,O]
       .clear e1 e2 pu xb up dd;by_cases v:G.Dn S A B C
        .rw[f1 v];have pd:=pd (hd0 v);simp only[Int.zero_sub]at pd;have pd:jZ [D.tup [D.int (-c.x),D.int (-c.y),D.int (-c.z)],vd A]=_:=pd;have s3:3<=sizeLine:=by decide
         have t3:∀a b c:D,wI [.lst [a,b,c]]=.ok (.tup [a,b,c]):=λ_ _ _=>rfl;simp[mx,mn,dn.mp v,iA,i9,s3,t3,pd,dd1]
        .rw[f2 v];by_cases O:mm=0
         .have q2:¬0<M:=λz=>v (dn.mpr ⟨O,z⟩);simp[mx,mn,O,q2]
         .simp[mn,O]
      .rintro ρ ⟨U,Q,T,I,rfl,K,Dn⟩;rw[show j+1+(S.length-(j+1))=S.length by lia]at Dn;exact⟨U,_,_,_,_,rfl,K,Dn.j⟩
     .rintro ρ ⟨U,a4,Q,T,I,rfl,K,Dn⟩;rw[show i+1+(S.length-(i+1))=S.length by lia]at Dn;exact⟨U,_,_,_,_,_,rfl,K,Dn.i⟩
    .rintro ρ ⟨U,a3,a4,Q,T,I,rfl,K,Dn⟩;rw[aEf]at Dn;have few:=K.few E H h3;have ps:=PS U K Dn;have pt:(U.map (·.1)).all U1=true:=aBt.mpr λd hd=>by obtain⟨f,rfl,_⟩:=K.2 d hd;rfl
     have sd:sdR 2 [.v (.lst (J.map vd)),.v (.lst (S.map vd)),.d U,a3,a4,Q,T,I]=.ok (T5<|O6 U):=jk ⟨pt,few⟩;rw[sd,ps];rfl
   .exact absurd h (by simp)
  .exact absurd h (by simp)
def bH (o8:u6 P w K mg base 1 "_law_product" 2 j5)(g:cK K mg "_law_on" lG):u6 P w K mg base 2 "_law_on" 2 oR:=by
 refine' l8 (k:=1) (F:=_) g DE (λn o s t=>?b) λl d u h=>?_
 case b=>refine' (c9<|i8<|eN (L4 o) (PD.pb<|V6 o8 n (c5 0)<|c5 1)<|PD.pb<|f6 (b8 0) d4)
 replace h:=MO h;obtain⟨a,b,c,e,l,rfl,h⟩:=h;replace h:=C3 h;obtain⟨x,y,z,l,rfl,h⟩:=h;replace h:=C4 h;obtain⟨rfl,h⟩:=h;split at h
 .rename_i m;rw[<-h];have p:j5 [.tup [.int a,.int b,.int c,.int e],.tup [.int x,.int y,.int z]]=_:=QO (f:=(⟨a,b,c⟩,e)) m.1 m.2;generalize G.c8 _ _=q at*
  have r:T8 (.tup [.int a,.int b,.int c,.int e]) (.int 3)=.ok (.int e):=rfl;simp-implicitDefEqProofs [j2,p,r];rfl
 .cases h
def Y5 (bH:u6 P w K mg base 2 "_law_on" 2 oR)(H:mg "len"=none)(I:mg "sorted"=none)(L:mg "set"=none)(g:cK K mg "_law_corners" M5):u6 P w K mg base 8 "_law_corners" 2 Y6:=by
 refine' l8 (k:=7) (F:=_) g nV (λp O Q T=>?b) λa d U h=>?_
 case b=>have t:=p.ad2 (by decide);refine' (c9<|i8<|B7 ["one"] ["planes"] [1] rfl (C0 (sc:=c6 M5) (N:=eT)) (o5<|PF.pd<|N4 (b8 0) rfl t) (TR λ_ _ _ _ _=>⟨(j4 rC (PD.pb<|GH aD<|PD.pb<|B7 ["plane"] ["one"] [0] rfl HS (o5<|c5 1) (TR λ_ _ _ _ _=>⟨(Q6<|V6 bH p (c5 0)<|c5 1),(c5 0)⟩)<|λ_=>k9) A3),(c5 0)⟩)<|λ_=>k9)
 match a,h with
 |[.lst Y,.lst ys],h=>
  simp only[Y6]at h;split at h
  .rename_i J u;rw[n4 u];split at h
   .rename_i y;rw[<-h];obtain⟨rfl,e,q,l⟩:=y;have z:=zR (J:=J) (by lia);have r:=xK e q l;obtain⟨s,ag,m⟩:=lQ e q l;have sz:∀X∈d7 J,Sz 900 X:=λX c=>e.1 X (t5.mp c);have n:∀f∈j9 (d7 J),Sz 2003 f.1:=λf o=>HK e ((s f).mp o);have A:(d7 J).length<=sizeLine:=aAr l (by decide);have B:(j9<|d7 J).length<=sizeLine:=aAr m (by decide);rw[<-r];clear r s;generalize j9 (d7 J)=fs at*
    generalize d7 J=S at*
    have C:∀X∈S,u8 (λd ρ=>R.ok (aCA ρ 0<|Sl.v d)) (λρ=>(((T0 0 ρ).bind λd=>((T0 1 ρ).bind λd=>R.ok [d]).bind λa=>R.ok (d::a)).bind oR).bind qZ) (T0 0) [.no,.v (vd X)] (fs.map W6)=.ok ((BG fs X).map W6):=λX c=>L5 W6 (λf=>decide (G.c8 f.1 X=f.2)) W6 fs λf o=>⟨[.v (W6 f),.v (vd X)],rfl,by have:=RD (n f o) (sz X c).mono;show(oR [W6 f,vd X]).bind qZ=_;rw[this];rfl,λ_=>rfl⟩
    have E:u8 (λd ρ=>R.ok (aCA ρ 0<|Sl.v d)) (λρ=>((((((T0 1 ρ).bind M3).bind λa=>if a.length<=sizeLine then(u8 (λd ρ=>R.ok (aCA ρ 0<|Sl.v d)) (λρ=>(((T0 0 ρ).bind λd=>((T0 1 ρ).bind λd=>R.ok [d]).bind λa=>R.ok (d::a)).bind oR).bind qZ) (T0 0) (i9 [aCD "plane"] [0] ρ) a).bind λa=>R.ok (D.lst a)else R.bad).bind λd=>R.ok [d]).bind IM).bind λx=>ZO x (D.int 2)).bind qZ) (T0 0) [.no,.v (.lst (aCz W6 fs))] (S.map vd)=.ok ((S.filter λX=>decide (2<(BG fs X).length)).map vd):=L5 vd (λX=>decide (2<(BG fs X).length)) vd S λX c=>⟨[.v (vd X),Sl.v (D.lst<|aCz W6 fs)],rfl,by
     have:=C X c;have gt:(decide ((2:Int)<((BG fs X).length:Int)))=decide (2<(BG fs X).length):=by rw[aDa];simp;lia
     simp-implicitDefEqProofs [i9,B,this];try lia,λ_=>rfl⟩
    simp-implicitDefEqProofs [j2,z,A];rw[show i9 [aCD "one"] [1] [.v (.lst (aCz vd J)),.v (.lst (aCz W6 fs))]=[.no,.v (.lst (aCz W6 fs))]from rfl,E];rfl
   .exact absurd h (by simp)
  .exact absurd h (by simp)
def aE (o:mg "len"=none)(p:mg "isinstance"=none)(q:mg "tuple"=none)(r:mg "bool"=none)(e:mg "int"=none)(g:cK K mg "_law_triple" Q3):u6 P w K mg base 1 "_law_triple" 1 fN:=by
 refine' l8 (k:=0) (F:=_) g qU (λs f t u=>?b) λl d v h=>?_
 case b=>
  refine' (b9 (v8 (uA.pt<|aI (fQ<|Q6<|mN KD<|b8 0)<|cS<|j4 (T6 f) (PD.pb<|GH aD<|b8 0) A3) (c9<|i8 gG) l9)
   (c9<|i8<|eN (L4 f) (PD.pb<|B7 ["number"] [] [] rfl (C0 (sc:=c6 Q3) (N:=gE)) (jA<|c5 0) (TR λ_ _ _ _ _=>⟨(uA.pt<|aI (fQ<|Q6<|mN SW<|b8 0)<|cS<|Q6<|mN qV<|b8 0),(c5 0)⟩)<|λ_=>k9)<|PD.pb<|aV m9))
 replace h:=C3 h;obtain⟨a,b,c,l,rfl,h⟩:=h;replace h:=C4 h;obtain⟨rfl,h⟩:=h;rw[<-h];have m:3<=sizeLine:=by decide
 have n:DI (.lst []) (.lst [])=.ok (.bl true):=rfl;simp-implicitDefEqProofs [j2,m,i9,n]
def X0 (bH:u6 P w K mg base 2 "_law_on" 2 oR)(o8:u6 P w K mg base 1 "_law_product" 2 j5)(D7:u6 P w K mg base 1 "_law_way" 2 l5)(bo:mg "tuple"=none)(eu:mg "range"=none)(H:mg "sum"=none)(g:cK K mg "_law_highest" C8):u6 P w K mg base 3 "_law_highest" 3 Y2:=by
 refine' l8 (k:=2) (F:=_) g nT (λI hu dh nd=>?b) λds d hl h=>?_
 case b=>
  refine' (b9 (j1 3 (B7 ["plane"] ["one"] [2] rfl (C0 (sc:=c6 C8) (N:=M1)) (o5<|c5 0) (TR λ_ _ _ _ _=>⟨(Q6<|V6 bH I (c5 0)<|c5 1),(mT (b8 0) W3<|J4 d4)⟩)<|λ_=>k9) nd)
   (b9 (j1 4 (P6 jL<|o9 (PD.pb<|B7 ["k"] ["ways"] [3] rfl (C0 (sc:=c6 C8) (N:=M1)) (V9<|o9 A3 x5) (JK λ_ _ _ _ _=>(GH (iy rfl)<|PD.pb<|B7 ["way"] ["k"] [0] rfl HS (o5<|c5 1) (JK λ_ _ _ _ _=>(f6 (b8 0)<|c5 1))<|λ_=>k9))<|λ_=>k9) x5) nd)
   (c9<|i8<|eN (L4 hu) (PD.pb<|B7 ["other"] ["one", "whole"] [2,4] rfl (C0 (sc:=c6 C8) (N:=M1)) (o5<|c5 1) (TR λ_ _ _ _ _=>⟨(uA.pt<|jQ (j4 (T6 hu) (b8 0)<|b8 1)<|eU<|j4 yj (PD.pb<|V6 o8 I (c5 2)<|V6 D7 I (c5 1)<|c5 0) A3),(c5 0)⟩)<|λ_=>k9)<|PD.pb<|aV m9)))
 match ds,h with
 |[.lst es,.lst Y,p],h=>
  simp only[Y2]at h;split at h
  .rename_i J e e1 e2;rw[n4 e1,lN e2];split at h
   .rename_i hz;rw[<-h];obtain⟨rfl,o,C,E,L⟩:=hz;have O:=λX m ne=>VW (X:=X) o C E L m ne;have zP:Sz 900 e:=o.1 e (pC o C E L);obtain⟨hf,ag,r⟩:=lQ o C E;have s:∀f∈j9 (d7 J),Sz 2003 f.1:=λf u=>HK o ((hf f).mp u);unfold ZU at O;clear hf ag L C E;generalize j9 (d7 J)=fs at*
    have km:fs.length<=sizeLine:=aAr r (by decide);have A:(BG fs e).length<=2744:=aAr (aFK ..) r;have Q:(BG fs e).length<=sizeLine:=aAr A (by decide);obtain⟨c,B⟩:∃c,(BG fs e).map (·.1)=c:=⟨_,rfl⟩;rw[B]at O;have zs:Sz 5000 (cO c):=by
     have:=VZ (n:=2003) (l:=c) λv hv=>by rw[<-B]at hv;obtain⟨f,u,rfl⟩:=aAp.mp hv;exact s f (aBX.mp u).1
     have nl:c.length<=2744:=by rw[<-B,aAf];exact A
     exact⟨j7 this.1 (by lia),j7 this.2.1 (by lia),j7 this.2.2 (by lia)⟩
    have nl:c.length<=sizeLine:=by rw[<-B,aAf];exact Q
    simp only[j2,aAv,aEj,aBl,aDw,aAw,aBL,aFq,aFr,aDM,aDN];refine A5 (ρ:=[.v (.lst (fs.map W6)),.v (.lst (J.map vd)),.v (vd e),.v (.lst (c.map vd)),.no]) ?_ ?_
    .simp-implicitDefEqProofs only[Z0,Q9,R.aa0,lZ,aAf,jk km];rw[L5 W6 (λf=>decide (G.c8 f.1 e=f.2)) (λf=>vd f.1) fs ?h]
     case h=>intro f u;have l1:=RD (s f u) zP.mono;refine⟨[.v (W6 f),.v (vd e)],rfl,?_,λ_=>rfl⟩;simp-implicitDefEqProofs only[X5,cP,Z0,Q9,R.aa0,l1,qZ]
     rw[<-B,aBn];rfl
    refine A5 (ρ:=[.v (.lst (fs.map W6)),.v (.lst (J.map vd)),.v (vd e),.v (.lst (c.map vd)),.v (vd<|cO c)]) ?_ ?_
    .have T:∀l:List Int,VO [.lst (l.map D.int)]=.ok (.int l.sum):=λl=>by simp only[VO,kG]
     have r3:dW [.int 3]=.ok ([((0:Int),(c.map G.V.x).sum),(1,(c.map G.V.y).sum),(2,(c.map G.V.z).sum)].map λp:Int×Int=>D.int p.1):=rfl;simp-implicitDefEqProofs only[X5,cP,oN,R.aa0,r3];rw[jk (show([((0:Int),(c.map G.V.x).sum),(1,(c.map G.V.y).sum),(2,(c.map G.V.z).sum)].map λp:Int×Int=>D.int p.1).length<=sizeLine from(by decide:3<=sizeLine)),G4 (λp:Int×Int=>D.int p.1) (λp=>D.int p.2) _ ?ha]
     case ha=>
      intro a ha;simp only[aAd,aAD,or_false]at ha;rcases ha with rfl|rfl|rfl
      all_goals refine⟨[.v (.int _),.v (.lst (c.map vd))],rfl,?_⟩;simp-implicitDefEqProofs only[Z0,Q9,R.aa0,lZ,aAf,jk nl]
      .rw[jD vd D.int G.V.x c λq _=>⟨[.v (vd q),.v (.int 0)],rfl,rfl⟩];exact T _
      .rw[jD vd D.int G.V.y c λq _=>⟨[.v (vd q),.v (.int 1)],rfl,rfl⟩];exact T _
      .rw[jD vd D.int G.V.z c λq _=>⟨[.v (vd q),.v (.int 2)],rfl,rfl⟩];exact T _
     rfl
    have pr:=λX m=>Z1 zs.mono ((o.1 X m).sub zP).mono;have U:∀X,X≠e->xT (vd X) (vd e)=.ok (.bl true):=λX m=>by
     unfold xT;rw[jk ⟨by simp[B5,z6],by simp[B5,z6]⟩];cases z:u7 (vd X) (vd e)with
     |true=>exact absurd (wD<|gB (D6 rfl) (D6 rfl) z) m
     |false=>rfl
    have nes:xT (vd e) (vd e)=.ok (.bl false):=bT (by simp[B5,z6]);have pl:J.length<=sizeLine:=small o.2;have e0:DI (.lst []) (.lst [])=.ok (.bl true):=rfl;simp-implicitDefEqProofs only[Z0,Q9,R.aa0,lZ,aAf,jk pl];rw[lU vd J ?h]
    case h=>
     intro X m;refine⟨[.v (vd X),.v (vd e),.v (vd<|cO c)],rfl,?_⟩;by_cases q:X=e
     .subst q;simp-implicitDefEqProofs only[OY,jC,uZ,R.aa0,nes,qZ,aAt,if_false]
     .have t:=O X m q;have g:geR (.int (G.c8 (cO c)<|X-e)) (.int 0)=.ok (.bl false):=by show R.ok (D.bl<|decide (G.c8 (cO c) (X-e)>=0))=_;rw[decide_eq_false (by lia)]
      simp-implicitDefEqProofs only[OY,X5,cP,jC,uZ,Z0,Q9,oN,R.aa0,U X q,qZ,if_true,BM,pr X m,g]
    rfl
   .exact absurd h (by simp)
  .exact absurd h (by simp)
section
seal PySem.eval
def o_law {f:bb}{fd:ek}(eS:u6 P w K mg base 3 "_law_land" 2 oH)(aH:u6 P w K mg base 8 "_law_planes" 1 bB)(aE:u6 P w K mg base 1 "_law_triple" 1 fN)(X0:u6 P w K mg base 3 "_law_highest" 3 Y2)(Y5:u6 P w K mg base 8 "_law_corners" 2 Y6)(fK:u6 P w K mg base 11 "is_body" 1 O9)(jg:u6 P w K mg base 10 "body_of" 1 L6)(C9:u6 P w K mg base 1 "_law_cell" 2 Z3)(iE:sN P w K mg base 10 "body_of" 1 L6)(jf:mg "list"=none)(bu:mg "isinstance"=none)(ar:mg "sorted"=none)(ic:mg "set"=none)(oa:mg "bool"=none)(F0:Fun K "law" "law" fI f fd):FnOk P w K mg base tV 12 f fd ["script"] (lq K 1 jB):=by
 refine' fnD (k:=11) (F:=_) F0 PX (λT A U s H E e=>?b) λds d hl h=>?_
 case b=>
  have g:=e.units;have dh:=e.ae2;have rh:=e.ad2 (by decide);have m:=PX.nd;refine' (b9 (j1 1 (V6 eS e (c5 0) d4) m)
   (b9 (j1 2 (xR aH e<|c5 1) m)
   (b9 (j1 3 (P6 vL<|o9 (b8 1) x5) m)
   (b9 (fJ 4 (QD iE (e.mono (by decide)) (f9 (c5 3) m9)<|w8 R6) m)
   (b9 (v8 (HZ 4<|uA.pt<|aI (fQ<|Q6<|mN OU<|b8 4)<|aI (j4 (T6 g) (PD.pb<|B7 ["one"] [] [] rfl (C0 (sc:=c6 fI) (N:=MX)) (o5<|c5 4) (TR λ_ _ _ _ _=>⟨(fQ<|Q6<|xR aE e<|c5 0),(c5 0)⟩)<|λ_=>k9)<|PD.pb<|aV m9)<|cS<|j4 (T6 g) (b8 3)<|b8 1) (c9<|i8 gG) l9)
   (b9 (v8 (HZ 4<|uA.pt<|aI (j4 (T6 g) (b8 4)<|PD.pb<|PF.pd<|N4 (b8 4) rfl rh)<|cS<|j4 (T6 g) (PD.pb<|B7 ["one"] ["points"] [1] rfl (C0 (sc:=c6 fI) (N:=MX)) (o5<|c5 4) (TR λ_ _ _ _ _=>⟨(j4 (NC g) (b8 0)<|b8 1),(c5 0)⟩)<|λ_=>k9)<|PD.pb<|aV m9) (c9<|i8 gG) l9)
   (b9 (MF 4 5 aAO rfl m (fQ<|Q6<|pc3 X0 e (c5 2) (c5 1)<|c5 5) gG)
   (b9 (v8 (j4 (T6 g) (b8 4)<|PD.pb<|V6 Y5 e (c5 1)<|c5 2) (c9<|i8 gG) l9)
   (b9 (j1 6 (P6 vL<|o9 (b8 4) x5) m)
   (b9 (W4 4<|FO d4 d4 d4)
   (b9 (j1 7 (xR fK e<|c5 3) m)
   (b9 (v8 (uA.pt<|aI (j4 (T6 g) (PD.pb<|xR jg e<|c5 3)<|b8 6)<|aI (fQ<|Q6<|mN qV<|b8 7)<|aI (j4 (T6 g) (b8 7)<|PD.pb<|eN (L4 g) (b8 1)<|b8 6)<|cS<|j4 (T6 g) (b8 3)<|b8 1) (c9<|i8 gG) l9)
   (b9 (j1 8 (f6 (PD.pb<|aV<|f9 (c7 p7 (b8 6)<|PD.pb<|mT (b8 6) (J4<|iM d4) W3)<|f9 (gw (b8 6)<|J4<|iM d4)<|f9 (PF.pd<|ED (b8 1) rfl rh)<|f9 (c5 6) m9)<|c7 z7 (PD.pb<|c7 x6 (PD.pb<|V6 C9 e (c5 0) d4) A3) A3) m)
   (b9 (j1 7 (xR fK e<|P6 vL<|o9 (b8 8) x5) m)
   (c9<|i8<|YO (mN qV<|b8 7)<|jz<|eN (L4 g) (b8 7)<|PD.pb<|eN (L4 g) (b8 8)<|b8 6)))))))))))))))
 match ds,h with
 |[.lst Y],h=>
  simp only[jB]at h;split at h
  .rename_i hc;rw[<-h];obtain⟨hl,hi⟩:=hc;have LL:=NB hi hl (most:=8) (by decide) (by decide);obtain⟨n,a2,a3⟩:=WB hi (most:=8) (by decide) (by decide);obtain⟨c0,bc0⟩:=FJ hi 0 (by decide) (by decide);generalize nC Y 8=J at*
   generalize cJ Y 0=c at*
   have t:R1 900 J:=⟨λp hp=>(a2 p hp).mono,by lia⟩;have u:(d7 J).length<=14:=aAr (EQ _) (by lia);have PL:=ET t n u;have CO:=zJ t n u;have BO:=HU t n u;have LH:=λX y=>AS (P:=X) t n u y;obtain⟨b1,b2,O,b4,b5,b6⟩:=IJ t n u;have SS:=zR (J:=p6 J) (by rw[O];lia);have sub:∀X∈p6 J,X∈J:=λX y=>pC t n u y;obtain⟨W,sw,wm,wl⟩:=CN (J:=J) (by lia);have IP:=vT (W:=J) (B:=J) (λv=>Iff.rfl) (by lia) t n u;have IW:=vT wm wl t n u;have I:=λV hm hv=>vT (W:=V) (B:=p6 J) hm hv b2 b1 (by rw[O];exact b4);rw[b5]at I;rw[O]at SS;have cne:p6 J≠[]:=λz=>by obtain⟨A,hA,_⟩:=b1;rw[z]at hA;cases hA
   have dP:B5 (.lst (J.map vd))<=40:=by have:=jW J;rw[B5];lia
   have dC:B5 (.lst ((p6 J).map vd))<=40:=by have:=jW (p6 J);rw[B5];lia
   have cl:(p6 J).length<=sizeLine:=aAr b4 (by decide);clear t u n a2 b1 b2 O b5 b6;generalize p6 J=C at*
   generalize j9 (d7 J)=fs at*
   have LA:=TJ cne;obtain⟨Q,e0⟩:∃V,C++C.drop (C.length-1)=V:=⟨_,rfl⟩;have A0:jF (.lst (C.map vd)) (.lst ((C.drop<|C.length-1).map vd))=.ok (.lst (Q.map vd)):=by rw[<-e0,aCd];exact jk (by rw[aAf,aAf,aCt];exact aAr (show _<=28 by lia) (by decide))
   have R0:oz (.lst (C.map vd))=.ok (.lst (C.reverse.map vd)):=by rw[aEr];rfl
   have I0:=I Q (λv=>by rw[<-e0,aAN];exact⟨λz=>z.elim id aCU,.inl⟩) (by rw[<-e0,aAE,aCt];lia);have I1:=I C.reverse (λv=>aCf) (by rw[aBS];lia);have I3:=I C (λv=>Iff.rfl) (by lia);obtain⟨V,iV,bV⟩:∃V:List G.V,T8 (.lst [.lst (Q.map vd),.lst (C.reverse.map vd),.lst (W.map vd),.lst (C.map vd)]) (.int ((c.fdiv 5).fmod 4))=.ok (.lst (V.map vd))/\O9 [.lst (V.map vd)]=.ok (.bl (decide (C=V))):=by
    have r:=iT (a:=c.fdiv 5) (b:=4) (by decide);rcases(show(c.fdiv 5).fmod 4=0\/(c.fdiv 5).fmod 4=1\/(c.fdiv 5).fmod 4=2\/(c.fdiv 5).fmod 4=3 by lia)with q|q|q|q<;>rw[q]
    .exact⟨Q,rfl,I0⟩
    .exact⟨C.reverse,rfl,I1⟩
    .exact⟨W,rfl,IW⟩
    .exact⟨C,rfl,I3⟩
   clear I0 I1 I3 IW I wm wl;obtain⟨L1,eL1⟩:∃L,(C.drop<|C.length-1).map vd=L:=⟨_,rfl⟩;obtain⟨L2,eL2⟩:∃L,C.reverse.map vd=L:=⟨_,rfl⟩;rw[eL1]at LA A0;rw[eL2]at R0 iV;have eP:=BU J C;have eV:=BU V C;rw[show decide (J=C)=decide (C=J)from decide_eq_decide.mpr eq_comm]at eP;rw[show decide (V=C)=decide (C=V)from decide_eq_decide.mpr eq_comm]at eV;generalize decide (C=J)=B1 at*
   generalize decide (C=V)=B2 at*
   have n0:xT (.lst []) (.lst [])=.ok (.bl false):=rfl;have nB:∀b,xT (.bl b) (.bl b)=.ok (.bl false):=λb=>bT (by simp[B5]);have qB:∀b,DI (.bl b) (.bl b)=.ok (.bl true):=λb=>by unfold DI;rw[jk ⟨by simp[B5],by simp[B5]⟩,M7]
   have ib:∀b,rP "bool" (.bl b)=true:=λ_=>rfl;have il:∀l:List D,rP "list" (.lst l)=true:=λ_=>rfl;simp only[j2,aAv,aEj,aBl,aDw,aAw,aBL,aFq,aFr,aDM,aDN];refine A5 (by simp-implicitDefEqProofs [LL];rfl) ?_;refine A5 (by simp-implicitDefEqProofs [PL];rfl) ?_;refine A5 (by simp-implicitDefEqProofs [GP];rfl) ?_;refine A5 (by simp-implicitDefEqProofs [BO];rfl) ?_;refine A5 (ρ:=[.v (.lst Y),.v (.lst (J.map vd)),.v (.lst (fs.map W6)),.v (.lst (J.map vd)),.o (C.map vd),.no,.no,.no,.no]) ?_ ?_
   .simp-implicitDefEqProofs [BE,il,cl,i9,bT dP];rw[lU vd C ?h]
    case h=>exactλX y=>⟨[.v (vd X)],rfl,by simp[DD]⟩
    simp-implicitDefEqProofs [n0]
   refine A5 (ρ:=[.v (.lst Y),.v (.lst (J.map vd)),.v (.lst (fs.map W6)),.v (.lst (J.map vd)),.o (C.map vd),.no,.no,.no,.no]) ?_ ?_
   .simp-implicitDefEqProofs [BE,SS,bT dC,cl,i9];rw[lU vd C ?h]
    case h=>exactλX y=>⟨[.v (vd X),.v (.lst (J.map vd))],rfl,by simp[ZJ (sub X y)]⟩
    simp-implicitDefEqProofs [n0]
   refine OI (ds:=C.map vd) (λρ=>∃z,ρ=[.v (.lst Y),.v (.lst (J.map vd)),.v (.lst (fs.map W6)),.v (.lst (J.map vd)),.o (C.map vd),z,.no,.no,.no]) ?_ ⟨_,rfl⟩ ?_
   .rintro d hd ρ ⟨z,rfl⟩;obtain⟨X,y,rfl⟩:=aAp.mp hd;exact⟨[.v (.lst Y),.v (.lst (J.map vd)),.v (.lst (fs.map W6)),.v (.lst (J.map vd)),.o (C.map vd),.v (vd X),.no,.no,.no],by simp-implicitDefEqProofs [qk,LH X y],_,rfl⟩
   .rintro ρ ⟨z,rfl⟩;have cl':C.length<sizeLine:=aCN b4 (by decide);have fd:∀{x w:Int},0<w->w<1000000000000000->N5 (.int x) (.int w)=.ok (.int (x.fdiv w)):=λw0 w1=>kQ w0 w1;have fm:∀{x w:Int},0<w->V4 (.int x) (.int w)=.ok (.int (x.fmod w)):=λw0=>W8 w0;have l4:∀a b c d:D,rN [a,b,c,d]=.ok (.lst [a,b,c,d]):=λ_ _ _ _=>rfl;refine A5 (by simp-implicitDefEqProofs [CO,bT dC];rfl) ?_;refine A5 (by simp-implicitDefEqProofs [GP];rfl) ?_;refine A5 (ρ:=[.v (.lst Y),.v (.lst (J.map vd)),.v (.lst (fs.map W6)),.v (.lst (J.map vd)),.o (C.map vd++[.tup [.int 0,.int 0,.int 0]]),z,.v (.lst (C.map vd)),.no,.no]) ?_ ?_
    .have tp:dF [.int 0,.int 0,.int 0]=.ok (.tup [.int 0,.int 0,.int 0]):=rfl;simp-implicitDefEqProofs only[X5,cP,oN,R.aa0,tp];exact jk (by rw[aAf];exact cl')
    refine A5 (by simp-implicitDefEqProofs [IP];rfl) ?_;refine A5 (by simp-implicitDefEqProofs [BO,bT dC,ib,eP,nB,bT dP];rfl) ?_;refine A5 (by simp-implicitDefEqProofs [jw,toI,LA,A0,R0,sw,c0,fd,fm,l4,iV];rfl) ?_;refine A5 (by simp-implicitDefEqProofs [GP,bV];rfl) ?_;simp-implicitDefEqProofs [ib,eV,qB]
  .exact absurd h (by simp)
end
end
end K13
section
namespace K13
open PySem L2 DL M
def truth (ns:List Int)(a:ns.length<=63)(b:∀x∈ns,aAV x<=1048576):jB [.lst (ns.map D.int)]=.ok (.bl true):=by unfold jB;exact jk ⟨by simpa using a,WH b⟩
section
variable [Tabs]
def all_mk {l:PySem.W.OpenLaw}{w:cq}{K:kc}{h:cv}{mg:dG}{fa f37 Pt:bb}(X:K.In h)(G:h.Ns be mg)(hfa:mg "law"=some (.ref fa))
  (g0:Got K "way_between" aS)
  (g1:Got K "cross_of" gU)
  (g2:Got K "product_of" cG)
  (g3:Got K "common_divisor" P9)
  (g4:Got K "plane_through" S8)
  (g5:Got K "side_of" lW)
  (g6:Got K "first_real_way" Q0)
  (g7:Got K "dimension_of" C5)
  (g8:Got K "refuse_flat" Z8)
  (g9:Got K "points_on" Z5)
  (g10:Got K "plane_about" Z9)
  (g11:Got K "first_pair" cI)
  (g12:Got K "turn_of" lO)
  (g13:Got K "left_chain" bQ)
  (g14:Got K "ring_of" mF)
  (g15:Got K "pairs_round" aT)
  (g16:Got K "faces_from" bW)
  (g17:SL K "faces_of" K7 Pt)
  (g18:Got K "corners_in" cQ)
  (g19:Got K "body_of" lL)
  (g20:Got K "is_body" mB)
  (g21:Got K "_law_cell" eF)
  (g22:Got K "_law_way" iW)
  (g23:Got K "_law_cross" cB)
  (g24:Got K "_law_product" X3)
  (g25:Got K "_law_point" cU)
  (g26:Got K "_law_points" J5)
  (g27:Got K "_law_solid" N7)
  (g28:Got K "_law_slants" Q8)
  (g29:Got K "_law_slanted" Y4)
  (g30:Got K "_law_land" Z7)
  (g31:Got K "_law_plane" U4)
  (g32:Got K "_law_planes" J8)
  (g33:Got K "_law_on" lG)
  (g34:Got K "_law_corners" M5)
  (g35:Got K "_law_triple" Q3)
  (g36:Got K "_law_highest" C8)
  {od37 an37:Option bb} {sl37:Array (Option ai)} {oc37 kV37 dc37 pm37 cd37 ct37:ai}
  (a37:PySem.W.nsIn K be "law"=some (some (.ref f37))) (l37:K.lookup f37=some ⟨oc37,od37,.func (PySem.W.fnOf "law" "law" (D3 fI) (t6 fI) (c6 fI) .none kV37 dc37 pm37 an37 cd37 ct37),sl37⟩) (e37:PySem.W.codeIn K cd37 "law"=true) (k37:PySem.W.keepIn K (.ref f37)=true)
  (z_abs:PySem.W.nsIn K be "abs"=some none)
  (z_len:PySem.W.nsIn K be "len"=some none)
  (z_any:PySem.W.nsIn K be "any"=some none)
  (z_min:PySem.W.nsIn K be "min"=some none)
  (z_list:PySem.W.nsIn K be "list"=some none)
  (H:PySem.W.nsIn K be "reversed"=some none)
  (z_zip:PySem.W.nsIn K be "zip"=some none)
  (z_sorted:PySem.W.nsIn K be "sorted"=some none)
  (z_set:PySem.W.nsIn K be "set"=some none)
  (z_range:PySem.W.nsIn K be "range"=some none)
  (z_tuple:PySem.W.nsIn K be "tuple"=some none)
  (C:PySem.W.nsIn K be "enumerate"=some none)
  (z_max:PySem.W.nsIn K be "max"=some none)
  (r:PySem.W.nsIn K be "isinstance"=some none)
  (z_bool:PySem.W.nsIn K be "bool"=some none)
  (z_int:PySem.W.nsIn K be "int"=some none)
  (z_sum:PySem.W.nsIn K be "sum"=some none)
  {mi:bb} {O:Option bb} {I J L:Tok} {Q:Nat} {T:Array (Option ai)}
  (U:PySem.W.nsIn K be "NO_WAY"=some (some (.ref mi))) (Y:K.lookup mi=some ⟨.type "tuple",O,.seq #[.int 0 I,.int 0 J,.int 0 L] Q,T⟩)
  (nt:(Pt,tbK)∈Tabs.tbs)
  (truth:∀ns:List Int,ns.length<=63->(∀x∈ns,aAV x<=1048576)->jB [.lst (ns.map D.int)]=.ok (.bl true)):
  ∃fd:ek,(∀(s:a9) (v:ai),BindsTo s fd ⟨[v],[]⟩ [("script",v)])/\∀base:cv,K.In base->base.Ns be mg->jI mg base->FnOk l.prog w K mg base tV 12 fa fd ["script"] (xF K):=by
 have e:=hfa.symm.trans (PySem.W.mg_of X G a37);cases e;have uc:=PySem.W.mg_none_of X G z_abs;have br:=PySem.W.mg_none_of X G z_len;have b_any:=PySem.W.mg_none_of X G z_any;have ud:=PySem.W.mg_none_of X G z_min;have jf:=PySem.W.mg_none_of X G z_list;have kg:=PySem.W.mg_none_of X G H;have b_zip:=PySem.W.mg_none_of X G z_zip;have ar:=PySem.W.mg_none_of X G z_sorted;have ic:=PySem.W.mg_none_of X G z_set;have eu:=PySem.W.mg_none_of X G z_range;have bo:=PySem.W.mg_none_of X G z_tuple;have ji:=PySem.W.mg_none_of X G C;have b_max:=PySem.W.mg_none_of X G z_max;have bu:=PySem.W.mg_none_of X G r;have oa:=PySem.W.mg_none_of X G z_bool;have b_int:=PySem.W.mg_none_of X G z_int;have b_sum:=PySem.W.mg_none_of X G z_sum;have dc:RW K mg "NO_WAY" [0,0,0]:=bq (PySem.W.mg_of X G U) Y;refine⟨PySem.W.fnOf "law" "law" (D3 fI) (t6 fI) (c6 fI) .none kV37 dc37 pm37 an37 cd37 ct37,λs v=>.of_eq rfl,λbase _ _ hB=>?_⟩;have bp:u6 l.prog w K mg base 1 "way_between" 2 l5:=p5 (g0.def X G);have fu:u6 l.prog w K mg base 1 "cross_of" 2 w5:=D2 (g1.def X G);have cb:u6 l.prog w K mg base 1 "product_of" 2 j5:=y9 (g2.def X G);have a:u6 l.prog w K mg base 1 "common_divisor" 1 G7:=P8 uc (g3.def X G);have c:=T1 fu bp a cb (g4.def X G);have r_side_of:u6 l.prog w K mg base 1 "side_of" 2 bD:=kR (g5.def X G);have b:u6 l.prog w K mg base 1 "first_real_way" 1 A4:=J1 dc (g6.def X G);have de:=A7 bp b fu cb br b_any (g7.def X G);have k:=aQ de (g8.def X G);have jl:=G0 r_side_of (g9.def X G);have ie:=J6 bp cb fu c dc (g10.def X G);have t:=cT jl ie de ud (g11.def X G);have r_turn_of:=lX cb fu bp (g12.def X G);have u:=U9 r_turn_of br (g13.def X G);have r_ring_of:=lE u jf kg (g14.def X G);have m:u6 l.prog w K mg base 1 "pairs_round" 1 A2:=aZ jf b_zip (g15.def X G);have y:=bS ie r_ring_of m br ar (g16.def X G);have N:=iL jl k t y ar ic hB nt (g17.def X G);have ig:sN l.prog w K mg base 8 "corners_in" 1 G5:=aP ar ic (g18.def X G);have r_corners_in:=ig.cal;have kh:sN l.prog w K mg base 10 "body_of" 1 L6:=iE N ig (g19.def X G);have ml:=kh.cal;have r_is_body:=fK de ml br (g20.def X G);have gu:u6 l.prog w K mg base 1 "_law_cell" 2 Z3:=C9 br (g21.def X G);have ir:u6 l.prog w K mg base 1 "_law_way" 2 l5:=D7 (g22.def X G);have jc:u6 l.prog w K mg base 1 "_law_cross" 2 w5:=M2 (g23.def X G);have ba:u6 l.prog w K mg base 1 "_law_product" 2 j5:=o8 (g24.def X G);have z:u6 l.prog w K mg base 1 "_law_point" 2 bM:=cC eu bo (g25.def X G);have n:=aU gu z eu ji (g26.def X G);have A:=bX ir jc ba (g27.def X G);have o:u6 l.prog w K mg base 1 "_law_slants" 1 W0:=aK (g28.def X G);have d:u6 l.prog w K mg base 1 "_law_slanted" 2 K4:=W9 (g29.def X G);have E:=eS A n gu d o (g30.def X G);have B:=T9 ba uc bo (g31.def X G);have p:=aH jc ir ba B ar ic eu br ud b_max bo (g32.def X G);have mo:=bH ba (g33.def X G);have f:=Y5 mo br ar ic (g34.def X G);have q:u6 l.prog w K mg base 1 "_law_triple" 1 fN:=aE br bu bo oa b_int (g35.def X G);have g:=X0 mo ba ir bo eu b_sum (g36.def X G);exact SQ (o_law E p q g f r_is_body ml gu kh jf bu ar ic oa<|OC (st:=fI) l37 e37 k37) truth
end
end K13
namespace PySem.W.Fast
def tw7125772194813393972:=0
def tw11421824225139871197:=0
def tw5002629491262307252:=0
def tw10144952544383423480:=0
def tw1317434258519862399:=0
def tw13249630392947074905:=0
def tw12532961761505515290:=0
def tw2160841743892839987:=0
def tw10686191513308675324:=0
def tw6644864811324963019:=0
def tw15787196126963511137:=0
def tw2040367907246714935:=0
def tw14970928680300150842:=0
def tw1578344965086357230:=0
def tw2359907778859965892:=0
def tw15305028429707663000:=0
def tw11688353427420689220:=0
def tw240221961621236444:=0
def tw5379776656948924187:=0
def tw14092829090638065886:=0
def tw3619331524655034881:=0
def tw8563878435221004093:=0
def tw6140398730867654564:=0
def tw9227681386011763146:=0
def tw13927673164129495055:=0
def tw2987785752617798081:=0
def tw5578148559721325800:=0
def tw5359394011662142169:=0
def tw5720357947931010477:=0
def tw3059629657448233654:=0
def tw66104996856128363:=0
def tw6520995588616858778:=0
def tw16009001598847667038:=0
def tw10363061932102559231:=0
def tw2017507151441626588:=0
def tw18117026667113585770:=0
def tw7458216221462997082:=0
def tw16040941444100048982:=0
def tw8704189355546983882:=0
def tw10182340589967791322:=0
def tw14912862946560782776:=0
def tw7341566186608168924:=0
def tw3544616539855497800:=0
def tw5894866007156846166:=0
def tw11205435927306305618:=0
def tw10107950888491928032:=0
def tw7381950302332622701:=0
def tw6400110317624635250:=0
def tw17610264567034476364:=0
def tw153104124049783529:=0
def tw17530595123736749612:=0
def tw16620269845372222535:=0
def tw12513660421009451478:=0
def tw13828454988197488514:=0
def tw1188865974401393421:=0
def tw8428430503913458436:=0
def tw2099189794851736910:=0
def tw12686825964725837829:=0
def tw76604899983375398:=0
def tw11977281054133101299:=0
def tw876619535411508130:=0
def tw16474493221490773378:=0
def tw12404627293277714173:=0
def tw1026155990239225650:=0
def tw59400964641823656:=0
def tw3691441246827328743:=0
def tw5820845469435496193:=0
def tw15636464307003747328:=0
def tw4342214488883988245:=0
def tw12469774908430027323:=0
def tw12974404320276887707:=0
def tw18101344990076957915:=0
def tw3828030375150422083:=0
def tw4174689990121353913:=0
def tw9298322325653037241:=0
def tw15478127336763315644:=0
def tw12703219687957810920:=0
def tw12950857452569826577:=0
def tw14542043136413616035:=0
def tw9729234364210856180:=0
def tw11957838803132390216:=0
def tw13261089141952732396:=0
def tw14359905384169668561:=0
def tw5085703602231570317:=0
def tw12602387442451094967:=0
def tw3018572848257678249:=0
def tw4122280262010797654:=0
def tw309798227163457179:=0
def tw14898629241625486026:=0
def tw10651437201231820371:=0
def tw12343591714160879945:=0
def tw8806668451523642006:=0
def tw14457055810661937648:=0
def tw3196605179568808124:=0
def tw9963520014578187176:=0
def tw11438181543818484633:=0
def tw9128469205222960134:=0
def tw17741564913948946657:=0
def tw10526617398571963874:=0
def tw15862318132391916801:=0
def tw16076899388027667739:=0
def tw108319953237970953:=0
def tw2494654752415684282:=0
def tw1471304593531641310:=0
def tw9177028454587189971:=0
def tw14385476415073148849:=0
def tw12125732840491573542:=0
def tw17439870341866988533:=0
def tw17865040198900381792:=0
def tw7187483547263068487:=0
def tw18094643587028682901:=0
def tw9748773809015729560:=0
def tw10701883550390260100:=0
def tw17387981321595678355:=0
def tw14249817275421176220:=0
def tw8733833230442293480:=0
def tw1825676952965026910:=0
def tw11448914645532003158:=0
def tw1703678460623313863:=0
def tw14358193721188600649:=0
def tw9389639517222042856:=0
def tw12470091601968744535:=0
def tw10550744273496366074:=0
def tw15193912136394906831:=0
def tw13338301402262493178:=0
def tw10443632991958159100:=0
def tw10446440479004299574:=0
def tw12133881336323649239:=0
def tw958702098714322373:=0
def tw17764694213260665668:=0
def tw4641573346878360042:=0
def tw15650912438516095537:=0
def tw16852976468242131339:=0
def tw13351706319532507571:=0
def tw605743365884196665:=0
def tw14152463789655101679:=0
def tw17562622421652111911:=0
def tw15065353460462671746:=0
def tw3846137605810504399:=0
def tw8532958917104442953:=0
def tw6573579736485334221:=0
def tw5253886989287621608:=0
def tw7628127357530251033:=0
def tw17844066693801096682:=0
def tw17258422922850219719:=0
def tw17253923847228450256:=0
def tw4811721167760605473:=0
def tw5840261030708327392:=0
def tw12476544501720093661:=0
def tw2109632938068674780:=0
def tw12514602821466160051:=0
def tw8168141041555967325:=0
def tw10218819333983838428:=0
def tw13367326647290411194:=0
def tw1514981690438286863:=0
end PySem.W.Fast
open PySem PySem.W PyProof.Rows
set_option maxRecDepth 100000 in
theorem PySem.Challenge.cw_stakebodies_k13_corners_by_worths_holds : PySem.Challenge.rw_stakebodies_k13_corners_by_worths.Holds := by
 w_on;o_law;k_head;(case hw=>w_witness2)
 k_fill
 letI tabs9:DL.Tabs:=⟨[(169,K13.tbK)]⟩
 refine DL.UA (l:=PySem.Challenge.rw_stakebodies_k13_corners_by_worths) (k:=12) rfl rfl ⟨rfl,by decide,by decide⟩ (λw h Y=>⟨PySem.W.km_in_of Y,PySem.W.km_tabs_of Y⟩) (DL.WG (c:=173) (by k_mem) (λw=>by kernel_rfl)) (aAI.mpr ⟨aAD,aDk⟩) (λw=>by kernel_rfl) ?F
 case F=>
  intro w mg fa h KX G hmg;refine' K13.all_mk KX G hmg ?_ ?_ ?_ ?_ ?_ ?_ ?_ ?_ ?_ ?_ ?_ ?_ ?_ ?_ ?_ ?_ ?_ ?_ ?_ ?_ ?_ ?_ ?_ ?_ ?_ ?_ ?_ ?_ ?_ ?_ ?_ ?_ ?_ ?_ ?_ ?_ ?_ ?a37 ?l37 ?e37 ?k37 ?z_abs ?z_len ?z_any ?z_min ?z_list ?z_reversed ?z_zip ?z_sorted ?z_set ?z_range ?z_tuple ?z_enumerate ?z_max ?z_isinstance ?z_bool ?z_int ?z_sum ?ca_NO_WAY ?cl_NO_WAY (aBm.mpr rfl) K13.truth
  all_goals first|(refine' DL.bz ?a ?l ?c ?k;(case a=>k_is);(case l=>k_is);(case c=>k_is);(case k=>k_is))|(refine' DL.UN ?a ?l ?c ?k rfl ?n;(case a=>k_is);(case l=>k_is);(case c=>k_is);(case k=>k_is);(case n=>kernel_rfl))|k_is|skip
end
